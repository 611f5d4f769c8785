import PyProof.Rows.All
import Wide.All
import OpenK.AllK
import Wide.FinOn
import PyProof.EqAt
import PyProof.EqKinds
import PyProof.NeKinds
import PyProof.TupleCall
import KE.KIsAll
import KE.KIsNot
import KE.RegKIsAll
import OpenK.KOwn
import PyProof.NsDelKeeps
import PyProof.ReprRoads
import PyProof.ExcArgsOwn
import PyProof.IsiH_list
import Lean
import PyProof.StationsW
import PyProof.Rows.Catch
import OpenK.KMake
import PyProof.DictIter
import KE.KDictList
import PyProof.DictItems
import PyProof.DictWalks
import PyProof.TupleOfSeq
import PySem.SetTable
import PyProof.SetKind
import PyProof.IsRules
import PyProof.Rows.SetFrom
import PyProof.FactsAll.set
import KE.KSortTup
import PyProof.Meets
import PyProof.AutoListH
import PyProof.ListMulRoad
import PyProof.FactsAll.tuple_2
import Wide.Seal
import PyProof.Rows.Range3
import PyProof.CallType
import PyProof.EnumMake
import PyProof.Rows.CallKwBuiltin
import KE.LcSums
import KE.KRevIter
import PyProof.Rows.SortLt
import PyProof.SetRoads
import PySem.Challenge.RW_frontways_k43_whole_trees_grown
set_option linter.all false
set_option autoImplicit false
set_option Elab.async false
set_option maxRecDepth 100000
set_option maxHeartbeats 4000000
set_option maxHeartbeats 8000000
set_option tactic.hygienic false
open PySem renaming wpAny_bind->Ap,Value->Au,Shared->AA,Program->AK,model->AM,World->AR,Paired->A9,FuncData->BV,Around->B6,starEach->Co,boot_len->CL,cLine->CO,wpAny_newObj_type->C5,SetTable->C7,mainGlobals->Do,wpAny_call_entry->DI,compareOp->DZ,wpAny_holding->D0,sysModules->D6,wpAny_mono->EE,wpAny_Call_Name_kw->EM,codeAny_builtin->EW,wpAny_setState_of->FB,codeAny_mono->FG,wpAny_forIn_list->FK,sizeLine_eq->FX,bootBuiltins->FY,Scope->F0,backTo->F3,rawInt->F4,binaryOp->F5,wpAny_typeNameOfWhole_keyiter->G5,mem_of_lookup->G8,wpAny_passesOwn->HE,wpAny_specialOf->HG,wpAny_truthy_bool->HM,wpAny_rule->Iy,wpAny_setField->IG,NameKind->IH,wpAny_typeNameOf_keyiter->IL,wpAny_isInstance->IM,behindInMarks->IZ,wpAny_pyIter_tuple->JA,atKey->JJ,wpAny_seqItems->J2,firstArgMember->J4,assignEach->J8,wpAny_askSetting->Kj,wpAny_field->Kx,sliceBounds->KA,wpAny_ite_split->KL,wpAny_typeOf->KU,tupleKind_room_in1->K0,intKind->K5,wpAny_dictEntries->LD,pyNext->LH,wpAny_of_eq->LL,attributeBase->LO,plainId_quiet->LP,getItem->LW,isSubtype_tuple_tuple->LY,wpAny_execs_nil->L3,letOwnedTupleGo->L4,tupleKeyHash->L9,holding->MC,wpAny_runValue->MG,keywordEach->MS,tupleKind->MT,swapsWith->MU,DictEntry->M0,wpAny_tupleItemsOf->M7,wpAny_newList->No,wpAny_attempt->NA,setSearchFrom->NC,wpAny_pyIter_list->NG,foldedSetIterable->NH,wpAny_pyIter_slot->NJ,callerA->NY,valueAt->N0,wpAny_execs_cons->N1,assign->N2,concat_meets->N4,noFill_tuple_add->N5,IsPart->N6,wpAny_comprehension_free->N7,wpAny_dictEpoch->OK,IsRangeIter->OP,wpAny_pyNext_range_end->OQ,wpAny_pyIter_rangeiter->OR,subscripted->OV,wpAny_Assign_Subscript->OZ,spliced->O1,wpAny_isTrue_Compare1->O2,pyIter->O3,BindsTo->O5,Keyword->O7,collect->O8,wpAny_fieldsOf->Pc,wpAny_isOneOf_keyiter->Pd,wpAny_eqIsQuiet_tuple->Pm,builtinLookup_eq_fast->Pp,isSubtype_type->Ps,wpAny_load->PQ,wpAny_call->PV,backToKw->PY,bindL->PZ,bindC->P0,numAt->P6,isInstance->P7,codeAny_call_builtin->P8,setField->P9,reduceHash->Qb,wpAny_standAt->QH,rangeSize_one->QI,seq_tuple_add->QN,wpAny_handled->QP,wpAny_setEntries_of->Q5,Within->Re,wpAny_pyIter_range->Rs,getMethod->RA,Result->RC,newExc->RO,wpAny_getItem_heap->RY,wpAny_setItem_heap->R0,call_meetsIn->R6,wpAny_pyHash_tuple->R7,wpAny_eqBool_tuple->R8,eqIsQuiet->R9,pickOrder->Se,newList->Sm,storedH->Sn,wpAny_assign_Name->So,slot_list_getitem->Su,wpAny_pyIter_enum->SA,eqIsQuiet_byValue->SC,ofAClassStatement->SD,searchCouldBeSeen->SE,wpAny_storeSet_of->SF,seqIndex_of->SO,wpAny_throw->SU,wpAny_pyHash_int->SY,wpAny_eqBool_int->SZ,GenState->S3,bindArgs->S8,raiseNew->Th,numAt_eq->To,beq_builtin_none->Tu,entryOfKey->TK,builtinsNs->TL,isTrue->TN,wpAny_Name->TR,CmpOp->TU,call_meets->T5,call->T6,IsEnum->T7,IsTupleKey->T9,wpAny_ret_mkInt->Uf,codeAny_of_tree->UD,typeLookup_type->UF,setsByText->UH,wpAny_updateSeq->UI,standAt->UR,setItem->US,recursionLimit->UT,isSubtype_stop->U0,carriedByValue->U1,small_one->U7,cellsFrom->U8,seqIndex?->VA,seqItems?->VC,Model->V1,data2->Wp,typeOf->W4,Params->W5,compEnvC->W7,newTuple->W8,setRelay->XE,entryFor->XI,argsOk->XN
open PySem.W renaming Frag->As,keepIn->AW,mg_none_of->B7,findIn->De,emptyDict->EG,fnOf->E3,instObj->FD,mg_of->G4,nsIn->Hn,codeIn->IF,makesIn->JE,plainGet->J9,hasDictIn->Ll,isFn->L5,plainGet_of->My,lookIn->MD,callWith_K->MX,methodObj->NF,plainOver->NI,takerIn->OE,OpenLaw->OI,cellsFrom_some->OT,methodCall_KW->O6,looks_findIn->PU,callWith_K0->Q0,make_core->Sr,handedIn->S5,InitBack->S6,makes_of->S7,WalkO->VQ,kas_item->XW
open List renaming length_map->AB,mem_cons_self->AC,getD_eq_getElem?_getD->AD,mem_cons_of_mem->AG,range->AI,getElem?_eq_getElem->AJ,getElem?_eq_some_iff->AL,mem_range->AS,length_append->AT,mem_map->AY,size_toArray->AZ,getElem?_map->A2,mem_cons->Be,mem_of_getElem?->Bi,mem_singleton->Bn,getElem?_append_left->By,length_range->BD,append_nil->BI,length_take->BQ,mem_filter->BS,map_append->BU,mem_append->B9,map_cons->Cb,filter_append->Cc,pairwise_cons->Cf,length_filter_le->Cs,getElem?_append_right->Ct,mem_append_right->CC,append_assoc->CD,take_length->CF,length_cons->CM,pairwise_map->CS,nodup_cons->CU,mem_iff_getElem->C0,pairwise_append->C1,pairwise_iff_getElem->C3,filter_cons->Da,length_singleton->Dx,mem_iff_getElem?->DA,take_add_one->DM,map_map->DS,nodup_range->D5,getElem?_range->D8,getElem?_eq_none->Ee,lookup_cons->EA,filter_nil->EL,filter_cons_of_neg->EQ,filter_cons_of_pos->ER,length_pos_of_mem->EU,ext_getElem?->EV,range_succ->EX,length_erase_of_mem->E9,getElem_mem->Fc,lookup->Ff,length->Fh,mem_append_left->Fk,mem_map_of_mem->FF,drop_eq_nil_of_le->FH,all_eq_true->FL,take_append_drop->FV,getElem?_take_of_lt->F8,length_nil->F9,find?_cons->Go,reverse_reverse->G2,length_eq_zero_iff->G6,pairwise_singleton->G7,map_congr_left->G9,reverse_append->Ha,length_drop->Hb,take_of_length_le->He,perm_append_comm->HH,take_sublist->HQ,drop_sublist->HU,nodup_append->HV,mem_erase_of_ne->IA,mem_reverse->IQ,filterMap_cons->IS,any_cons->Jn,filter_eq_nil_iff->JU,pairwise_lt_range->JY,getElem_take->J0,drop_eq_getElem_cons->KM,map_nil->KW,toArray->K3,nodup_nil->K7,getElem?_inj->LF,getElem?_set_self->LG,range'->LN,not_mem_nil->LU,getElem?_set_ne->LZ,Nodup->Mb,filter_map->Mc,mem_of_mem_take->Mn,take_succ_cons->MB,take_zero->MQ,mem_filterMap->MV,map_singleton->M4,getElem_drop->NM,reverse_perm->NN,getLast?_eq_none_iff->NR,getLast?_eq_some_iff->NS,cons_append->N9,getElem?_replicate->Oy,of_mem_zip->OF,length_set->OG,tail->OL,foldl_cons->OM,drop_drop->Pw,pairwise_reverse->PD,getElem_toArray->P5,mem_of_mem_drop->Qr,map_take->QQ,map_drop->QR,filter_sublist->Q4,length_pos_iff->Q7,zip_cons_cons->RH,getElem?_drop->Sc,extract->Sj,mapM_toArray->SG,getElem_inj->S4,getElem_map->Tl,any_eq_true->TH,nil_append->UN,replicate->UU,take->VI,all_cons->VO,take_nil->VZ,map_id'->XT,all_map->XU
open Nat renaming le_refl->AE,zero_le->A8,le_trans->BM,ne_of_lt->Cn,lt_of_lt_of_le->CH,lt_or_ge->C8,le_of_lt->DC,add_sub_cancel->DE,lt_succ_self->D2,lt_of_le_of_lt->E7,lt_succ_of_lt->FC,lt_irrefl->FI,sub_self->IN,pow_le_pow_right->Ki,zero_add->K2,le_succ->LI,pow_succ->Me,mod_lt->Mm,lt_trichotomy->NL,le_of_eq->RE,eq_zero_or_pos->Sa,add_zero->Sb,one_le_two_pow->Sk,le_succ_of_le->SH,succ_le_succ->Tb,div_eq_of_lt->Tx,le_add_right->TB,not_lt_zero->UP,ne_of_gt->WE,lt_trans->Xt,sub_zero->XA,succ_pos->XB,mul_add->X6
open PyProof.Rows renaming Keyed->AF,arrOf->AN,wpS_bind->AO,wpS_pure->A1,SortSt->BF,pendingOf->BG,boot_tuple->C2,elem'->DH,wpS_forRange->DT,callWith_type1->D9,wpS_mono->EB,seqObj->EC,SortKind->EJ,failedOf->FM,IntsAre->FS,boot_list->Hd,wpS_modify->ID,slot_tuple_getitem->IT,callWith_builtin1->JI,wpS_get->J6,boot_min->J7,boot_sorted->K1,AllBare->K6,boot_range->Lc,wpS_lift->MO,envOfC->MY,listUpdate_at->Nw,reverseSlice'->NE,listItems_at->N8,ltAt'->ON,subscriptTail_builtinR->OW,boot_max->Pe,IsTup->PM,gallopOf->QA,Constant_none->QE,subscriptTail->QO,mirror->Sf,setArr->Si,seqEpoch_at->SW,general'->TC,Subscript_->TW,entry_list_sort->T8,bubble->UM,keyLt'->UO,wpAny_notIn_heap->UQ,slicePart_none->UX,slot_list_sort->UY,args_list_sort->UZ,keyLt'_oneType->U3,boot_isinstance->U5,firstMet->XX,boot_bool->X8,lt_int->YA
open PySem.Heap renaming get?_push_of_some->AH,get?_push_size->AU,lt_size->BE,get?_update_self->EH,SameBut->ES,get?_update_other->ET,size_push->Fm,ExtBut->SS
open PySem.Paired renaming length->AQ,snoc->SV
open PySem.Value renaming ref->AV,none->CY,type->DU,isInt_shape->G3,int->KP,isInt->MR,bool->PH,str->Q8,isStrOf->VM,bytes->XY,float->XZ
open Array renaming length_toList->AX,getElem?_eq_getElem->Bz,getElem?_toList->B8,getElem?_eq_some_iff->C9,toList_append->DD,getD->Ex,toList_extract->G1,getElem?_eq_none->Hc,getD_eq_getD_getElem?->Hk,perm_iff_toList_perm->HL,size_setIfInBounds->IP,forIn_toList->JO,toList_push->J1,toList_reverse->Kk,getElem_mem_toList->Op,toList_map->Os,toArray_toList->P4,toList_modify->Q6,toList->Rl,toList_inj->TD,replicate->UA
open Bool renaming false_eq_true->A7,false_ne_true->BN,and_eq_true->DJ,not_true->Ev,eq_iff_iff->F6,not_false->ML,false_and->O4,and_eq_false_iff->PF,and_false->U2,and_self->VX
open Or renaming inl->BC,inr->HR
open Option.some renaming inj->BH
open Classical renaming byContradiction->BO,propDecidable->DB,choose->Fa,choose_spec->FU
open ForInStep renaming done->BY,yield->C6
open Int renaming toNat_natCast->CI,toNat_of_nonneg->ED,le_trans->EK,emod_lt_of_pos->EO,emod_nonneg->FE,le_of_lt->G0,not_lt->IE,eq_ofNat_of_zero_le->IY,le_refl->JS,natCast_nonneg->MW,fdiv_eq_ediv_of_nonneg->Nc,lt_irrefl->QY,mul_one->SL,ediv_one->W0,zero_add->W9
open PySem.NameKind renaming free->C4,cell->HI
open PySem.PassesOwn renaming never->Db
open Ne renaming symm->DF
open PySem.F renaming plainAttrs_list->DL,slot_list_append->D3,type_list_append->D4,slot_dict_keyiterator_next->Fn,slot_tuple_iterator_next->HK,called_set->IR,plain_list_iadd->IU,slot_tuple_hash->IX,slot_tuple_eq->J5,args_tuple_add_2->KS,entry_tuple_add->K9,slot_tuple_add->LJ,slot_tuple_lt->LV,slot_dict_get->LX,args_dict_keyiterator_next_1->L8,entry_dict_keyiterator_next->Mo,args_tuple_iterator_next_1->ME,entry_tuple_iterator_next->M3,entry_proto_collect->M5,plain_proto_collect->M6,slot_dict_getitem->NO,args_tuple_lt_2->OA,args_dict_get_3->OB,entry_list_iadd->OC,entry_tuple_lt->OU,entry_dict_get->O0,slot_dict_len->Pf,slot_set_iter->Pt,slot_dict_iter->Ts,plain_set_new->UE
open PySem.Obj renaming mapSeq->DV,data_mapFields->E8,isFreed_of_fields->J3,cls_mapFields->Lu,mapFields->NB,putSet->UB
open PySem.Heap.SameBut renaming update->D7,refl->YY
open PySem.SetTable renaming insertAt->Eg,runEnd->FA,Probe->IC,turns->NU,grown->UC
open False renaming elim->EF
open List.Pairwise renaming imp_of_mem->EI,nil->Lm,cons->RU,filter->Yf,imp₂->YU,map->Y0
open PySem.Builtin.List renaming listExtendWith->EN,listLengthHint->M8,listSameRef->On
open List.Perm renaming append_left->EZ,refl->K8,append_right->LM,nodup_iff->MA,trans->OO,cons->Pl,swap->Po
open PySem.Builtin.Tuple renaming tupleExact->E6,tupleHashOf->KI,tupleItemsOf->Nl,tupleCompareSizes->TJ
open PySem.Around renaming under_plainId->Fs,under->N3
open PySem.Builtin.Range renaming rangeSize->Fu,small->KB,rangeFitsLong->VE
open Sum renaming inl->FO,inr->NX
open PySem.Calls renaming spliced_cons->FR,spliced_nil->HP,call_function_entry->KG,Name_function_global->M9,callWith_builtin->OX,evalArgs_plain->P3
open Option renaming isSome_iff_exists->F7,isSome_map->Lv,map_some->L7,isSome_iff_ne_none->NV,map_eq_some_iff->OY,getD_none->S9,none->X5
open PyProof.Rows.F renaming plain_set_update_loop->Hm,entry_set_update_loop->K4
open True renaming intro->HZ
open PySem.Builtin.Slice renaming slicePlaces->Ic,sliceAdjust->KF,sliceApplied->Nd,slicePartIndex->UV,sliceFields->WA
open PySem.Builtin.SmallTypes renaming nextOf->Ix
open PySem.Challenge renaming pw_frontways_k43_whole_trees_grown->IB
open PySem.Str renaming ofString->IJ
open PyProof.Rows.SortSt renaming mk'->JP
open Prod renaming ext->Kb
open PySem.SetTable.layClean renaming free->Kt
open PySem.SeqAt renaming EqAt->L6,notIn_tupleAt->Q3,notIn_listAt->RI,in_tupleAt->Ta,in_listAt->TZ
open PySem.Builtin.Dict_items renaming ownsTuple->MH
open PySem.SetTable.probe renaming go->MM
open PySem.SeqAt.EqAt renaming int_int->MZ,same->OH,none_int->Q1,int_none->Q2,int_str->Q9,str_int->Rc
open PyProof renaming noPylong_small->OS
open PySem.Builtin.Dict renaming showsAll->O9,dictSlotNone->WB,pendingCount->WC
open List.cons renaming inj->QU
open PySem.Code renaming isFrame->RF,quiet_builtin->RR,frames->X4
open PySem.WalksT renaming enumerateD->Sz
open PySem.Data renaming fields->SK,cell->U6,seq->W6
open PySem.Builtin renaming sorted->Tk
open Array.Perm renaming refl->UK
open PySem.Builtin.Frozenset renaming updateFrom->U4,newClass->VY,sizeOf->XO
open PyProof.Rows.IsTup renaming new->U9
open PySem.SeqAt.RcNeAt renaming lists_lengths->VS,tuples->YE,lists->YR
open PySem.W.Looks renaming of_pure->VT,ld->Xs,here->Ya
open PySem.Shared renaming TypeIs->VU
open Int.ofNat renaming inj->VW
open PySem.EqNone renaming eq_none_none->V2,eq_none_bool->V3,eq_bool_none->V4,ne_none_none->V7,ne_none_bool->V8,ne_bool_none->V9,eq_none_int->WF,eq_none_str->WG,eq_int_none->WH,eq_str_none->WJ,ne_none_int->WO,ne_none_str->WP,ne_int_none->WS,ne_str_none->WV
open PySem.EqMixed renaming eq_bool_str->V5,eq_str_bool->V6,ne_bool_str->We,ne_str_bool->Wl,eq_int_str->WI,eq_str_int->WN,ne_int_str->WU,ne_str_int->WZ
open PySem.pickOrder renaming go->XG
open PySem.CmpOp renaming NotIn->X0,In->Y4
open PySem.Walks renaming range->X1
open PySem.IsRange renaming new->X3
open PySem.Moved renaming trans->X7
open PySem.W.WShape renaming has->X9
open PySem.Heap.IsSliceOf renaming new->YI
open PySem.W.WData renaming int->YO
open PySem.Within renaming cons->YV
open PySem.Heap.DictOfH renaming new->Y5
open PySem.Heap.DictOf renaming new->Y6
namespace L2
inductive E1 {α0:Type} (p:α0->Prop):Prop
 | mk (a0:α0) (h:p a0):E1 p
inductive E2 {α0 α1:Type} (p:α0->α1->Prop):Prop
 | mk (a0:α0) (a1:α1) (h:p a0 a1):E2 p
inductive E4 {α0 α1 α2 α3:Type} (p:α0->α1->α2->α3->Prop):Prop
 | mk (a0:α0) (a1:α1) (a2:α2) (a3:α3) (h:p a0 a1 a2 a3):E4 p
inductive E5 {α0 α1 α2 α3 α4:Type} (p:α0->α1->α2->α3->α4->Prop):Prop
 | mk (a0:α0) (a1:α1) (a2:α2) (a3:α3) (a4:α4) (h:p a0 a1 a2 a3 a4):E5 p
inductive A3 (p0 p1 p2:Prop):Prop
 | mk (h0:p0) (h1:p1) (h2:p2):A3 p0 p1 p2
inductive A4 (p0 p1 p2 p3:Prop):Prop
 | mk (h0:p0) (h1:p1) (h2:p2) (h3:p3):A4 p0 p1 p2 p3
inductive A5 (p0 p1 p2 p3 p4:Prop):Prop
 | mk (h0:p0) (h1:p1) (h2:p2) (h3:p3) (h4:p4):A5 p0 p1 p2 p3 p4
inductive A6 (p0 p1 p2 p3 p4 p5:Prop):Prop
 | mk (h0:p0) (h1:p1) (h2:p2) (h3:p3) (h4:p4) (h5:p5):A6 p0 p1 p2 p3 p4 p5
end L2
namespace L2
open PySem PySem.Spec PyProof.Rows
abbrev Key:=Sum Int Str
def keyIs:Key->Au->Bool
 | .inl k,v=>MR k v
 | .inr x,v=>VM x v
def keyH(w:AR):Key->Int
 | .inl k=>hashInt k
 | .inr x=>hashStr w x
theorem CJ:∀{k:Key}{v:Au},keyIs k v=true->(∃i t,k=FO i/\v=KP i t)\/(∃x t,k=NX x/\v=Q8 x t)
 | .inl i,v,h=>by
  obtain ⟨t,e⟩:=G3 (k:=i) (v:=v) h;exact .inl ⟨i,t,rfl,e⟩
 | .inr x,v,h=>by
  obtain ⟨t,e⟩:=Value.isStrOf_shape (x:=x) (v:=v) h;exact .inr ⟨x,t,rfl,e⟩
theorem Zk(i:Int)(t:Tok):keyIs (.inl i) (.int i t)=true:=by simp[keyIs,MR]
theorem Yg(x:Str)(t:Tok):keyIs (.inr x) (.str x t)=true:=by simp[keyIs,VM]
theorem AGA(a b:Int):decide ((FO a:Key)=FO b)=(a==b):=by
 by_cases e:a=b
 ·subst e;simp
 ·have h:¬ (FO a:Key)=FO b:=λq=>e (Sum.inl.inj q)
  rw[decide_eq_false h];exact (beq_eq_false_iff_ne.mpr e).symm
theorem AFo(a b:Str):decide ((NX a:Key)=NX b)=decide (a=b):=by
 by_cases e:a=b
 ·subst e;simp
 ·have h:¬ (NX a:Key)=NX b:=λq=>e (Sum.inr.inj q)
  rw[decide_eq_false h,decide_eq_false e]
theorem AFl(a:Int)(b:Str):decide ((FO a:Key)=NX b)=false:=decide_eq_false (λq=>nomatch q)
theorem AFO(a:Str)(b:Int):decide ((NX a:Key)=FO b)=false:=decide_eq_false (λq=>nomatch q)
def Bu(prog:AK)(w:AR):PySem.KeyKind prog w Key where
 is:=keyIs
 hash:=keyH w
 inj:=λv a b ha hb=>by
  rcases CJ ha with⟨i,t,rfl,rfl⟩ | ⟨x,t,rfl,rfl⟩
  ·rcases CJ hb with⟨j,u,rfl,e⟩ | ⟨y,u,rfl,e⟩
   ·injection e with e1 _;rw[e1]
   ·exact nomatch e
  ·rcases CJ hb with⟨j,u,rfl,e⟩ | ⟨y,u,rfl,e⟩
   ·exact nomatch e
   ·injection e with e1 _;rw[e1]
 byValue:=λk v h=>by
  rcases CJ h with⟨i,t,rfl,rfl⟩ | ⟨x,t,rfl,rfl⟩<;>rfl
 pyHash:=λhv h=>by
  rcases CJ hv with⟨i,t,rfl,rfl⟩ | ⟨x,t,rfl,rfl⟩
  ·exact SY h
  ·exact wpAny_pyHash_str h
 eqBool:=λhu hv h=>by
  rcases CJ hu with⟨i,t,rfl,rfl⟩ | ⟨x,t,rfl,rfl⟩
  ·rcases CJ hv with⟨j,u,rfl,rfl⟩ | ⟨y,u,rfl,rfl⟩
   ·rw[AGA] at h;exact SZ h
   ·rw[AFl] at h;exact Q9 i t y u _ _ _ _ h
  ·rcases CJ hv with⟨j,u,rfl,rfl⟩ | ⟨y,u,rfl,rfl⟩
   ·rw[AFO] at h;exact Rc x t j u _ _ _ _ h
   ·rw[AFo] at h;exact wpAny_eqBool_str h
 «strs»:=λk x t v h=>by
  rcases CJ h with⟨i,u,rfl,e⟩ | ⟨y,u,rfl,e⟩
  ·exact nomatch e
  ·injection e with e1 _
   subst e1;cases v<;>rfl
theorem Ss(prog:AK)(w:AR)(i:Int)(t:Tok):(Bu prog w).is (.inl i) (.int i t)=true:=Zk i t
theorem Rb(prog:AK)(w:AR)(x:Str)(t:Tok):(Bu prog w).is (.inr x) (.str x t)=true:=Yg x t
inductive V where
 | non | bl (b:Bool) | int (i:Int) | str (x:Str) | byt (b:Array UInt8) | flt (b:UInt64) | ref (a:Addr) | ty (n:String)
 deriving DecidableEq
def RelV:V->Au->Prop
 | .non,u=>u=CY
 | .bl b,u=>u=PH b
 | .int i,u=>∃t,u=KP i t
 | .str x,u=>∃t,u=Q8 x t
 | .byt b,u=>∃t,u=XY b t
 | .flt b,u=>∃t,u=XZ b t
 | .ref a,u=>u=AV a
 | .ty n,u=>u=DU n
abbrev Vals:List V->List Au->Prop:=A9 RelV
theorem Vals.length{xs:List V}{us:List Au}(r:Vals xs us):xs.length=us.length:=AQ r
theorem Vals.get:∀{xs:List V}{us:List Au}{i:Nat}{x:V},Vals xs us->xs[i]?=some x->∃u,us[i]?=some u/\RelV x u
 | _,_,_,_,.nil,e=>by simp at e
 | _,_,0,_,.cons r _,e=>by simp at e;subst e;exact ⟨_,rfl,r⟩
 | _,_,i+1,x,.cons _ t,e=>by
  obtain ⟨u,h1,h2⟩:=Vals.get (i:=i) (x:=x) t (by simpa using e);exact ⟨u,by simpa using h1,h2⟩
theorem Vals.set{x:V}{u:Au}(r:RelV x u):∀{xs:List V}{us:List Au} (i:Nat),Vals xs us->Vals (xs.set i x) (us.set i u)
 | _,_,_,.nil=>.nil
 | _,_,0,.cons _ t=>.cons r t
 | _,_,i+1,.cons q t=>.cons q (Vals.set r i t)
theorem Vals.append:∀{xs ys:List V}{us ws:List Au},Vals xs us->Vals ys ws->Vals (xs++ys) (us++ws)
 | _,_,_,_,.nil,s=>s
 | _,_,_,_,.cons r t,s=>.cons r (Vals.append t s)
theorem Vals.take:∀{xs:List V}{us:List Au} (n:Nat),Vals xs us->Vals (xs.take n) (us.take n)
 | _,_,0,_=>.nil
 | _,_,_+1,.nil=>.nil
 | _,_,n+1,.cons r t=>.cons r (Vals.take n t)
theorem Vals.drop:∀{xs:List V}{us:List Au} (n:Nat),Vals xs us->Vals (xs.drop n) (us.drop n)
 | _,_,0,r=>r
 | _,_,_+1,.nil=>.nil
 | _,_,n+1,.cons _ t=>Vals.drop n t
def RelO:Option V->Option Au->Prop
 | some v,some u=>RelV v u
 | none,none=>True
 | _,_=>False
def KV{κ:Type}:List (κ×V)->List (κ×Au)->Prop:=A9 λ(p:κ×V) (q:κ×Au)=>p.1=q.1/\RelV p.2 q.2
def kV:Key->V
 | .inl i=>.int i
 | .inr x=>.str x
inductive HO where
 | lst (xs:List V)
 | tup (xs:List V)
 | dK (kvs:List (Key×V)) | dT (kvs:List (List Key×V))
 | set (S:Int->Bool) (n:Nat)
 | ins (C dx:Addr) (fs:List (Str×V))
 | own (x:Addr)
 | xd (fs:List (Str×V))
 | met (f x:Addr)
 | rng (lo hi:Int)
 | frz (o:Obj) (u:HO)
 | tbl (ps:Array Au)
 | ext (φ:Heap->Prop)
abbrev Hp:=Addr->Option HO
def upd(H:Hp)(a:Addr)(o:HO):Hp:=λb=>if b=a then some o else H b
theorem Ab{H:Hp}{a:Addr}{o:HO}:upd H a o a=some o:=by unfold upd;rw[if_pos rfl]
theorem Af{H:Hp}{a b:Addr}{o:HO}(h:b≠a):upd H a o b=H b:=by unfold upd;rw[if_neg h]
theorem ADb{H:Hp}{a:Addr}{o u:HO}:upd (upd H a o) a u=upd H a u:=by
 funext b;unfold upd;split<;>rfl
theorem Cq{H:Hp}{a b:Addr}{o u:HO}(h:H a=some o)(h':H b=some u)(d:o≠u):a≠b:=by
 intro e;subst e;rw[h] at h';exact d (BH h')
theorem Ae{H:Hp}{a b:Addr}{o:HO}(h:H a=some o)(h':H b=none):a≠b:=by
 intro e;subst e;rw[h] at h';cases h'
section
variable (P:AK)(w:AR)
def ObjOk(H:Hp)(h:Heap)(a:Addr):HO->Prop
 | .lst xs=>xs.length<=sizeLine/\∃(its:List Au) (n:Nat),Vals xs its/\h.get? a=some {cls:=.type "list",data:=.seq its.toArray n}
 | .tup xs=>xs.length<=sizeLine/\∃its:List Au,Vals xs its/\PM h a its.toArray
 | .dK kvs=>kvs.length<=sizeLine/\(a==D6)=false/\∃vs,KV kvs vs/\h.DictOf (Bu P w) a vs
 | .dT kvs=>kvs.length<=sizeLine/\(a==D6)=false/\∃xs:List (List Key×Addr×Au),
   A9 (λ(p:List Key×V) (q:List Key×Addr×Au)=>p.1=q.1/\H q.2.1=some (.tup (p.1.map kV))/\RelV p.2 q.2.2) kvs xs /\
   ∃o es ep,h.get? a=some o/\o.ExactDict/\o.data=.dict es ep/\es.toList=xs.map (TK (MT (Bu P w)))/\(xs.map (·.1)).Nodup
 | .set S n=>h.SetOf (K5 P w) a S n
 | .ins C dx fs=>H dx=some (.own a)/\fs.length<=1000/\dx≠a/\h.get? a=some (FD C dx) /\
   ∃mA,h.Ns1 dx mA/\(∀f,RelO (fs.lookup f) (mA f))/\Re mA (fs.map (·.1))
 | .own _=>∃o,h.get? a=some o
 | .xd fs=>∃mA,h.Ns1 a mA/\∀f,RelO (fs.lookup f) (mA f)
 | .rng lo hi=>∃t u v,h.get? a=some {cls:=.type "range",data:=.fields #[.int lo t,.int hi u,.int 1 v]}
 | .frz o u=>h.get? a=some o/\ObjOk H h a u
 | .tbl ps=>h.get? a=some {cls:=.none,data:=.fields ps}
 | .met f x=>h.get? a=some (NF (.ref f) (.ref x))
 | .ext φ=>φ h/\(∃o,h.get? a=some o)/\∀h1 h2:Heap,φ h1->(∀o,h1.get? a=some o->h2.get? a=some o)->φ h2
def HOk(H:Hp)(h:Heap):Prop:=∀a o,H a=some o->ObjOk P w H h a o
end
section
variable{P:AK}{w:AR}{H H':Hp}{h h':Heap}{a:Addr}{o:HO}
theorem ObjOk.lt(x:ObjOk P w H h a o):a<h.objs.size:=by
 cases o with
 | lst xs=>obtain ⟨_,_,_,_,e⟩:=x;exact BE e
 | tup xs=>obtain ⟨_,_,_,p⟩:=x;exact p.lt
 | dK kvs=>obtain ⟨_,_,_,_,o,_,_,e,_⟩:=x;exact BE e
 | dT kvs=>obtain ⟨_,_,_,_,o,_,_,e,_⟩:=x;exact BE e
 | set S n=>obtain ⟨o,_,_,_,e,_⟩:=x;exact BE e
 | ins C dx fs=>obtain ⟨_,_,_,e,_⟩:=x;exact BE e
 | own y=>obtain ⟨_,e⟩:=x;exact BE e
 | xd fs=>obtain ⟨_,⟨_,_,_,e,_⟩,_⟩:=x;exact BE e
 | rng lo hi=>obtain ⟨_,_,_,e⟩:=x;exact BE e
 | frz ob u=>obtain ⟨e,_⟩:=x;exact BE e
 | tbl ps=>exact BE (show h.get? a=some _ from x)
 | met f y=>exact BE (show h.get? a=some _ from x)
 | ext φ=>obtain ⟨_,⟨_,e⟩,_⟩:=x;exact BE e
theorem Paired.mapP{α β:Type}{F G:α->β->Prop}:∀{l₁:List α}{l₂:List β},A9 F l₁ l₂->(∀a b,F a b->G a b)->A9 G l₁ l₂
 | _,_,.nil,_=>.nil
 | _,_,.cons r t,f=>.cons (f _ _ r) (Paired.mapP t f)
theorem ObjOk.stay(x:ObjOk P w H h a o)(k:∀b u,(b=a\/H b=some (.own a))->h.get? b=some u->h'.get? b=some u)
  (ho:∀b,H b=some (.own a)->H' b=some (.own a)) (ht:∀b xs,H b=some (.tup xs)->H' b=some (.tup xs)):ObjOk P w H' h' a o:=by
 induction o with
 | lst xs=>obtain ⟨z,its,n,r,e⟩:=x;exact ⟨z,its,n,r,k _ _ (.inl rfl) e⟩
 | tup xs=>obtain ⟨z,its,r,ob,e,c⟩:=x;exact ⟨z,its,r,ob,k _ _ (.inl rfl) e,c⟩
 | dK kvs=>obtain ⟨z,y,vs,r,ob,es,ep,e,c⟩:=x;exact ⟨z,y,vs,r,ob,es,ep,k _ _ (.inl rfl) e,c⟩
 | dT kvs =>
  obtain ⟨z,y,xs,r,ob,es,ep,e,c⟩:=x;exact ⟨z,y,xs,Paired.mapP r λp q z=>⟨z.1,ht _ _ z.2.1,z.2.2⟩,ob,es,ep,k _ _ (.inl rfl) e,c⟩
 | set S n=>obtain ⟨ob,es,ep,t,e,c⟩:=x;exact ⟨ob,es,ep,t,k _ _ (.inl rfl) e,c⟩
 | ins C dx fs =>
  obtain ⟨d,z,ne,e,mA,⟨od,es,ep,e2,c⟩,r⟩:=x;exact ⟨ho _ d,z,ne,k _ _ (.inl rfl) e,mA,⟨od,es,ep,k _ _ (.inr d) e2,c⟩,r⟩
 | own y=>obtain ⟨ob,e⟩:=x;exact ⟨ob,k _ _ (.inl rfl) e⟩
 | xd fs=>obtain ⟨mA,⟨od,es,ep,e,c⟩,r⟩:=x;exact ⟨mA,⟨od,es,ep,k _ _ (.inl rfl) e,c⟩,r⟩
 | rng lo hi=>obtain ⟨t,u,v,e⟩:=x;exact ⟨t,u,v,k _ _ (.inl rfl) e⟩
 | frz ob u ih=>obtain ⟨e,q⟩:=x;exact ⟨k _ _ (.inl rfl) e,ih q⟩
 | tbl ps =>
  have e:h.get? a=some {cls:=.none,data:=.fields ps}:=x;show h'.get? a=some {cls:=.none,data:=.fields ps};exact k a _ (.inl rfl) e
 | met f y =>
  have e:h.get? a=some (NF (.ref f) (.ref y)):=x;show h'.get? a=some (NF (.ref f) (.ref y));exact k a _ (.inl rfl) e
 | ext φ=>obtain ⟨p,⟨o,e⟩,st⟩:=x;exact ⟨st _ _ p λo q=>k _ _ (.inl rfl) q,⟨o,k _ _ (.inl rfl) e⟩,st⟩
theorem HOk.lt(x:HOk P w H h)(e:H a=some o):a<h.objs.size:=(x a o e).lt
theorem HOk.fresh(x:HOk P w H h)(e:h.objs.size<=a):H a=none:=by
 cases q:H a with
 | none=>rfl
 | some u=>exact absurd (CH (x.lt q) e) (FI _)
theorem HOk.kept(x:HOk P w H h)(k:∀b u,h.get? b=some u->h'.get? b=some u):HOk P w H h':=λa o e =>
 (x a o e).stay (λb u _ q=>k b u q) (λ_ q=>q) λ_ _ q=>q
theorem HOk.laid(x:HOk P w H h)(k:∀b u,h.get? b=some u->h'.get? b=some u)(hp:h.objs.size<=a)(new:ObjOk P w (upd H a o) h' a o):HOk P w (upd H a o) h':=λb u e=>by
 have hn:=x.fresh hp;by_cases hb:b=a
 ·subst hb;rw[Ab] at e;cases e;exact new
 ·rw[Af hb] at e
  exact (x b u e).stay (λc v _ q=>k c v q) (λc q=>by rw[Af (Ae q hn)];exact q) λc xs q=>by rw[Af (Ae q hn)];exact q
end
def Rd(H:Hp)(a:Addr)(u:HO):Prop:=H a=some u\/∃o,H a=some (.frz o u)
theorem Rd.ok{P:AK}{w:AR}{H:Hp}{h:Heap}{a:Addr}{u:HO}(r:Rd H a u)(x:HOk P w H h):ObjOk P w H h a u:=by
 rcases r with r | ⟨o,r⟩
 ·exact x a u r
 ·obtain ⟨_,q⟩:=x a _ r
  exact q
def Mut:Option HO->Prop
 | some (.lst _)=>True
 | some (.dK _)=>True
 | some (.dT _)=>True
 | some (.set _ _)=>True
 | some (.ins _ _ _)=>True
 | some (.ext _)=>True
 | _=>False
section
variable{P:AK}{w:AR}{H:Hp}{h h':Heap}{x e:Addr}{o':HO}
theorem HOk.write(ok:HOk P w H h)(mu:Mut (H x))(he:e=x\/H e=some (.own x))(k:∀b u,b≠e->h.get? b=some u->h'.get? b=some u)(heo:∃u,h'.get? e=some u)
  (new:ObjOk P w (upd H x o') h' x o'):HOk P w (upd H x o') h':=λb u q=>by
 have nown:∀c y,H c=some (.own y)->c≠x:=λc y r z=>by subst z;rw[r] at mu;exact mu
 have ntup:∀c xs,H c=some (.tup xs)->c≠x:=λc xs r z=>by subst z;rw[r] at mu;exact mu
 by_cases hb:b=x
 ·subst hb;rw[Ab] at q;cases q;exact new
 ·rw[Af hb] at q
  by_cases hbe:b=e
  ·have q':H b=some (.own x):=by
    rcases he with z | z
    ·exact absurd (hbe.trans z) hb
    ·rw[hbe];exact z
   rw[q] at q';cases q';obtain ⟨v,hv⟩:=heo;exact ⟨v,by rw[hbe];exact hv⟩
  ·refine (ok b u q).stay (λc v hc r=>k c v ?_ r) (λc r=>by rw[Af (nown c b r)];exact r) λc xs r=>by rw[Af (ntup c xs r)];exact r
   rcases hc with rfl | hc
   ·exact hbe
   ·rintro rfl
    rcases he with z | z
    ·exact nown c b hc z
    ·rw[hc] at z;cases z;exact hb rfl
end
structure Un(fs ex:List Addr)(H H':Hp)(h h':Heap):Prop where
 keep:∀b o,h.get? b=some o->H b=none->b∉fs->b∉ex->h'.get? b=some o
 slot:∀b o,h.get? b=some o->H b=none->b∈fs->b∉ex->∃sl,h'.get? b=some {o with slots:=sl}
 free:∀b o,h.get? b=some o->H b=none->b∉ex->H' b=none
 there:∀b o,h.get? b=some o->b∉ex->∃o',h'.get? b=some o'
 tups:∀b xs,H b=some (.tup xs)->H' b=some (.tup xs)
 frzs:∀b o u,H b=some (.frz o u)->H' b=some (.frz o u)
 tbls:∀b ps,H b=some (.tbl ps)->∃more,H' b=some (.tbl (ps++more))
section
variable{fs fs' ex ex':List Addr}{H H1 H2:Hp}{h h1 h2 h':Heap}{a x e:Addr}{o:HO}
theorem Un.any(u:Un fs ex H H1 h h1){b:Addr}{ob:Obj}(q:h.get? b=some ob)(n:H b=none)(hx:b∉ex):∃sl,h1.get? b=some {ob with slots:=sl}:=by
 by_cases hb:b∈fs
 ·exact u.slot b ob q n hb hx
 ·exact ⟨ob.slots,u.keep b ob q n hb hx⟩
theorem Un.kept(k:∀b u,h.get? b=some u->h'.get? b=some u):Un fs ex H H h h' :=
 ⟨λb ob q _ _ _=>k b ob q,λb ob q _ _ _=>⟨ob.slots,k b ob q⟩,λ_ _ _ n _=>n,λb ob q _=>⟨ob,k b ob q⟩,λ_ _ q=>q,λ_ _ _ q=>q,λ_ ps q=>⟨#[],by rw[q];simp⟩⟩
theorem Un.refl:Un fs ex H H h h:=Un.kept λ_ _ q=>q
theorem Un.laid(k:∀b u,h.get? b=some u->h'.get? b=some u)(hp:h.objs.size<=a)(hn:H a=none):Un fs ex H (upd H a o) h h' where
 keep:=λb u q _ _ _=>k b u q
 slot:=λb u q _ _ _=>⟨u.slots,k b u q⟩
 free:=λb u q n _=>by rw[Af (Cn (CH (BE q) hp))];exact n
 there:=λb u q _=>⟨u,k b u q⟩
 tups:=λb xs q=>by rw[Af (Ae q hn)];exact q
 frzs:=λb u xs q=>by rw[Af (Ae q hn)];exact q
 tbls:=λb ps q=>⟨#[],by rw[Af (Ae q hn),q];simp⟩
theorem Un.write(mu:Mut (H x))(he:e=x\/H e=some (.own x))(k:∀b u,b≠e->h.get? b=some u->h'.get? b=some u)(heo:∃u,h'.get? e=some u):Un fs ex H (upd H x o) h h':=by
 have hx:∀b,H b=none->b≠x:=λb n z=>by subst z;rw[n] at mu;exact mu
 have hb:∀b,H b=none->b≠e:=λb n z=>by
  subst z;rcases he with r | r
  ·exact hx b n r
  ·rw[n] at r;cases r
 have hm:∀b u,H b=some u->¬ Mut (some u)->b≠x:=λb u q nm z=>by subst z;rw[q] at mu;exact nm mu
 refine ⟨λb u q n _ _=>k b u (hb b n) q,λb u q n _ _=>⟨u.slots,k b u (hb b n) q⟩,λb u q n _=>by rw[Af (hx b n)];exact n,λb u q _=>?_,
  λb xs q=>by rw[Af (hm b _ q λz=>z)];exact q,λb u xs q=>by rw[Af (hm b _ q λz=>z)];exact q,λb ps q=>⟨#[],by rw[Af (hm b _ q λz=>z),q];simp⟩⟩
 by_cases hbe:b=e
 ·subst hbe;exact heo
 ·exact ⟨u,k b u hbe q⟩
end
def trk(h:Heap)(H:Hp):List Addr:=(AI h.objs.size).filter λa=>(H a).isSome
def hidT(h:Heap)(H:Hp):Heap:=PySem.W.hideAll h (trk h H)
theorem Zf(h:Heap)(H:Hp):(hidT h H).objs.size=h.objs.size:=PySem.W.hideAll_size _ _
theorem ABd{h:Heap}{H:Hp}{b:Addr}{o:Obj}(e:h.get? b=some o)(n:H b=none):(hidT h H).get? b=some o :=
 PySem.W.hideAll_get _ e λhm=>by
  have q:(H b).isSome=true:=(BS.mp hm).2;rw[n] at q;simp at q
theorem ADu{h:Heap}{H:Hp}{b:Addr}{o:Obj}(e:(hidT h H).get? b=some o):h.get? b=some o/\H b=none:=by
 have e':h.get? b=some o:=PySem.W.of_hideAll (trk h H) e;refine ⟨e',?_⟩;cases q:H b with
 | none=>rfl
 | some x =>
  have hm:b∈trk h H:=BS.mpr ⟨AS.mpr (BE e'),by simp[q]⟩;have z:(hidT h H).get? b=none:=PySem.W.hideAll_none (trk h H) hm;rw[z] at e;cases e
def allNews(g h:Heap)(L:Addr):List (Addr×Obj):=(AI h.objs.size).filterMap λa=>if a=L\/(g.get? a).isSome=true then none else (h.get? a).map λo=>(a,o)
def rest(g h:Heap)(L d:Addr):List (Addr×Obj):=(allNews g h L).filter λp=>decide (p.1≠d)
structure Mod(K:As)(mg:Str->Option Au)(base:Heap):Prop where
 kin:K.In base
 glob:base.Ns Do mg
 blt:∃mb,base.Ns TL mb/\∀x:Str,x≠"__name__"->mb x=FY x
 nolimit:base.NoLimit
structure Cx where
 prog:AK
 w:AR
 K:As
 mg:Str->Option Au
 base:Heap
 A:B6
 N:List Str
 s₀:AA
 H₀:Hp
 env:Env
 outer:List Env
 stack:List Env
 ex:List Addr
 fn:Str->Bool
 calm:Bool
 pn:List (Addr×Obj)
 xe:Au->AA->Prop
def frs(l:List Env):List Addr:=l.filterMap (·.frame)
abbrev Cx.fs(X:Cx):List Addr:=frs X.outer
def Vis(sc:F0)(x:Str):Prop:=sc.names.lookup x=some .local\/sc.names.lookup x=some .cell\/sc.names.lookup x=some .free
def Loc(sc:F0)(x:Str):Prop:=sc.names.lookup x=some .local\/sc.names.lookup x=some .cell
def Look(env:Env)(h:Heap)(m:Str->Option Au)(x:Str)(u:Au):Prop :=
 (env.kindOf x=some .local/\m x=some u)\/((env.kindOf x=some .cell\/env.kindOf x=some .free)/\∃c,env.cells.lookup x=some c/\h.IsCell c (some u))
structure Cx.Ok(X:Cx):Prop where
 mod:Mod X.K X.mg X.base
 kind:X.env.scope.kind=.function
 glob:X.env.globals=Do
 blt:X.env.builtins=TL
 above:X.s₀.heap.objs.size<=X.env.locals
 inj:∀x y c,X.env.cells.lookup x=some c->X.env.cells.lookup y=some c->x=y
 has:∀x,(X.env.kindOf x=some .cell\/X.env.kindOf x=some .free)->∃c,X.env.cells.lookup x=some c
 cab:∀x c,X.fn x=true->X.env.cells.lookup x=some c->X.s₀.heap.objs.size<=c
 hd:X.calm=true->X.A.handled=none
 frames:X.A.frames=some X.stack
 stk:X.stack=X.outer\/(X.stack=X.env::X.outer/\X.env.frame=some X.env.locals)
 exf:∀b∈X.ex,b≠X.env.locals/\∀x c,X.env.cells.lookup x=some c->c≠b
 bs:∀b o,X.base.get? b=some o->X.s₀.heap.get? b=some o/\X.H₀ b=none
 bsz:X.base.objs.size<=X.s₀.heap.objs.size
 noex:∀b o,X.base.get? b=some o->b∉X.ex
 exfs:∀b∈X.ex,b∉X.fs
 funs:X.s₀.heap.FunFrames X.base X.outer
 frf:∀b∈X.fs,X.H₀ b=none
structure Inv(X:Cx)(pins:List (Addr×Obj))(σ:List (Option V))(H:Hp)(s:AA):Prop where
 ok:X.Ok
 os:s.os=X.s₀.os
 bare:K6 s.gens
 base:Un X.fs X.ex X.H₀ H X.s₀.heap s.heap
 loc:∃m,s.heap.Ns X.env.locals m/\∀(i:Nat) (x:Str) (v:V),X.N[i]?=some x->σ[i]?=some (some v)->Vis X.env.scope x->∃u,RelV v u/\Look X.env s.heap m x u
 cell:∀x c,X.env.cells.lookup x=some c->∃v,s.heap.IsCell c v
 free:H X.env.locals=none
 freeC:∀x c,X.env.cells.lookup x=some c->H c=none
 pin:∀p∈X.pn++pins,s.heap.get? p.1=some p.2/\H p.1=none/\p.1≠X.env.locals/\p.1∉X.fs/\∀v,p.2.data≠.cell v
 hok:HOk X.prog X.w H s.heap
 len:σ.length=X.N.length
section
variable{X:Cx}{pins:List (Addr×Obj)}{σ:List (Option V)}{H H':Hp}{s:AA}{h':Heap}
theorem Cx.Ok.nofr(ok:X.Ok){b:Addr}{o:Obj}(e:X.base.get? b=some o):b∉X.fs:=λhb=>by
 have:=(ok.funs.mem hb).1;rw[e] at this;cases this
theorem Inv.bs(I:Inv X pins σ H s):∀b o,X.base.get? b=some o->s.heap.get? b=some o/\H b=none:=λb o e =>
 ⟨I.base.keep b o (I.ok.bs b o e).1 (I.ok.bs b o e).2 (I.ok.nofr e) (I.ok.noex b o e),I.base.free b o (I.ok.bs b o e).1 (I.ok.bs b o e).2 (I.ok.noex b o e)⟩
theorem Inv.bk(I:Inv X pins σ H s):∀b o,X.base.get? b=some o->s.heap.get? b=some o:=λb o e=>(I.bs b o e).1
theorem Inv.mod(I:Inv X pins σ H s):Mod X.K X.mg X.base:=I.ok.mod
theorem Inv.kIn(I:Inv X pins σ H s):X.K.In s.heap:=I.ok.mod.kin.keeps I.bk
theorem Inv.lt(I:Inv X pins σ H s):X.env.locals<s.heap.objs.size:=let ⟨_,hn,_⟩:=I.loc;hn.lt
theorem Inv.sz(I:Inv X pins σ H s):X.s₀.heap.objs.size<=s.heap.objs.size:=BM I.ok.above (DC I.lt)
theorem Inv.nofs(I:Inv X pins σ H s){a:Addr}(h:s.heap.objs.size<=a):a∉X.fs:=λhb=>by
 obtain ⟨_,o,ho,_⟩:=I.ok.funs.mem hb;exact absurd (CH (BE ho) (BM I.sz h)) (FI _)
theorem Inv.cne(I:Inv X pins σ H s):∀x c,X.env.cells.lookup x=some c->c≠X.env.locals:=λx c e z=>by
 obtain ⟨v,o,ho,hd⟩:=I.cell x c e;obtain ⟨m,⟨o',es,ep,ho',hd',_⟩,_⟩:=I.loc;rw[z,ho'] at ho;cases ho;rw[hd'] at hd;cases hd
theorem Inv.funs(I:Inv X pins σ H s):s.heap.FunFrames X.base X.outer:=by
 have all:∀(l:List Env),(∀b∈frs l,b∈X.fs)->X.s₀.heap.FunFrames X.base l->s.heap.FunFrames X.base l:=by
  intro l
  induction l with
  | nil=>intro _ _;trivial
  | cons env r ih =>
   intro hs hl;obtain ⟨hk,⟨L,o,hf,hn,ho,hd⟩,hr⟩:=hl;have hL:L∈X.fs:=hs L (by unfold frs;rw[IS,hf];exact AC);obtain ⟨sl,e⟩:=I.base.slot L o ho (I.ok.frf L hL) hL λz=>I.ok.exfs L z hL;exact ⟨hk,⟨L,_,hf,hn,e,hd⟩,ih (λb hb=>hs b (by unfold frs;rw[IS,hf];exact AG _ hb)) hr⟩
 exact all X.outer (λ_ hb=>hb) I.ok.funs
theorem Inv.stack(I:Inv X pins σ H s):s.heap.FunFrames X.base X.stack:=by
 rcases I.ok.stk with e | ⟨e,hf⟩
 ·rw[e];exact I.funs
 ·rw[e]
  obtain ⟨m,hn,_⟩:=I.loc;refine .cons (by rw[I.ok.kind];decide) hf hn ?_ I.funs;exact Heap.get?_none_of_le (BM I.ok.bsz I.ok.above)
theorem Inv.stkSub(I:Inv X pins σ H s):∀b∈frs X.stack,b∈X.env.locals::X.fs:=λb hb=>by
 rcases I.ok.stk with e | ⟨e,hf⟩
 ·rw[e] at hb;exact AG _ hb
 ·rw[e] at hb
  unfold frs at hb;rw[IS,hf] at hb;exact hb
theorem Inv.stkFree(I:Inv X pins σ H s):∀b∈frs X.stack,H b=none:=λb hb=>by
 rcases Be.mp (I.stkSub b hb) with e | hb
 ·rw[e];exact I.free
 ·obtain ⟨_,o,ho,_⟩:=I.ok.funs.mem hb
  exact I.base.free b o ho (I.ok.frf b hb) λz=>I.ok.exfs b z hb
theorem Inv.step{g':Array S3}{t':Nat}{d':Drawn}{ch:List Addr}(I:Inv X pins σ H s)
  (hch:∀b∈ch,(b∈X.ex\/X.s₀.heap.objs.size<=b)/\b≠X.env.locals/\(∀x c,X.env.cells.lookup x=some c->c≠b)/\∀p∈X.pn++pins,p.1≠b)
  (keep:∀b o,b≠X.env.locals->b∉X.fs->b∉ch->s.heap.get? b=some o->H b=none->h'.get? b=some o)
  (slot:∀b o,b≠X.env.locals->b∈X.fs->b∉ch->s.heap.get? b=some o->H b=none->∃sl,h'.get? b=some {o with slots:=sl}) (free:∀b o,b∉ch->s.heap.get? b=some o->H b=none->H' b=none)
  (there:∀b o,b∉ch->s.heap.get? b=some o->∃o',h'.get? b=some o')
  (tups:∀b xs,H b=some (.tup xs)->H' b=some (.tup xs)) (frzs:∀b o u,H b=some (.frz o u)->H' b=some (.frz o u)) (tbls:∀b ps,H b=some (.tbl ps)->∃more,H' b=some (.tbl (ps++more)))
  (ns:∀m,s.heap.Ns X.env.locals m->h'.Ns X.env.locals m) (hok:HOk X.prog X.w H' h') (hg:K6 g') :
  Inv X pins σ H' {s with heap:=h',gens:=g',drawn:=d',toks:=t'}:=by
 have neL:∀b o,X.s₀.heap.get? b=some o->b≠X.env.locals:=λb o e=>Cn (CH (BE e) I.ok.above);have neC:∀b o,X.s₀.heap.get? b=some o->b∉X.ex->b∉ch:=λb o e hx hb=>by
  rcases (hch b hb).1 with z | z
  ·exact hx z
  ·exact absurd (CH (BE e) z) (FI _)
 have cellK:∀x c,X.env.cells.lookup x=some c->∀v,s.heap.IsCell c v->h'.IsCell c v:=λx c e v ⟨o,ho,hd⟩=>by
  have nch:c∉ch:=λz=>(hch c z).2.2.1 x c e rfl;by_cases hc:c∈X.fs
  ·obtain ⟨sl,q⟩:=slot c o (I.cne x c e) hc nch ho (I.freeC x c e)
   exact ⟨_,q,hd⟩
  ·exact ⟨o,keep c o (I.cne x c e) hc nch ho (I.freeC x c e),hd⟩
 refine ⟨I.ok,I.os,hg,⟨λb o e n hb hx=>?_,λb o e n hb hx=>?_,λb o e n hx=>?_,λb o e hx=>?_,λb xs e=>tups b xs (I.base.tups b xs e),λb o xs e=>frzs b o xs (I.base.frzs b o xs e),λb ps e=>?_⟩,?_,λx c e=>?_,?_,λx c e=>?_,λp hp=>?_,hok,I.len⟩
 ·exact keep b o (neL b o e) hb (neC b o e hx) (I.base.keep b o e n hb hx) (I.base.free b o e n hx)
 ·obtain ⟨sl,e1⟩:=I.base.slot b o e n hb hx
  obtain ⟨sl',e2⟩:=slot b _ (neL b o e) hb (neC b o e hx) e1 (I.base.free b o e n hx);exact ⟨sl',e2⟩
 ·obtain ⟨o',e1⟩:=I.base.there b o e hx
  exact free b o' (neC b o e hx) e1 (I.base.free b o e n hx)
 ·obtain ⟨o',e1⟩:=I.base.there b o e hx
  exact there b o' (neC b o e hx) e1
 ·obtain ⟨m1,e1⟩:=I.base.tbls b ps e
  obtain ⟨m2,e2⟩:=tbls b _ e1;exact ⟨m1++m2,by rw[e2,Array.append_assoc]⟩
 ·obtain ⟨m,hn,hl⟩:=I.loc
  refine ⟨m,ns m hn,λi x v e1 e2 e3=>?_⟩;obtain ⟨u,r,l⟩:=hl i x v e1 e2 e3;refine ⟨u,r,?_⟩;rcases l with l | ⟨k,c,e,z⟩
  ·exact .inl l
  ·exact .inr ⟨k,c,e,cellK x c e _ z⟩
 ·obtain ⟨v,z⟩:=I.cell x c e
  exact ⟨v,cellK x c e v z⟩
 ·obtain ⟨m,⟨o,_,_,ho,_⟩,_⟩:=I.loc
  exact free _ o (λz=>(hch _ z).2.1 rfl) ho I.free
 ·obtain ⟨v,o,ho,hd⟩:=I.cell x c e
  exact free c o (λz=>(hch c z).2.2.1 x c e rfl) ho (I.freeC x c e)
 ·obtain ⟨e,n,ne,nf,d⟩:=I.pin p hp
  have nch:p.1∉ch:=λz=>(hch p.1 z).2.2.2 p hp rfl;exact ⟨keep p.1 p.2 ne nf nch e n,free p.1 p.2 nch e n,ne,nf,d⟩
theorem Inv.un{t':Nat}(I:Inv X pins σ H s)(u:Un X.fs [] H H' s.heap h')(hok:HOk X.prog X.w H' h'):Inv X pins σ H' {s with heap:=h',toks:=t'}:=by
 obtain ⟨m,⟨o,es,ep,ho,r⟩,_⟩:=id I.loc;obtain ⟨sl,hL⟩:=u.any ho I.free (by simp);exact I.step (g':=s.gens) (d':=s.drawn) (ch:=[]) (λ_ z=>nomatch z) (λb o _ hb _ e n=>u.keep b o e n hb (by simp)) (λb o _ hb _ e n=>u.slot b o e n hb (by simp)) (λb o _ e n=>u.free b o e n (by simp)) (λb o _ e=>u.there b o e (by simp)) u.tups u.frzs u.tbls (λm' hm=>by
  obtain ⟨o',es',ep',ho',r'⟩:=hm;rw[ho] at ho';cases ho';exact ⟨_,es',ep',hL,r'⟩) hok I.bare
theorem Inv.call{g':Array S3}{t':Nat}{d':Drawn}{ch:List Addr}(I:Inv X pins σ H s)(u:Un (frs X.stack) ch H H' s.heap h')(hok:HOk X.prog X.w H' h')(hg:K6 g')
  (hch:∀b∈ch,(b∈X.ex\/X.s₀.heap.objs.size<=b)/\b≠X.env.locals/\(∀x c,X.env.cells.lookup x=some c->c≠b)/\∀p∈X.pn++pins,p.1≠b) :
  Inv X pins σ H' {s with heap:=h',gens:=g',drawn:=d',toks:=t'}:=by
 obtain ⟨m,⟨o,es,ep,ho,r⟩,_⟩:=id I.loc;obtain ⟨sl,hL⟩:=u.any ho I.free λz=>(hch _ z).2.1 rfl;exact I.step (ch:=ch) hch (λb o hL hb hc e n=>u.keep b o e n (λz=>(Be.mp (I.stkSub b z)).elim hL hb) hc) (λb o _ _ hc e n=>u.any e n hc) (λb o hc e n=>u.free b o e n hc) (λb o hc e=>u.there b o e hc) u.tups u.frzs u.tbls (λm' hm=>by
  obtain ⟨o',es',ep',ho',r'⟩:=hm;rw[ho] at ho';cases ho';exact ⟨_,es',ep',hL,r'⟩) hok hg
theorem Inv.turned{t':Nat}{it:Addr}(I:Inv X pins σ H s)(k:∀b o,b≠it->s.heap.get? b=some o->h'.get? b=some o)(hn:H it=none)(hL:it≠X.env.locals)
  (h1:it∈X.ex\/X.s₀.heap.objs.size<=it) (h2:∀x c,X.env.cells.lookup x=some c->c≠it) (h3:∀p∈X.pn++pins,p.1≠it):Inv X pins σ H {s with heap:=h',toks:=t'}:=by
 have nit:∀b u,H b=some u->b≠it:=λb u e z=>by rw[z,hn] at e;cases e
 refine I.step (g':=s.gens) (d':=s.drawn) (ch:=[it]) (λb hb=>?_) (λb o _ _ hc e _=>k b o (λz=>hc (by simp[z])) e) (λb o _ _ hc e _=>⟨o.slots,k b o (λz=>hc (by simp[z])) e⟩) (λ_ _ _ _ n=>n)
  (λb o hc e=>⟨o,k b o (λz=>hc (by simp[z])) e⟩) (λ_ _ e=>e) (λ_ _ _ e=>e) (λb ps e=>⟨#[],by rw[e];simp⟩) (λm hm=>?_) (λb u e=>?_) I.bare
 ·have e:b=it:=by simpa using hb
  subst e;exact ⟨h1,hL,h2,h3⟩
 ·obtain ⟨o,es,ep,ho,r⟩:=hm
  exact ⟨o,es,ep,k _ o (DF hL) ho,r⟩
 ·refine (I.hok b u e).stay (λc v hc q=>k c v ?_ q) (λ_ q=>q) λ_ _ q=>q
  rcases hc with z | z
  ·rw[z];exact nit b u e
  ·exact nit c _ z
theorem Inv.tok(I:Inv X pins σ H s)(t:Nat):Inv X pins σ H {s with toks:=t}:=I.un (h':=s.heap) (t':=t) Un.refl I.hok
theorem Inv.kept{t':Nat}(I:Inv X pins σ H s)(k:∀b u,s.heap.get? b=some u->h'.get? b=some u):Inv X pins σ H {s with heap:=h',toks:=t'}:=I.un (Un.kept k) (I.hok.kept k)
theorem Inv.laid{a:Addr}{o:HO}{t':Nat}(I:Inv X pins σ H s)(k:∀b u,s.heap.get? b=some u->h'.get? b=some u)(hp:s.heap.objs.size<=a)(new:ObjOk X.prog X.w (upd H a o) h' a o) :
  Inv X pins σ (upd H a o) {s with heap:=h',toks:=t'}:=I.un (Un.laid k hp (I.hok.fresh hp)) (I.hok.laid k hp new)
theorem Inv.write{x e:Addr}{o:HO}{t':Nat}(I:Inv X pins σ H s)(mu:Mut (H x))(he:e=x\/H e=some (.own x))(k:∀b u,b≠e->s.heap.get? b=some u->h'.get? b=some u)(heo:∃u,h'.get? e=some u)
  (new:ObjOk X.prog X.w (upd H x o) h' x o):Inv X pins σ (upd H x o) {s with heap:=h',toks:=t'}:=I.un (Un.write mu he k heo) (I.hok.write mu he k heo new)
theorem Inv.pins_of{pins':List (Addr×Obj)}(I:Inv X pins σ H s)(h:∀p∈pins',s.heap.get? p.1=some p.2/\H p.1=none/\p.1≠X.env.locals/\p.1∉X.fs/\∀v,p.2.data≠.cell v):Inv X pins' σ H s :=
 ⟨I.ok,I.os,I.bare,I.base,I.loc,I.cell,I.free,I.freeC,λp hp=>(B9.mp hp).elim (λz=>I.pin p (Fk _ z)) (h p),I.hok,I.len⟩
theorem Td{N:List Str}(hN:N.Nodup){i j:Nat}{x:Str}(a:N[i]?=some x)(b:N[j]?=some x):i=j:=by
 obtain ⟨h1,e1⟩:=AL.mp a;obtain ⟨h2,e2⟩:=AL.mp b;exact (S4 hN).mp (e1.trans e2.symm)
theorem Ol{M:V1}{A:B6}{E:Au->AA->Prop}{i:Nat}{x:Str}{v:V}{u:Au}{Q:Unit->AA->Prop}(I:Inv X pins σ H s)(hN:X.N.Nodup)(hi:X.N[i]?=some x)(hx:Loc X.env.scope x)(r:RelV v u)
  (h:∀s',Inv X pins (σ.set i (some v)) H s'->(∃a,ES a s.heap s'.heap/\(a=X.env.locals\/X.env.cells.lookup x=some a))->Q () s') (hf:X.fn x=true\/X.env.scope.names.lookup x=some .local:=by first | exact .inl rfl | exact .inr rfl | assumption):wpAny M A (storeName X.env x u) Q E s:=by
 obtain ⟨m,hn,hl⟩:=id I.loc;have hcls:(X.env.scope.kind == .class||(X.env.scope.kind == .module&&X.env.locals != X.env.globals))=false:=by rw[I.ok.kind];rfl
 have hiσ:i<σ.length:=by rw[I.len];exact (AL.mp hi).1
 have cne:=I.cne;have tracked:∀{a:Addr}{h':Heap},(∃o,s.heap.get? a=some o/\H a=none)->ES a s.heap h'->HOk X.prog X.w H h':=λ{a h'} ha hs b ob e=>by
  obtain ⟨_,_,hfree⟩:=ha;refine (I.hok b ob e).stay (λc w' hc q=>(hs.2 c ?_).trans q) (λ_ q=>q) λ_ _ q=>q;rintro rfl;rcases hc with rfl | hc
  ·rw[hfree] at e;cases e
  ·rw[hfree] at hc;cases hc
 rcases hx with hk | hk
 ·refine wpAny_storeName_local hk hn (λh' hn' hs=>?_) hcls
  obtain ⟨oL,_,_,hoL,_⟩:=id hn;refine h _ ⟨I.ok,I.os,I.bare,⟨λb o e n hb hx=>?_,λb o e n hb hx=>?_,I.base.free,λb o e hx=>?_,I.base.tups,I.base.frzs,I.base.tbls⟩,⟨_,hn',λj y v' e1 e2 e3=>?_⟩,λy c e=>?_,I.free,I.freeC,λp hp=>?_,tracked ⟨oL,hoL,I.free⟩ hs,by simpa using I.len⟩ ⟨_,hs,.inl rfl⟩
  ·exact (hs.2 b (Cn (CH (BE e) I.ok.above))).trans (I.base.keep b o e n hb hx)
  ·obtain ⟨sl,e1⟩:=I.base.slot b o e n hb hx
   exact ⟨sl,(hs.2 b (Cn (CH (BE e) I.ok.above))).trans e1⟩
  ·obtain ⟨o',e1⟩:=I.base.there b o e hx
   exact ⟨o',(hs.2 b (Cn (CH (BE e) I.ok.above))).trans e1⟩
  ·by_cases hj:j=i
   ·subst hj
    rw[hi] at e1;cases e1;rw[LG hiσ] at e2;cases e2;exact ⟨u,r,.inl ⟨hk,by simp⟩⟩
   ·rw[LZ (DF hj)] at e2
    obtain ⟨u',r',q⟩:=hl j y v' e1 e2 e3;refine ⟨u',r',?_⟩;rcases q with⟨k,e⟩ | ⟨k,c,e,z⟩
    ·refine .inl ⟨k,?_⟩
     have:y≠x:=λe=>hj (Td hN e1 (e ▸ hi));simp[this,e]
    ·exact .inr ⟨k,c,e,z.sameBut hs (cne y c e)⟩
  ·obtain ⟨w',z⟩:=I.cell y c e
   exact ⟨w',z.sameBut hs (cne y c e)⟩
  ·obtain ⟨e,n,ne,nf,d⟩:=I.pin p hp
   exact ⟨(hs.2 p.1 ne).trans e,n,ne,nf,d⟩
 ·have hfn:X.fn x=true:=by
   rcases hf with z | z
   ·exact z
   ·rw[z] at hk;cases hk
  obtain ⟨c,hc⟩:=I.ok.has x (.inl hk);obtain ⟨w',z⟩:=I.cell x c hc;refine wpAny_storeName_cell I.ok.kind hk hc z (λh' hc' hs=>?_);obtain ⟨oc,hoc,hocd⟩:=id z;refine h {s with heap:=h'} ⟨I.ok,I.os,I.bare,⟨λb o e n hb hx=>?_,λb o e n hb hx=>?_,I.base.free,λb o e hx=>?_,I.base.tups,I.base.frzs,I.base.tbls⟩,⟨m,hn.sameBut hs (DF (cne x c hc)),λj y v' e1 e2 e3=>?_⟩,λy c' e=>?_,I.free,I.freeC,λp hp=>?_,tracked ⟨oc,hoc,I.freeC x c hc⟩ hs,by simpa using I.len⟩ ⟨c,hs,.inr hc⟩
  ·exact (hs.2 b (Cn (CH (BE e) (I.ok.cab x c hfn hc)))).trans (I.base.keep b o e n hb hx)
  ·obtain ⟨sl,e1⟩:=I.base.slot b o e n hb hx
   exact ⟨sl,(hs.2 b (Cn (CH (BE e) (I.ok.cab x c hfn hc)))).trans e1⟩
  ·obtain ⟨o',e1⟩:=I.base.there b o e hx
   exact ⟨o',(hs.2 b (Cn (CH (BE e) (I.ok.cab x c hfn hc)))).trans e1⟩
  ·by_cases hj:j=i
   ·subst hj
    rw[hi] at e1;cases e1;rw[LG hiσ] at e2;cases e2;exact ⟨u,r,.inr ⟨.inl hk,c,hc,hc'⟩⟩
   ·rw[LZ (DF hj)] at e2
    obtain ⟨u',r',q⟩:=hl j y v' e1 e2 e3;refine ⟨u',r',?_⟩;rcases q with q | ⟨k,c',e,z'⟩
    ·exact .inl q
    ·refine .inr ⟨k,c',e,z'.sameBut hs ?_⟩
     rintro rfl;exact hj (Td hN e1 (I.ok.inj _ _ _ e hc ▸ hi))
  ·by_cases hcc:c'=c
   ·subst hcc;exact ⟨_,hc'⟩
   ·obtain ⟨w2,z2⟩:=I.cell y c' e
    exact ⟨w2,z2.sameBut hs hcc⟩
  ·obtain ⟨e,n,ne,nf,d⟩:=I.pin p hp
   refine ⟨(hs.2 p.1 ?_).trans e,n,ne,nf,d⟩;intro q;rw[q,hoc] at e;have q':oc=p.2:=BH e;exact d w' (by rw[<- q'];exact hocd)
theorem Rp{M:V1}{A:B6}{E:Au->AA->Prop}{i:Nat}{x:Str}{v:V}{u:Au}{Q:Unit->AA->Prop}(I:Inv X pins σ H s)(hN:X.N.Nodup)(hi:X.N[i]?=some x)(hx:Loc X.env.scope x)(r:RelV v u)
  (h:∀s',Inv X pins (σ.set i (some v)) H s'->Q () s') (hf:X.fn x=true\/X.env.scope.names.lookup x=some .local:=by first | exact .inl rfl | exact .inr rfl | assumption):wpAny M A (storeName X.env x u) Q E s :=
 Ol I hN hi hx r (λs' I' _=>h s' I') hf
theorem Inv.call'{s':AA}{ch:List Addr}(I:Inv X pins σ H s)(ho:s'.os=s.os)(u:Un (frs X.stack) ch H H' s.heap s'.heap)(hok:HOk X.prog X.w H' s'.heap)(hg:K6 s'.gens)
  (hch:∀b∈ch,(b∈X.ex\/X.s₀.heap.objs.size<=b)/\b≠X.env.locals/\(∀x c,X.env.cells.lookup x=some c->c≠b)/\∀p∈X.pn++pins,p.1≠b):Inv X pins σ H' s':=by
 obtain ⟨h',g',d',t',o'⟩:=s';have e:o'=s.os:=ho;subst e;exact I.call (g':=g') (t':=t') (d':=d') u hok hg hch
end
abbrev XK:=Au->Option Addr->Hp->Prop
abbrev St:=List (Option V)
abbrev VK:=V->Hp->Prop
abbrev TE:=St->Hp->VK->Prop
abbrev TT:=St->Hp->(Bool->Hp->Prop)->Prop
abbrev TA:=St->Hp->(List V->Hp->Prop)->Prop
structure Ends where
 nx:St->Hp->Prop
 rt:VK
 bk:St->Hp->Prop:=λ_ _=>False
 ct:St->Hp->Prop:=λ_ _=>False
abbrev TS:=Ends->St->Hp->Prop
def EP(X:Cx)(pins:List (Addr×Obj))(σ:St)(Q:VK)(u:Au)(s':AA):Prop:=∃v H',Inv X pins σ H' s'/\RelV v u/\Q v H'
def TP(X:Cx)(pins:List (Addr×Obj))(σ:St)(Q:Bool->Hp->Prop)(b:Bool)(s':AA):Prop:=∃H',Inv X pins σ H' s'/\Q b H'
def AP(X:Cx)(pins:List (Addr×Obj))(σ:St)(Q:List V->Hp->Prop)(us:List Au)(s':AA):Prop:=∃vs H',Inv X pins σ H' s'/\Vals vs us/\Q vs H'
def SP(X:Cx)(pins:List (Addr×Obj))(D:Ends)(f:Flow)(s':AA):Prop :=
 match f with
 | .next=>∃σ' H',Inv X pins σ' H' s'/\D.nx σ' H'
 | .brk=>∃σ' H',Inv X pins σ' H' s'/\D.bk σ' H'
 | .cont=>∃σ' H',Inv X pins σ' H' s'/\D.ct σ' H'
 | .ret u=>∃v σ' H',Inv X pins σ' H' s'/\RelV v u/\D.rt v H'
def PE(X:Cx)(e:Expr)(t:TE):Prop :=
 ∀(pins:List (Addr×Obj)) (s:AA) (σ:St) (H:Hp) (Q:VK),Inv X pins σ H s->t σ H Q->wpAny (AM X.prog X.w) X.A (eval e X.env) (EP X pins σ Q) X.xe s
def PT(X:Cx)(e:Expr)(t:TT):Prop :=
 ∀(pins:List (Addr×Obj)) (s:AA) (σ:St) (H:Hp) (Q:Bool->Hp->Prop),Inv X pins σ H s->t σ H Q->wpAny (AM X.prog X.w) X.A (TN e X.env (eval e X.env)) (TP X pins σ Q) X.xe s
def PW(X:Cx)(e:Expr)(t:TT):Prop :=
 ∀(whole:Sem Au) (pins:List (Addr×Obj)) (s:AA) (σ:St) (H:Hp) (Q:Bool->Hp->Prop),Inv X pins σ H s->t σ H Q->wpAny (AM X.prog X.w) X.A (TN e X.env whole) (TP X pins σ Q) X.xe s
theorem PW.pt{X:Cx}{e:Expr}{t:TT}(h:PW X e t):PT X e t:=h _
def PA(X:Cx)(es:List Expr)(t:TA):Prop :=
 ∀(pos:Pos) (pins:List (Addr×Obj)) (s:AA) (σ:St) (H:Hp) (Q:List V->Hp->Prop),Inv X pins σ H s->t σ H Q->wpAny (AM X.prog X.w) X.A (O1 (F3 pos (Co es X.env))) (AP X pins σ Q) X.xe s
def PS(X:Cx)(st:Stmt)(t:TS):Prop :=
 ∀(pins:List (Addr×Obj)) (s:AA) (σ:St) (H:Hp) (D:Ends),Inv X pins σ H s->t D σ H->wpAny (AM X.prog X.w) X.A (exec st X.env) (SP X pins D) X.xe s
def PSs(X:Cx)(st:List Stmt)(t:TS):Prop :=
 ∀(pins:List (Addr×Obj)) (s:AA) (σ:St) (H:Hp) (D:Ends),Inv X pins σ H s->t D σ H->wpAny (AM X.prog X.w) X.A (execs st X.env) (SP X pins D) X.xe s
theorem thn{α:Type}{t:Sem α}{Q Q':α->AA->Prop}{M:V1}{A:B6}{E:Au->AA->Prop}{s:AA}(h:wpAny M A t Q E s)(hQ:∀a s,Q a s->Q' a s):wpAny M A t Q' E s:=EE h hQ λ_ _ x=>x
section
variable{X:Cx}
def AGQ(i:Nat):TE:=λσ H Q=>∃v,σ[i]?=some (some v)/\Q v H
def tC(v:V):TE:=λ_ H Q=>Q v H
theorem AGF{i:Nat}{x:Str}{pos:Pos}(hN:X.N[i]?=some x)(hv:Vis X.env.scope x)(hd:(x==("__debug__" : Str))=false:=by decide)(hcd:(x==("__classdict__" : Str))=false:=by decide):PE X (.Name x pos) (AGQ i):=by
 intro pins s σ H Q I h;obtain ⟨v,e,h⟩:=h;obtain ⟨m,hn,hl⟩:=I.loc;obtain ⟨u,r,l⟩:=hl i x v hN e hv;have fin:EP X pins σ Q u s:=⟨v,H,I,r,h⟩;rcases l with⟨hk,hm⟩ | ⟨hk,c,hc,hcell⟩
 ·exact TR (wpAny_loadName_local I.ok.kind hk hn hm fin) hd
 ·rcases hk with hk | hk
  ·exact TR (wpAny_loadName_cell I.ok.kind hk hc hcell fin) hd
  ·exact TR (wpAny_loadName_free I.ok.kind hk hc hcell fin hcd) hd
theorem Ah{i j pos}:PE X (.Constant (.int i) j pos) (tC (.int i)):=λ_ _ _ H _ I h=>wpAny_Constant_int ⟨.int i,H,I.tok _,⟨_,rfl⟩,h⟩
theorem Kz{b j pos}:PE X (.Constant (.bool b) j pos) (tC (.bl b)):=λ_ _ _ H _ I h=>Constant_bool ⟨.bl b,H,I,rfl,h⟩
theorem Wa{j pos}:PE X (.Constant .none j pos) (tC .non):=λ_ _ _ H _ I h=>QE ⟨.non,H,I,rfl,h⟩
def Gl(X:Cx)(x:Str):Prop:=X.env.kindOf x=some .globalImplicit
theorem Jl{E:Au->AA->Prop}{pins:List (Addr×Obj)}{s:AA}{σ:St}{H:Hp}{x:Str}{u:Au}{pos:Pos}{Q:Au->AA->Prop}(I:Inv X pins σ H s)(hg:Gl X x)(hm:X.mg x=some u)(h:Q u s)
  (hd:(x==("__debug__" : Str))=false:=by decide):wpAny (AM X.prog X.w) X.A (eval (.Name x pos) X.env) Q E s :=
 M9 I.ok.kind hg (Calls.loadGlobal_global (by rw[I.ok.glob];exact I.mod.glob.keeps I.bk) hm h) hd
theorem Ek{E:Au->AA->Prop}{pins:List (Addr×Obj)}{s:AA}{σ:St}{H:Hp}{x:Str}{u:Au}{pos:Pos}{Q:Au->AA->Prop}(I:Inv X pins σ H s)(hg:Gl X x)(hm:X.mg x=none)(hv:FY x=some u)(h:Q u s)
  (hn:x≠"__name__":=by decide) (hd:(x==("__debug__" : Str))=false:=by decide):wpAny (AM X.prog X.w) X.A (eval (.Name x pos) X.env) Q E s:=by
 obtain ⟨mb,h1,h2⟩:=I.mod.blt;exact M9 I.ok.kind hg (Calls.loadGlobal_builtin (by rw[I.ok.glob];exact I.mod.glob.keeps I.bk) hm (by rw[I.ok.blt];exact h1.keeps I.bk) ((h2 x hn).trans hv) h) hd
theorem Qz{x:Str}{v:V}{u:Au}{pos:Pos}(hg:Gl X x)(hm:X.mg x=some u)(r:RelV v u)(hd:(x==("__debug__" : Str))=false:=by decide):PE X (.Name x pos) (tC v) :=
 λ_ _ _ H _ I h=>Jl I hg hm ⟨v,H,I,r,h⟩ hd
theorem ADQ{x:Str}{v:V}{u:Au}{pos:Pos}(hg:Gl X x)(hm:X.mg x=none)(hv:FY x=some u)(r:RelV v u)(hn:x≠"__name__":=by decide)(hd:(x==("__debug__" : Str))=false:=by decide):PE X (.Name x pos) (tC v) :=
 λ_ _ _ H _ I h=>Ek I hg hm hv ⟨v,H,I,r,h⟩ hn hd
variable{a b:Expr}{ta tb:TE}{pos:Pos}
def PC(X:Cx)(op:TU)(a b:Expr)(t:TE):Prop :=
 ∀(pins:List (Addr×Obj)) (s:AA) (σ:St) (H:Hp) (Q:VK),Inv X pins σ H s->t σ H Q ->
  wpAny (AM X.prog X.w) X.A (eval a X.env) (λv s₁=>wpAny (AM X.prog X.w) X.A (eval b X.env) (λu s₂=>wpAny (AM X.prog X.w) X.A (DZ op v u) (EP X pins σ Q) X.xe s₂) X.xe s₁) X.xe s
theorem ACO(b:Expr){op:TU}(h:op≠.In)(h2:op≠.NotIn):IZ op b=false:=by
 have e1:(op==Y4)=false:=by cases op<;>first | rfl | exact absurd rfl h
 have e2:(op==X0)=false:=by cases op<;>first | rfl | exact absurd rfl h2
 cases b<;>simp[IZ,e1,e2]
def AGy(ta:TE):TE:=λσ H Q=>ta σ H λx H1=>Q (.bl (decide (x=.non))) H1
def AGN(ta:TE):TE:=λσ H Q=>ta σ H λx H1=>Q (.bl (!decide (x=.non))) H1
theorem RelV.none_iff{x:V}{v:Au}(r:RelV x v):(v==CY)=decide (x=.non):=by
 cases x with
 | non=>cases r;rfl
 | bl _=>cases r;rfl
 | int _=>obtain ⟨t,rfl⟩:=r;rfl
 | str _=>obtain ⟨t,rfl⟩:=r;rfl
 | byt _=>obtain ⟨t,rfl⟩:=r;rfl
 | flt _=>obtain ⟨t,rfl⟩:=r;rfl
 | ref _=>cases r;rfl
 | ty _=>cases r;rfl
theorem AFJ{j pos'}(ha:PE X a ta):PC X .Is a (.Constant .none j pos') (AGy ta):=by
 intro pins s σ H Q I h;refine thn (ha pins s σ H _ I h) λv s1 ⟨x,H1,I1,r1,q1⟩=>?_;exact QE (is_none_gen ⟨.bl _,H1,I1,by rw[r1.none_iff];rfl,q1⟩)
theorem Xc{j pos'}(ha:PE X a ta):PC X .IsNot a (.Constant .none j pos') (AGN ta):=by
 intro pins s σ H Q I h;refine thn (ha pins s σ H _ I h) λv s1 ⟨x,H1,I1,r1,q1⟩=>?_;exact QE (isnot_none_gen ⟨.bl _,H1,I1,by rw[r1.none_iff];rfl,q1⟩)
def tB(t:TE):TT:=λσ H Q=>t σ H λx H1=>∃c,x=.bl c/\Q c H1
theorem Iw{op:TU}{t:TE}(h:PC X op a b t)(h1:IZ op b=false:=by first | exact ACO _ (by decide) (by decide) | rfl):PT X (.Compare a [op] [b] pos) (tB t):=by
 intro pins s σ H Q I hw;refine O2 (thn (h pins s σ H _ I hw) λv s1 h1=>thn h1 λu s2 h2=>thn h2 λc s3 ⟨x,H1,I1,r1,q1⟩=>?_) h1;obtain ⟨d,rfl,q⟩:=q1;cases r1;exact HM ⟨H1,I1,q⟩
theorem Qu{e:Expr}{t:TE}(h:PE X e t)(he:∀whole,TN e X.env whole=(do let v <- whole;UR e.pos;MC [v] (truthy v)):=by intro _;rfl):PT X e (tB t):=by
 intro pins s σ H Q I hw;refine isTrue_plain (thn (h pins s σ H _ I hw) λv s1 ⟨x,H1,I1,r1,q1⟩=>?_) (he _);obtain ⟨d,rfl,q⟩:=q1;cases r1;exact HM ⟨H1,I1,q⟩
variable{tA tB':TT}{rest:List Expr}
def AGv(t u:TT):TT:=λσ H Q=>t σ H λc H1=>if c=true then u σ H1 Q else Q false H1
def tOr(t u:TT):TT:=λσ H Q=>t σ H λc H1=>if c=true then Q true H1 else u σ H1 Q
def AHI(t:TT):TT:=λσ H Q=>t σ H λc H1=>Q (!c) H1
theorem Pq(ha:PT X a tA):PW X (.BoolOp .And [a] pos) tA:=by
 intro wh pins s σ H Q I h;refine isTrue_and (thn (ha pins s σ H Q I h) λc s1 e=>?_);cases c with
 | true=>exact isTrue_and_nil e
 | false=>exact e
theorem HD(ha:PT X a tA):PW X (.BoolOp .Or [a] pos) tA:=by
 intro wh pins s σ H Q I h;refine isTrue_or (thn (ha pins s σ H Q I h) λc s1 e=>?_);cases c with
 | false=>exact isTrue_or_nil e
 | true=>exact e
theorem VL(ha:PT X a tA)(hb:PW X (.BoolOp .And (b::rest) pos) tB'):PW X (.BoolOp .And (a::b::rest) pos) (AGv tA tB'):=by
 intro wh pins s σ H Q I h;refine isTrue_and (thn (ha pins s σ H _ I h) λc s1 ⟨H1,I1,q1⟩=>?_);cases c with
 | true=>exact hb wh pins s1 σ H1 Q I1 q1
 | false=>exact ⟨H1,I1,q1⟩
theorem Lf(ha:PT X a tA)(hb:PW X (.BoolOp .Or (b::rest) pos) tB'):PW X (.BoolOp .Or (a::b::rest) pos) (tOr tA tB'):=by
 intro wh pins s σ H Q I h;refine isTrue_or (thn (ha pins s σ H _ I h) λc s1 ⟨H1,I1,q1⟩=>?_);cases c with
 | true=>exact ⟨H1,I1,q1⟩
 | false=>exact hb wh pins s1 σ H1 Q I1 q1
theorem VJ(ha:PT X a tA):PT X (.UnaryOp .Not a pos) (AHI tA):=by
 intro pins s σ H Q I h;exact isTrue_not (ha pins s σ H (λc H1=>Q (!c) H1) I h)
def AGS(ta tb:TE):TE:=λσ H Q=>ta σ H λx H1=>∃c,x=.bl c/\if c=true then tb σ H1 Q else Q (.bl false) H1
theorem VH{op}{t:TE}(h:PE X a t):PE X (.BoolOp op [a] pos) t:=λpins s σ H Q I hw=>BoolOp_one (h pins s σ H Q I hw)
theorem Vw(ha:PE X a ta)(hb:PE X (.BoolOp .And (b::rest) pos) tb):PE X (.BoolOp .And (a::b::rest) pos) (AGS ta tb):=by
 intro pins s σ H Q I h;refine BoolOp_and (thn (ha pins s σ H _ I h) λv s1 ⟨x,H1,I1,r1,q1⟩=>?_);obtain ⟨c,rfl,q1⟩:=q1;cases r1;refine HM ?_;cases c with
 | true=>exact hb pins s1 σ H1 Q I1 q1
 | false=>exact ⟨.bl false,H1,I1,rfl,q1⟩
def tIf(t:TT)(ta tb:TE):TE:=λσ H Q=>t σ H λc H1=>if c=true then ta σ H1 Q else tb σ H1 Q
theorem IW{c:Expr}(hc:PT X c tA)(ha:PE X a ta)(hb:PE X b tb):PE X (.IfExp c a b pos) (tIf tA ta tb):=by
 intro pins s σ H Q I h;refine wpAny_IfExp (thn (hc pins s σ H _ I h) λd s1 ⟨H1,I1,q1⟩=>?_);cases d with
 | true=>exact ha pins s1 σ H1 Q I1 q1
 | false=>exact hb pins s1 σ H1 Q I1 q1
end
def SqL(K:As)(H:Hp)(a:Addr)(xs:List V):Prop :=
 Rd H a (.lst xs) \/
  ∃(o:Obj) (its:Array Au) (n:Nat),K.lookup a=some o/\o.cls=.type "list"/\o.dict=none/\o.data=.seq its n/\its.size<=sizeLine/\Vals xs its.toList
def SqT(K:As)(H:Hp)(a:Addr)(xs:List V):Prop :=
 Rd H a (.tup xs) \/
  ∃(o:Obj) (its:Array Au) (n:Nat),K.lookup a=some o/\o.cls=.type "tuple"/\o.data=.seq its n/\its.size<=sizeLine/\Vals xs its.toList
def absV:Au->Option V
 | .none=>some .non
 | .bool b=>some (.bl b)
 | .int i _=>some (.int i)
 | .str x _=>some (.str x)
 | .bytes b _=>some (.byt b)
 | .float b _=>some (.flt b)
 | .ref a=>some (.ref a)
 | .type n=>some (.ty n)
 | _=>none
theorem RelV.abs{x:V}{u:Au}(r:RelV x u):absV u=some x:=by
 cases x with
 | non=>cases r;rfl
 | bl _=>cases r;rfl
 | int _=>obtain ⟨t,rfl⟩:=r;rfl
 | str _=>obtain ⟨t,rfl⟩:=r;rfl
 | byt _=>obtain ⟨t,rfl⟩:=r;rfl
 | flt _=>obtain ⟨t,rfl⟩:=r;rfl
 | ref _=>cases r;rfl
 | ty _=>cases r;rfl
theorem RelV.inj{x y:V}{u:Au}(r:RelV x u)(q:RelV y u):x=y:=BH (r.abs.symm.trans q.abs)
theorem Vals.inj:∀{xs ys:List V}{us:List Au},Vals xs us->Vals ys us->xs=ys
 | _,_,_,.nil,.nil=>rfl
 | _,_,_,.cons r t,.cons r' t'=>by rw[r.inj r',Vals.inj t t']
section
variable{X:Cx}{pins:List (Addr×Obj)}{σ:St}{H:Hp}{s:AA}{a:Addr}{xs ys:List V}
theorem SqL.of{K:As}(h:H a=some (.lst xs)):SqL K H a xs:=.inl (.inl h)
theorem SqT.of{K:As}(h:H a=some (.tup xs)):SqT K H a xs:=.inl (.inl h)
theorem Inv.list(I:Inv X pins σ H s)(h:SqL X.K H a xs):∃its:List Au,Vals xs its/\PlainL s.heap a its.toArray/\xs.length<=sizeLine:=by
 rcases h with h | ⟨o,its,n,hk,hc,hd,hs,hz,r⟩
 ·obtain ⟨z,its,n,r,e⟩:=h.ok I.hok
  exact ⟨its,r,⟨_,n,e,rfl,rfl,rfl⟩,z⟩
 ·refine ⟨its.toList,r,⟨o,n,I.kIn a o hk,hc,hd,by simpa using hs⟩,?_⟩
  have e:=r.length;simp only[AX] at e;lia
theorem Inv.tuple(I:Inv X pins σ H s)(h:SqT X.K H a xs):∃its:List Au,Vals xs its/\PM s.heap a its.toArray/\xs.length<=sizeLine:=by
 rcases h with h | ⟨o,its,n,hk,hc,hs,hz,r⟩
 ·obtain ⟨z,its,r,p⟩:=h.ok I.hok
  exact ⟨its,r,p,z⟩
 ·refine ⟨its.toList,r,⟨o,I.kIn a o hk,hc,n,by simpa using hs⟩,?_⟩
  have e:=r.length;simp only[AX] at e;lia
theorem Inv.list_inj(I:Inv X pins σ H s)(h:SqL X.K H a xs)(h':SqL X.K H a ys):xs=ys:=by
 obtain ⟨its,r,⟨o,n,e,_,_,d⟩,_⟩:=I.list h;obtain ⟨its',r',⟨o',n',e',_,_,d'⟩,_⟩:=I.list h';rw[e] at e';cases e';rw[d] at d';injection d' with d1 _
 have:its=its':=by simpa using congrArg Rl d1
 subst this;exact r.inj r'
theorem Inv.tuple_inj(I:Inv X pins σ H s)(h:SqT X.K H a xs)(h':SqT X.K H a ys):xs=ys:=by
 obtain ⟨its,r,⟨o,e,_,n,d⟩,_⟩:=I.tuple h;obtain ⟨its',r',⟨o',e',_,n',d'⟩,_⟩:=I.tuple h';rw[e] at e';cases e';rw[d] at d';injection d' with d1 _
 have:its=its':=by simpa using congrArg Rl d1
 subst this;exact r.inj r'
end
abbrev Cx.wish(X:Cx)(E:Au->AA->Prop):Cx:={X with xe:=E}
abbrev Cx.nox(X:Cx):Cx:=X.wish λ_ _=>False
theorem Cx.Ok.wish{X:Cx}(ok:X.Ok)(E:Au->AA->Prop):(X.wish E).Ok :=
 ⟨ok.mod,ok.kind,ok.glob,ok.blt,ok.above,ok.inj,ok.has,ok.cab,ok.hd,ok.frames,ok.stk,ok.exf,ok.bs,ok.bsz,ok.noex,ok.exfs,ok.funs,ok.frf⟩
theorem Cx.Ok.unwish{X:Cx}{E:Au->AA->Prop}(ok:(X.wish E).Ok):X.Ok :=
 ⟨ok.mod,ok.kind,ok.glob,ok.blt,ok.above,ok.inj,ok.has,ok.cab,ok.hd,ok.frames,ok.stk,ok.exf,ok.bs,ok.bsz,ok.noex,ok.exfs,ok.funs,ok.frf⟩
section
variable{X:Cx}{pins:List (Addr×Obj)}{σ:St}{H:Hp}{s:AA}{E:Au->AA->Prop}
theorem Inv.wish(I:Inv X pins σ H s)(E:Au->AA->Prop):Inv (X.wish E) pins σ H s:=⟨I.ok.wish E,I.os,I.bare,I.base,I.loc,I.cell,I.free,I.freeC,I.pin,I.hok,I.len⟩
theorem Inv.unwish(I:Inv (X.wish E) pins σ H s):Inv X pins σ H s:=⟨I.ok.unwish,I.os,I.bare,I.base,I.loc,I.cell,I.free,I.freeC,I.pin,I.hok,I.len⟩
theorem SP.unwish{D:Ends}{f:Flow}{s':AA}(h:SP (X.wish E) pins D f s'):SP X pins D f s':=by
 cases f with
 | next=>obtain ⟨σ',H',I,q⟩:=h;exact ⟨σ',H',I.unwish,q⟩
 | brk=>obtain ⟨σ',H',I,q⟩:=h;exact ⟨σ',H',I.unwish,q⟩
 | cont=>obtain ⟨σ',H',I,q⟩:=h;exact ⟨σ',H',I.unwish,q⟩
 | ret u=>obtain ⟨v,σ',H',I,r,q⟩:=h;exact ⟨v,σ',H',I.unwish,r,q⟩
theorem PSs.nox{st:List Stmt}{t:TS}(h:PSs X.nox st t):PSs X st t:=λpins s σ H D I hw =>
 EE (h pins s σ H D (I.wish _) hw) (λ_ _ q=>q.unwish) λ_ _ z=>EF z
end
section
variable{X:Cx}{st:Stmt}{rest:List Stmt}{t u:TS}{e:Expr}{te:TE}{pos:Pos}
def AGU:TS:=λD σ H=>D.nx σ H
def AHF(t u:TS):TS:=λD σ H=>t {D with nx:=u D} σ H
theorem BW:PSs X [] AGU:=λ_ _ σ H _ I h=>L3 ⟨σ,H,I,h⟩
theorem Ad(h1:PS X st t)(h2:PSs X rest u):PSs X (st::rest) (AHF t u):=by
 intro pins s σ H D I h;refine N1 (thn (h1 pins s σ H {D with nx:=u D} I h) λf s1 q=>?_);cases f with
 | next =>
  obtain ⟨σ',H',I',q⟩:=q;exact h2 pins s1 σ' H' D I' q
 | ret v=>exact q
 | brk=>exact q
 | cont=>exact q
theorem Ai(h1:PS X st t):PSs X [st] t:=by
 intro pins s σ H D I h;refine N1 (thn (h1 pins s σ H D I h) λf s1 q=>?_);cases f with
 | next=>exact L3 q
 | ret v=>exact q
 | brk=>exact q
 | cont=>exact q
theorem Inv.quiet{pins:List (Addr×Obj)}{σ:St}{H:Hp}{s:AA}(I:Inv X pins σ H s):interactive X.env=false:=by simp[interactive,I.ok.kind]
def AGo(te:TE):TS:=λD σ H=>te σ H λ_ H1=>D.nx σ H1
theorem DQ(he:PE X e te)(hs:MU e none pos.line X.env=pure false:=by rfl):PS X (.Expr e pos) (AGo te):=by
 intro pins s σ H D I h;exact wpAny_Expr_any (thn (he pins s σ H _ I h) λv s1 ⟨x,H1,I1,r1,q1⟩=>⟨σ,H1,I1,q1⟩) I.quiet hs
def AGr(te:TE):TS:=λD σ H=>te σ H D.rt
theorem Ax(he:PE X e te):PS X (.Return (some e) pos) (AGr te):=by
 intro pins s σ H D I h;exact wpAny_Return_some (thn (he pins s σ H _ I h) λv s1 ⟨x,H1,I1,r1,q1⟩=>⟨x,σ,H1,I1,r1,q1⟩)
def AHD(c:TT)(t u:TS):TS:=λD σ H=>c σ H λb H1=>if b=true then t D σ H1 else u D σ H1
theorem Bx{c:Expr}{a b:List Stmt}{tc:TT}(hc:PT X c tc)(ha:PSs X a t)(hb:PSs X b u):PS X (.If c a b pos) (AHD tc t u):=by
 intro pins s σ H D I h;refine wpAny_If (thn (hc pins s σ H _ I h) λd s1 ⟨H1,I1,q1⟩=>?_);cases d with
 | true=>exact ha pins s1 σ H1 D I1 q1
 | false=>exact hb pins s1 σ H1 D I1 q1
def AFu:TS:=λ_ _ _=>False
theorem Dg{sts:List Stmt}:PSs X sts AFu:=λ_ _ _ _ _ _ h=>h.elim
end
abbrev TG:=V->St->Hp->(St->Hp->Prop)->Prop
abbrev TGs:=List V->St->Hp->(St->Hp->Prop)->Prop
def PG(X:Cx)(target:Expr)(t:TG):Prop :=
 ∀(pins:List (Addr×Obj)) (s:AA) (σ:St) (H:Hp) (v:V) (u:Au) (Q:St->Hp->Prop),Inv X pins σ H s->RelV v u->t v σ H Q ->
  wpAny (AM X.prog X.w) X.A (N2 target X.env u) (λ_ s'=>∃σ' H',Inv X pins σ' H' s'/\Q σ' H') X.xe s
def PGs(X:Cx)(ts:List Expr)(t:TGs):Prop :=
 ∀(pins:List (Addr×Obj)) (s:AA) (σ:St) (H:Hp) (vs:List V) (us:List Au) (Q:St->Hp->Prop),Inv X pins σ H s->Vals vs us->t vs σ H Q ->
  wpAny (AM X.prog X.w) X.A (assignInOrder ((J8 ts X.env).map (·.2)) us) (λ_ s'=>∃σ' H',Inv X pins σ' H' s'/\Q σ' H') X.xe s
abbrev TSet:=V->V->V->Hp->(Hp->Prop)->Prop
def PSet(X:Cx)(t:TSet):Prop :=
 ∀(pins:List (Addr×Obj)) (s:AA) (σ:St) (H:Hp) (o i v:V) (ov iv u:Au) (Q:Hp->Prop),Inv X pins σ H s->RelV o ov->RelV i iv->RelV v u->t o i v H Q ->
  wpAny (AM X.prog X.w) X.A (US ov iv u) (λ_ s'=>∃H',Inv X pins σ H' s'/\Q H') X.xe s
section
variable{X:Cx}{pos:Pos}
def gName(i:Nat):TG:=λv σ H Q=>Q (σ.set i (some v)) H
theorem Aq{i:Nat}{x:Str}(hN:X.N.Nodup)(hi:X.N[i]?=some x)(hx:Loc X.env.scope x)(hf:X.fn x=true\/X.env.scope.names.lookup x=some .local:=by first | exact .inl rfl | exact .inr rfl | assumption):PG X (.Name x pos) (gName i):=by
 intro pins s σ H v u Q I r h;exact So (Rp I hN hi hx r (λs' I'=>⟨_,H,I',h⟩) hf)
def gNil:TGs:=λvs σ H Q=>vs=[]/\Q σ H
def gCons(t:TG)(u:TGs):TGs:=λvs σ H Q=>∃v r,vs=v::r/\t v σ H λσ' H'=>u r σ' H' Q
theorem FZ:PGs X [] gNil:=by
 intro pins s σ H vs us Q I r h;obtain ⟨e,h⟩:=h;subst e;cases r;exact assignInOrder_nil ⟨σ,H,I,h⟩
theorem CK{e:Expr}{es:List Expr}{t:TG}{u:TGs}(h1:PG X e t)(h2:PGs X es u)
  (hs:(J8 (e::es) X.env).map (·.2)=N2 e X.env::(J8 es X.env).map (·.2):=by rfl):PGs X (e::es) (gCons t u):=by
 intro pins s σ H vs us Q I r h;obtain ⟨v,vr,e1,h⟩:=h;subst e1;cases r with
 | cons r rr =>
  rw[hs];refine assignInOrder_cons (thn (h1 pins s σ H _ _ _ I r h) λ_ s1 ⟨σ1,H1,I1,q1⟩=>?_);exact h2 pins s1 σ1 H1 _ _ Q I1 rr q1
def gTup(K:As)(n:Nat)(t:TGs):TG:=λv σ H Q=>∃a xs,v=.ref a/\SqT K H a xs/\xs.length=n/\t xs σ H Q
theorem AFe{es:List Expr}{k:Nat}{t:TGs}{n:Nat}(hc:X.calm=true)(h:PGs X es t)
  (hn:(J8 es X.env).length=n:=by rfl) (hst:(J8 es X.env).findIdx? (·.1)=none:=by rfl):PG X (.Tuple es k pos) (gTup X.K n t):=by
 intro pins s σ H v u Q I r hw;obtain ⟨a,xs,e1,hq,hl,hw⟩:=hw;subst e1;cases r;obtain ⟨its,rv,ht,hz⟩:=I.tuple hq;refine assign_Tuple_tuple (I.ok.hd hc) ht (by simp[hn,<- hl,rv.length]) hst λh' hx=>?_;have I1:Inv X pins σ H {s with heap:=h'}:=I.kept (t':=s.toks) λb o e=>hx b o (Cn (BE e)) e;exact h pins _ σ H xs _ Q I1 (by simpa using rv) hw
def gSub(to ti:TE)(t:TSet):TG:=λv σ H Q=>to σ H λo H1=>ti σ H1 λi H2=>t o i v H2 λH3=>Q σ H3
theorem AFx{o i:Expr}{to ti:TE}{t:TSet}(ho:PE X o to)(hi:PE X i ti)(hs:PSet X t)
  (ha:∀v,N2 (.Subscript o i pos) X.env v=(do
   let ov <- MC [v] (eval o X.env)
   let iv <- MC [v,ov] (eval i X.env)
   UR pos
   MC [v,ov,iv] (US ov iv v)
   release [v,ov,iv] []):=by intro _;rfl):PG X (.Subscript o i pos) (gSub to ti t):=by
 intro pins s σ H v u Q I r h;rw[ha];refine Ap (D0 (thn (ho pins s σ H _ I h) λov s1 ⟨x,H1,I1,r1,q1⟩=>?_));refine Ap (D0 (thn (hi pins s1 σ H1 _ I1 q1) λiv s2 ⟨y,H2,I2,r2,q2⟩=>?_));refine Ap (QH (Ap (D0 (thn (hs pins s2 σ H2 x y v ov iv u _ I2 r1 r2 r q2) λ_ s3 ⟨H3,I3,q3⟩=>?_))));exact wpAny_release ⟨σ,H3,I3,q3⟩
def AFW(te:TE)(g:TG):TS:=λD σ H=>te σ H λx H1=>g x σ H1 D.nx
theorem ACq{tg e:Expr}{te:TE}{g:TG}(he:PE X e te)(hg:PG X tg g)(hs:swapsWithSole [tg] e pos.line X.env=pure false:=by rfl)(hw:swappedStores [tg] e X.env=pure none:=by rfl)
  (h1:(J8 [tg] X.env).map (·.2)=[N2 tg X.env]:=by rfl):PS X (.Assign [tg] e pos) (AFW te g):=by
 intro pins s σ H D I h;refine wpAny_Assign_stores (thn (he pins s σ H _ I h) λv s1 ⟨x,H1,I1,r1,q1⟩=>?_) hs hw;rw[h1];exact thn (hg pins s1 σ H1 x v _ I1 r1 q1) λ_ s2 q=>q
theorem Av{i:Nat}{x:Str}{e:Expr}{te:TE}{pos':Pos}(hN:X.N.Nodup)(hi:X.N[i]?=some x)(hx:Loc X.env.scope x)(he:PE X e te)(hs:MU e (some (.Name x pos')) pos.line X.env=pure false:=by rfl)(hf:X.fn x=true\/X.env.scope.names.lookup x=some .local:=by first | exact .inl rfl | exact .inr rfl | assumption) :
  PS X (.Assign [.Name x pos'] e pos) (AFW te (gName i)):=by
 intro pins s σ H D I h;refine wpAny_Assign_Name (thn (he pins s σ H _ I h) λv s1 ⟨y,H1,I1,r1,q1⟩=>?_) hs;exact Rp I1 hN hi hx r1 (λs2 I2=>⟨_,H1,I2,q1⟩) hf
def AEw(c:TT)(tb:TS):TS:=λD σ H=>∃W:Nat->St->Hp->Prop,(∃m,W m σ H)/\∀m σ H,W m σ H ->
 c σ H λb H1=>if b=true then ∃N:St->Hp->Prop,(∀σ' H',N σ' H'->∃m',m'<m/\W m' σ' H')/\tb {D with nx:=N,ct:=N,bk:=D.nx} σ H1 else D.nx σ H1
theorem ABk{c:Expr}{body:List Stmt}{tc:TT}{tb:TS}(hp:PassesOwn (AM X.prog X.w) X.A X.env X.xe)(hc:PT X c tc)(hb:PSs X body tb):PS X (.While c body [] pos) (AEw tc tb):=by
 intro pins s σ H D I h;obtain ⟨W,⟨m0,w0⟩,turn⟩:=h;refine wpAny_While (codeAny_whileLoop (λn s'=>∃σ' H',Inv X pins σ' H' s'/\W n σ' H') ?_ m0 ⟨σ,H,I,w0⟩);rintro n s1 ⟨σ1,H1,I1,w1⟩;refine HE hp (thn (hc pins s1 σ1 H1 _ I1 (turn n σ1 H1 w1)) λb s2 ⟨H2,I2,q2⟩=>?_);cases b with
 | true =>
  obtain ⟨N,hN,q2⟩:=q2;rw[if_pos rfl];refine HE hp (thn (hb pins s2 σ1 H2 _ I2 q2) λf s3 q3=>?_);cases f with
  | next =>
   obtain ⟨σ3,H3,I3,n3⟩:=q3;obtain ⟨m',hm,w3⟩:=hN σ3 H3 n3;exact ⟨m',hm,σ3,H3,I3,w3⟩
  | cont =>
   obtain ⟨σ3,H3,I3,n3⟩:=q3;obtain ⟨m',hm,w3⟩:=hN σ3 H3 n3;exact ⟨m',hm,σ3,H3,I3,w3⟩
  | brk=>exact q3
  | ret v=>exact q3
 | false =>
  rw[if_neg BN];exact L3 ⟨σ1,H2,I2,q2⟩
end
structure It where
 go:Nat->Hp->Prop
 yld:Nat->Hp->V->Hp->Prop
 stop:Nat->Hp->Prop
def FpOk(X:Cx)(pins:List (Addr×Obj))(H:Hp)(b:Addr):Prop :=
 H b=none/\b≠X.env.locals/\b∉X.fs/\(b∈X.ex\/X.s₀.heap.objs.size<=b)/\(∀x c,X.env.cells.lookup x=some c->c≠b)/\∀p∈X.pn++pins,p.1≠b
theorem Inv.fpOk{X:Cx}{pins:List (Addr×Obj)}{σ:St}{H H':Hp}{s:AA}{b:Addr}(I:Inv X pins σ H s)(hb:s.heap.objs.size<=b)(hn:H' b=none):FpOk X pins H' b:=by
 refine ⟨hn,WE (CH I.lt hb),I.nofs hb,.inr (BM I.sz hb),λx c e z=>?_,λp hp z=>?_⟩
 ·obtain ⟨v,q⟩:=I.cell x c e
  exact absurd (CH q.lt (by rw[z];exact hb)) (FI _)
 ·exact absurd (CH (BE (I.pin p hp).1) (by rw[z];exact hb)) (FI _)
structure Turn(P:AK)(w:AR)(K:As)(tg:Expr)(J:It)(fp:List Addr)(it:Addr)(tn:Nat->Heap->Prop):Prop where
 mem:it∈fp
 obj:∀i h,tn i h->∀b∈fp,∃o,h.get? b=some o/\∀v,o.data≠.cell v
 keep:∀i h h',tn i h->(∀b∈fp,∀o,h.get? b=some o->h'.get? b=some o)->tn i h'
 item:∀(X:Cx),X.prog=P->X.w=w->X.K=K->X.calm=true->∀(i:Nat) (pins:List (Addr×Obj)) (s:AA) (σ:St) (H:Hp) (E:Au->AA->Prop),Inv X pins σ H s->(∀b∈fp,FpOk X pins H b)->tn i s.heap->J.go i H ->
  wpAny (AM P w) X.A (LH (.ref it)) (λr s1=>∃u,r=some u /\
   wpAny (AM P w) X.A (L4 tg (.ref it) u) (λ_ s2=>∃x H',Inv X pins σ H' s2/\RelV x u/\J.yld i H x H'/\tn (i+1) s2.heap/\∀b∈fp,H' b=none) E s1) E s
 done:∀(X:Cx),X.prog=P->X.w=w->X.K=K->X.calm=true->∀(i:Nat) (pins:List (Addr×Obj)) (s:AA) (σ:St) (H:Hp) (E:Au->AA->Prop),Inv X pins σ H s->(∀b∈fp,FpOk X pins H b)->tn i s.heap->J.stop i H ->
  wpAny (AM P w) X.A (LH (.ref it)) (λr s1=>r=none/\Inv X pins σ H s1) E s
 self:∀(A:B6) (i:Nat) (s:AA) (Q:Au->AA->Prop) (E:Au->AA->Prop),tn i s.heap->Q (.ref it) s->wpAny (AM P w) A (O3 (.ref it)) Q E s
abbrev TI:=St->Hp->(It->Hp->Prop)->Prop
def PIE(X:Cx)(pins:List (Addr×Obj))(σ:St)(tg:Expr)(R:It->Hp->Prop)(itv:Au)(s2:AA):Prop :=
 ∃(it:Addr) (fp:List Addr) (tn:Nat->Heap->Prop) (J:It) (H':Hp),itv=.ref it/\Inv X pins σ H' s2/\Turn X.prog X.w X.K tg J fp it tn/\tn 0 s2.heap/\(∀b∈fp,FpOk X pins H' b)/\R J H'
def PI(X:Cx)(tg iter:Expr)(wi:TI):Prop :=
 ∀(pins:List (Addr×Obj)) (s:AA) (σ:St) (H:Hp) (R:It->Hp->Prop),Inv X pins σ H s->wi σ H R ->
  wpAny (AM X.prog X.w) X.A (eval iter X.env) (λv s1=>wpAny (AM X.prog X.w) X.A (O3 v) (PIE X pins σ tg R) X.xe s1) X.xe s
theorem Xf{M:V1}{A:B6}{E:Au->AA->Prop}{s:AA}{tg:Expr}{it:Addr}{u:Au}{o:Obj}{n:String}{vs:Array Au}{Q:Unit->AA->Prop}(ho:s.heap.get? it=some o)(hc:o.cls=.type n)(hd:o.data=.fields vs)
  (hn:["enumerate","zip","dict_itemiterator","dict_reverseitemiterator","odict_iterator","itertools.zip_longest","itertools.pairwise"].contains n=false) (hQ:Q () s):wpAny M A (L4 tg (.ref it) u) Q E s:=by
 unfold L4;cases tg<;>first
  | exact wpAny_pure hQ
  | (cases u<;>first
    | exact wpAny_pure hQ
    | (
      refine Ap (PQ ho ?_);rw[hc,hd];show wpAny M A (if (["enumerate","zip","dict_itemiterator","dict_reverseitemiterator","odict_iterator","itertools.zip_longest","itertools.pairwise"].contains n&&vs[0]? == some (F4 _))=true then _ else _) Q E s;rw[if_neg (by intro h;rw[hn,O4] at h;cases h)];exact wpAny_pure hQ))
def Itl(K:As)(a:Addr):It :=
 ⟨λi H=>∃xs x,SqL K H a xs/\xs[i]?=some x,λi H x H'=>H'=H/\∀xs,SqL K H a xs->xs[i]?=some x,λi H=>∃xs,SqL K H a xs/\xs.length<=i⟩
def Itt(K:As)(a:Addr):It :=
 ⟨λi H=>∃xs x,SqT K H a xs/\xs[i]?=some x,λi H x H'=>H'=H/\∀xs,SqT K H a xs->xs[i]?=some x,λi H=>∃xs,SqT K H a xs/\xs.length<=i⟩
def Itr(lo:Int)(n:Nat):It:=⟨λi _=>i<n,λi H x H'=>H'=H/\x=.int (lo+i),λi _=>n<=i⟩
theorem Od{P:AK}{w:AR}{K:As}{tg:Expr}(a it:Addr):Turn P w K tg (Itl K a) [it] it (λi h=>h.IsListIter it a i) where
 mem:=by simp
 obj:=λi h st b hb=>by
  have e:b=it:=by simpa using hb
  subst e;obtain ⟨o,e,c,d⟩:=st;exact ⟨o,e,λv z=>by rw[d] at z;cases z⟩
 keep:=λi h h' st k=>st.at λo e=>k it (by simp) o e
 item:=by
  intro X hP hw hK hc i pins s σ H E I hf st hg;subst hP hw hK;obtain ⟨xs,x,hq,hx⟩:=hg;obtain ⟨its,rv,p,hz⟩:=I.list hq;obtain ⟨u,hu,ru⟩:=rv.get hx;obtain ⟨f0,f1,f2,f3,f4,f5⟩:=hf it (by simp);refine wpAny_pyNext_list_item st p.isList (x:=u) (by simpa using hu) λh' st' sb=>?_;have I1:Inv X pins σ H {s with heap:=h'}:=I.turned (t':=s.toks) (λb o hb e=>(sb.2 b hb).trans e) f0 f1 f3 f4 f5;obtain ⟨o,e,c,d⟩:=id st';exact ⟨u,rfl,Xf (s:={s with heap:=h'}) e c d (by decide) ⟨x,H,I1,ru,⟨rfl,λys hy=>by rw[I.list_inj hy hq];exact hx⟩,st',λb hb=>(hf b hb).1⟩⟩
 done:=by
  intro X hP hw hK hc i pins s σ H E I hf st hg;subst hP hw hK;obtain ⟨xs,hq,hx⟩:=hg;obtain ⟨its,rv,p,hz⟩:=I.list hq;obtain ⟨f0,f1,f2,f3,f4,f5⟩:=hf it (by simp);have hl:=rv.length;exact wpAny_pyNext_list_end (I.ok.hd hc) st p.isList (by simp;lia) λh' eb=>⟨rfl,I.turned (t':=s.toks) (λb o hb e=>eb b o hb e) f0 f1 f3 f4 f5⟩
 self:=λ_ _ _ _ _ st h=>wpAny_pyIter_listiter st h
theorem Kr{P:AK}{w:AR}{K:As}{tg:Expr}(a it:Addr):Turn P w K tg (Itt K a) [it] it (λi h=>h.IsTupleIter it a i) where
 mem:=by simp
 obj:=λi h st b hb=>by
  have e:b=it:=by simpa using hb
  subst e;obtain ⟨o,e,c,d⟩:=st;exact ⟨o,e,λv z=>by rw[d] at z;cases z⟩
 keep:=λi h h' st k=>st.at λo e=>k it (by simp) o e
 item:=by
  intro X hP hw hK hc i pins s σ H E I hf st hg;subst hP hw hK;obtain ⟨xs,x,hq,hx⟩:=hg;obtain ⟨its,rv,p,hz⟩:=I.tuple hq;obtain ⟨u,hu,ru⟩:=rv.get hx;obtain ⟨f0,f1,f2,f3,f4,f5⟩:=hf it (by simp);refine wpAny_pyNext_tuple_item st (show s.heap.IsTuple a its.toArray from p) (x:=u) (by simpa using hu) λh' st' sb=>?_;have I1:Inv X pins σ H {s with heap:=h'}:=I.turned (t':=s.toks) (λb o hb e=>(sb.2 b hb).trans e) f0 f1 f3 f4 f5;obtain ⟨o,e,c,d⟩:=id st';exact ⟨u,rfl,Xf (s:={s with heap:=h'}) e c d (by decide) ⟨x,H,I1,ru,⟨rfl,λys hy=>by rw[I.tuple_inj hy hq];exact hx⟩,st',λb hb=>(hf b hb).1⟩⟩
 done:=by
  intro X hP hw hK hc i pins s σ H E I hf st hg;subst hP hw hK;obtain ⟨xs,hq,hx⟩:=hg;obtain ⟨its,rv,p,hz⟩:=I.tuple hq;obtain ⟨f0,f1,f2,f3,f4,f5⟩:=hf it (by simp);have hl:=rv.length;exact wpAny_pyNext_tuple_end (I.ok.hd hc) st (show s.heap.IsTuple a its.toArray from p) (by simp;lia) λh' eb=>⟨rfl,I.turned (t':=s.toks) (λb o hb e=>eb b o hb e) f0 f1 f3 f4 f5⟩
 self:=λ_ _ _ _ _ st h=>wpAny_pyIter_tupleiter st h
theorem Us{P:AK}{w:AR}{K:As}{tg:Expr}(it:Addr)(lo:Int)(n:Nat):Turn P w K tg (Itr lo n) [it] it (λi h=>OP h it (lo+(i:Nat)*1) ((n:Int)-(i:Nat)) 1) where
 mem:=by simp
 obj:=λi h st b hb=>by
  have e:b=it:=by simpa using hb
  subst e;exact ⟨_,st,λv z=>by
   have z':SK _=U6 v:=z;cases z'⟩
 keep:=λi h h' st k=>k it (by simp) _ st
 item:=by
  intro X hP hw hK hc i pins s σ H E I hf st hg;subst hP hw hK;obtain ⟨f0,f1,f2,f3,f4,f5⟩:=hf it (by simp);have W:=X1 (prog:=X.prog) (w:=X.w) (I.ok.hd hc) it lo 1 n;refine W.item i s _ _ hg st λv h' tk hv st' kk=>?_;obtain ⟨t,rfl⟩:=hv;have I1:Inv X pins σ H {s with heap:=h',toks:=tk}:=I.turned (λb o hb e=>kk b o (by simpa using hb) e) f0 f1 f3 f4 f5;refine ⟨_,rfl,Xf (s:={s with heap:=h',toks:=tk}) (n:="range_iterator") st' rfl rfl (by decide) ⟨.int (lo+i),H,I1,⟨t,?_⟩,⟨rfl,rfl⟩,st',λb hb=>(hf b hb).1⟩⟩;rw[SL]
 done:=by
  intro X hP hw hK hc i pins s σ H E I hf st hg;subst hP hw hK;obtain ⟨f0,f1,f2,f3,f4,f5⟩:=hf it (by simp);exact OQ (I.ok.hd hc) st (by have:n<=i:=hg;lia) λh' eb=>⟨rfl,I.turned (t':=s.toks) (λb o hb e=>eb b o hb e) f0 f1 f3 f4 f5⟩
 self:=λ_ _ _ _ _ st h=>OR st h
section
variable{X:Cx}{tg:Expr}
def AGM(K:As)(tl:TE):TI:=λσ H R=>tl σ H λx H1=>∃a,x=.ref a/\(∃xs,SqL K H1 a xs)/\R (Itl K a) H1
def AGw(K:As)(tl:TE):TI:=λσ H R=>tl σ H λx H1=>∃a,x=.ref a/\(∃xs,SqT K H1 a xs)/\R (Itt K a) H1
theorem Bv{l:Expr}{tl:TE}(hl:PE X l tl):PI X tg l (AGM X.K tl):=by
 intro pins s σ H R I h;refine thn (hl pins s σ H _ I h) λv s1 ⟨x,H1,I1,r1,q1⟩=>?_;obtain ⟨a,e,⟨xs,hq⟩,q⟩:=q1;subst e;cases r1;obtain ⟨its,rv,p,hz⟩:=I1.list hq;refine NG p.isList ?_;refine ⟨s1.heap.objs.size,[s1.heap.objs.size],_,_,H1,rfl,I1.kept (t':=s1.toks) λb o e=>AH _ e,Od a _,⟨_,AU _ rfl,rfl,rfl⟩,λb hb=>?_,q⟩;have e:b=s1.heap.objs.size:=by simpa using hb
 subst e;exact I1.fpOk (AE _) (I1.hok.fresh (AE _))
theorem AAm{l:Expr}{tl:TE}(hl:PE X l tl):PI X tg l (AGw X.K tl):=by
 intro pins s σ H R I h;refine thn (hl pins s σ H _ I h) λv s1 ⟨x,H1,I1,r1,q1⟩=>?_;obtain ⟨a,e,⟨xs,hq⟩,q⟩:=q1;subst e;cases r1;obtain ⟨its,rv,p,hz⟩:=I1.tuple hq;refine JA (show s1.heap.IsTuple a its.toArray from p) ?_;refine ⟨s1.heap.objs.size,[s1.heap.objs.size],_,_,H1,rfl,I1.kept (t':=s1.toks) λb o e=>AH _ e,Kr a _,⟨_,AU _ rfl,rfl,rfl⟩,λb hb=>?_,q⟩;have e:b=s1.heap.objs.size:=by simpa using hb
 subst e;exact I1.fpOk (AE _) (I1.hok.fresh (AE _))
theorem Tj{pins:List (Addr×Obj)}{σ:St}{H:Hp}{s:AA}{R:It->Hp->Prop}{E:Au->AA->Prop}{lo hi:Int}{t u v:Tok}{tk:Nat}(I:Inv X pins σ H s)(h1:-(2 ^ 62)<=lo)(h2:lo<2 ^ 62)(h3:-(2 ^ 62)<=hi)(h4:hi<2 ^ 62)
  (q:R (Itr lo (hi-lo).toNat) H):wpAny (AM X.prog X.w) X.A (O3 (.ref s.heap.objs.size)) (PIE X pins σ tg R) E {s with heap:=s.heap.push {cls:=.type "range",data:=.fields #[.int lo t,.int hi u,.int 1 v]},toks:=tk}:=by
 refine Rs (X3 ..) (U7 h1 h2 h3 h4) ?_;have I1:Inv X pins σ H {s with heap:=s.heap.push {cls:=.type "range",data:=.fields #[.int lo t,.int hi u,.int 1 v]},toks:=tk}:=I.kept λb o e=>AH _ e;refine ⟨(s.heap.push {cls:=.type "range",data:=.fields #[.int lo t,.int hi u,.int 1 v]}).objs.size,[(s.heap.push {cls:=.type "range",data:=.fields #[.int lo t,.int hi u,.int 1 v]}).objs.size],_,_,H,rfl,
  I1.kept (t':=tk) λb o e=>AH _ e,Us _ lo (hi-lo).toNat,?_,λb hb=>?_,q⟩
 ·have e1:lo+((0:Nat):Int)*1=lo:=by simp
  have e2:(((hi-lo).toNat:Nat):Int)-((0:Nat):Int)=Fu lo hi 1:=by rw[QI];split<;>lia
  show OP _ _ (lo+((0:Nat):Int)*1) ((((hi-lo).toNat:Nat):Int)-((0:Nat):Int)) 1;rw[e1,e2];exact AU _ rfl
 ·have e:b=(s.heap.push {cls:=.type "range",data:=.fields #[.int lo t,.int hi u,.int 1 v]}).objs.size:=by simpa using hb
  subst e;exact I1.fpOk (AE _) (I1.hok.fresh (AE _))
def AGb(ta:TA):TI:=λσ H R=>ta σ H λvs H1=>∃j:Int,vs=[.int j]/\-(2 ^ 62)<=j/\j<2 ^ 62/\R (Itr 0 j.toNat) H1
def AGq(ta:TA):TI:=λσ H R=>ta σ H λvs H1=>∃i j:Int,vs=[.int i,.int j]/\(-(2 ^ 62)<=i/\i<2 ^ 62/\-(2 ^ 62)<=j/\j<2 ^ 62)/\R (Itr i (j-i).toNat) H1
theorem DG{a:Expr}{ta:TA}{p pos:Pos}(hg:Gl X "range")(hm:X.mg "range" = none)(ha:PA X [a] ta)(hs:Co [a] X.env=[(false,eval a X.env)]:=by rfl):PI X tg (.Call (.Name "range" p) [a] [] pos) (AGb ta):=by
 intro pins s σ H R I h;refine Call_ (Ek I hg hm Lc (D9 (thn (ha pos pins s σ H _ I h) λus s1 ⟨vs,H1,I1,r1,q1⟩=>?_) hs rfl));obtain ⟨j,e,q1,q2,q⟩:=q1;subst e;cases r1 with
 | cons r rr =>
  cases rr;obtain ⟨t,rfl⟩:=r;exact call_range_1 (Tj I1 (by lia) (by lia) q1 q2 (by simpa using q))
theorem Oz{a b:Expr}{ta:TA}{p pos:Pos}(hg:Gl X "range")(hm:X.mg "range" = none)(ha:PA X [a,b] ta)(hs:Co [a,b] X.env=[(false,eval a X.env),(false,eval b X.env)]:=by rfl)(hs2:Co [b] X.env=[(false,eval b X.env)]:=by rfl) :
  PI X tg (.Call (.Name "range" p) [a,b] [] pos) (AGq ta):=by
 intro pins s σ H R I h;refine Call_ (Ek I hg hm Lc (D9 (thn (ha pos pins s σ H _ I h) λus s1 ⟨vs,H1,I1,r1,q1⟩=>?_) (by rw[hs,hs2]) (by rw[hs2];rfl)));obtain ⟨i,j,e,⟨q1,q2,q3,q4⟩,q⟩:=q1;subst e;cases r1 with
 | cons r rr =>
  cases rr with
  | cons r' rr =>
   cases rr;obtain ⟨t,rfl⟩:=r;obtain ⟨t',rfl⟩:=r';exact call_range_2 (Tj I1 q1 q2 q3 q4 q)
def AGu(wi:TI)(g:TG)(tb:TS):TS:=λD σ H=>wi σ H λJ H1=>∃W:Nat->Nat->St->Hp->Prop,(∃m,W 0 m σ H1)/\∀i m σ H,W i m σ H ->
 (J.stop i H/\D.nx σ H)\/(J.go i H/\∃N:St->Hp->Prop,(∀σ' H',N σ' H'->∃m',m'<m/\W (i+1) m' σ' H')/\∀x H',J.yld i H x H'->g x σ H' λσ2 H2=>tb {D with nx:=N,ct:=N,bk:=D.nx} σ2 H2)
def pinsAt(fp:List Addr)(h:Heap):List (Addr×Obj):=fp.filterMap λb=>(h.get? b).map λo=>(b,o)
theorem FW{fp:List Addr}{h:Heap}{b:Addr}{o:Obj}(hb:b∈fp)(e:h.get? b=some o):(b,o)∈pinsAt fp h:=MV.mpr ⟨b,hb,by rw[e];rfl⟩
theorem Yx{fp:List Addr}{h:Heap}{p:Addr×Obj}(hp:p∈pinsAt fp h):p.1∈fp/\h.get? p.1=some p.2:=by
 obtain ⟨b,hb,e⟩:=MV.mp hp;cases q:h.get? b with
 | none=>rw[q] at e;cases e
 | some o =>
  rw[q] at e;have e':(b,o)=p:=BH e;subst e';exact ⟨hb,q⟩
theorem Inv.pinned{pins:List (Addr×Obj)}{σ:St}{H:Hp}{s:AA}{fp:List Addr}(I:Inv X pins σ H s)(hf:∀b∈fp,FpOk X pins H b)(ho:∀b∈fp,∃o,s.heap.get? b=some o/\∀v,o.data≠.cell v):Inv X (pins++pinsAt fp s.heap) σ H s :=
 I.pins_of λp hp=>(B9.mp hp).elim (λz=>I.pin p (CC _ z)) λz=>by
  obtain ⟨hb,e⟩:=Yx z;obtain ⟨f0,f1,f2,_⟩:=hf p.1 hb;obtain ⟨o,e',d⟩:=ho p.1 hb;rw[e] at e';cases e';exact ⟨e,f0,f1,f2,d⟩
theorem Inv.unpinned{pins pl:List (Addr×Obj)}{σ:St}{H:Hp}{s:AA}(I:Inv X (pins++pl) σ H s):Inv X pins σ H s:=I.pins_of λp hp=>I.pin p (CC _ (Fk _ hp))
theorem Cw{iter:Expr}{body:List Stmt}{wi:TI}{g:TG}{tb:TS}{pos:Pos}(hp:PassesOwn (AM X.prog X.w) X.A X.env X.xe)(hc:X.calm=true)(hi:PI X tg iter wi)(hg:PG X tg g)(hb:PSs X body tb)
  (hs:∀x,NH iter X.env x=pure x:=by intro _;rfl):PS X (.For tg iter body [] pos) (AGu wi g tb):=by
 intro pins s σ H D I h;refine wpAny_For (thn (hi pins s σ H _ I h) λv s1 h1=>thn h1 λitv s2 h2=>?_) hs;obtain ⟨it,fp,tn,J,H2,e,I2,T,st2,f2,W,⟨m0,w0⟩,turn⟩:=h2;subst e;have stat:∀{H':Hp},(∀b∈fp,H' b=none)->∀b∈fp,FpOk X pins H' b:=λhn b hb=>⟨hn b hb,(f2 b hb).2⟩;refine codeAny_forLoop_any (λn s'=>∃i σ' H',Inv X pins σ' H' s'/\tn i s'.heap/\(∀b∈fp,H' b=none)/\W i n σ' H') ?_ m0 ⟨0,σ,H2,I2,st2,λb hb=>(f2 b hb).1,w0⟩;rintro n s3 ⟨i,σ3,H3,I3,st3,fr3,w3⟩;rcases turn i n σ3 H3 w3 with⟨stop,qn⟩ | ⟨go,N,hN,step⟩
 ·refine HE hp (thn (T.done X rfl rfl rfl hc i pins s3 σ3 H3 X.xe I3 (stat fr3) st3 stop) λr s4 ⟨hr,I4⟩=>?_)
  subst hr;exact L3 ⟨σ3,H3,I4,qn⟩
 ·refine HE hp (thn (T.item X rfl rfl rfl hc i pins s3 σ3 H3 X.xe I3 (stat fr3) st3 go) λr s4 ⟨u,hr,h4⟩=>?_)
  subst hr;refine HE hp (thn h4 λ_ s5 ⟨x,H5,I5,r5,y5,st5,fr5⟩=>?_);have I5':=I5.pinned (stat fr5) (T.obj _ _ st5);refine HE hp (thn (hg _ s5 σ3 H5 x u _ I5' r5 (step x H5 y5)) λ_ s6 ⟨σ6,H6,I6,q6⟩=>?_);refine HE hp (thn (hb _ s6 σ6 H6 _ I6 q6) λf s7 q7=>?_);have again:∀{σ7:St}{H7:Hp},Inv X (pins++pinsAt fp s5.heap) σ7 H7 s7->N σ7 H7->∃m,m<n/\∃i σ' H',Inv X pins σ' H' s7/\tn i s7.heap/\(∀b∈fp,H' b=none)/\W i m σ' H':=λ{σ7 H7} I7 n7=>by
   obtain ⟨m',hm,w7⟩:=hN σ7 H7 n7;refine ⟨m',hm,i+1,σ7,H7,I7.unpinned,T.keep _ _ _ st5 λb hb o e=>(I7.pin (b,o) (CC _ (CC _ (FW hb e)))).1,λb hb=>?_,w7⟩;obtain ⟨o,e,d⟩:=T.obj _ _ st5 b hb;exact (I7.pin (b,o) (CC _ (CC _ (FW hb e)))).2.1
  cases f with
  | next=>obtain ⟨σ7,H7,I7,n7⟩:=q7;exact again I7 n7
  | cont=>obtain ⟨σ7,H7,I7,n7⟩:=q7;exact again I7 n7
  | brk=>obtain ⟨σ7,H7,I7,q7⟩:=q7;exact ⟨σ7,H7,I7.unpinned,q7⟩
  | ret v=>obtain ⟨x7,σ7,H7,I7,r7,q7⟩:=q7;exact ⟨x7,σ7,H7,I7.unpinned,r7,q7⟩
end
theorem Ec{K:As}{a:Addr}{xs:List V}{g:TG}{tb:TS}{D:Ends}{σ:St}{H:Hp}(Pv:Nat->St->Hp->Prop)(h0:Pv 0 σ H)(hl:∀i σ H,i<=xs.length->Pv i σ H->SqL K H a xs)
  (hs:∀i x σ H,xs[i]?=some x->Pv i σ H->g x σ H λσ2 H2=>tb {D with nx:=Pv (i+1),ct:=Pv (i+1),bk:=D.nx} σ2 H2) (hd:∀σ H,Pv xs.length σ H->D.nx σ H) :
  ∃W:Nat->Nat->St->Hp->Prop,(∃m,W 0 m σ H)/\∀i m σ H,W i m σ H ->
   ((Itl K a).stop i H/\D.nx σ H)\/((Itl K a).go i H/\∃N:St->Hp->Prop,(∀σ' H',N σ' H'->∃m',m'<m/\W (i+1) m' σ' H')/\∀x H',(Itl K a).yld i H x H'->g x σ H' λσ2 H2=>tb {D with nx:=N,ct:=N,bk:=D.nx} σ2 H2):=by
 refine ⟨λi m σ H=>m=xs.length-i/\i<=xs.length/\Pv i σ H,⟨xs.length,by simp,A8 _,h0⟩,?_⟩;rintro i m σ H ⟨rfl,hi,p⟩;have q:=hl i σ H hi p;by_cases hlt:i<xs.length
 ·refine .inr ⟨⟨xs,xs[i],q,by simp[hlt]⟩,Pv (i+1),λσ' H' p'=>⟨xs.length-(i+1),by lia,rfl,hlt,p'⟩,λx H' y=>?_⟩
  obtain ⟨e,y⟩:=y;subst e;exact hs i x σ _ (y xs q) p
 ·have e:i=xs.length:=by lia
  subst e;exact .inl ⟨⟨xs,q,AE _⟩,hd σ H p⟩
theorem ADk{K:As}{a:Addr}{xs:List V}{g:TG}{tb:TS}{D:Ends}{σ:St}{H:Hp}(Pv:Nat->St->Hp->Prop)(h0:Pv 0 σ H)(hl:∀i σ H,i<=xs.length->Pv i σ H->SqT K H a xs)
  (hs:∀i x σ H,xs[i]?=some x->Pv i σ H->g x σ H λσ2 H2=>tb {D with nx:=Pv (i+1),ct:=Pv (i+1),bk:=D.nx} σ2 H2) (hd:∀σ H,Pv xs.length σ H->D.nx σ H) :
  ∃W:Nat->Nat->St->Hp->Prop,(∃m,W 0 m σ H)/\∀i m σ H,W i m σ H ->
   ((Itt K a).stop i H/\D.nx σ H)\/((Itt K a).go i H/\∃N:St->Hp->Prop,(∀σ' H',N σ' H'->∃m',m'<m/\W (i+1) m' σ' H')/\∀x H',(Itt K a).yld i H x H'->g x σ H' λσ2 H2=>tb {D with nx:=N,ct:=N,bk:=D.nx} σ2 H2):=by
 refine ⟨λi m σ H=>m=xs.length-i/\i<=xs.length/\Pv i σ H,⟨xs.length,by simp,A8 _,h0⟩,?_⟩;rintro i m σ H ⟨rfl,hi,p⟩;have q:=hl i σ H hi p;by_cases hlt:i<xs.length
 ·refine .inr ⟨⟨xs,xs[i],q,by simp[hlt]⟩,Pv (i+1),λσ' H' p'=>⟨xs.length-(i+1),by lia,rfl,hlt,p'⟩,λx H' y=>?_⟩
  obtain ⟨e,y⟩:=y;subst e;exact hs i x σ _ (y xs q) p
 ·have e:i=xs.length:=by lia
  subst e;exact .inl ⟨⟨xs,q,AE _⟩,hd σ H p⟩
theorem Et{lo:Int}{n:Nat}{g:TG}{tb:TS}{D:Ends}{σ:St}{H:Hp}(Pv:Nat->St->Hp->Prop)(h0:Pv 0 σ H)
  (hs:∀i σ H,i<n->Pv i σ H->g (.int (lo+i)) σ H λσ2 H2=>tb {D with nx:=Pv (i+1),ct:=Pv (i+1),bk:=D.nx} σ2 H2) (hd:∀σ H,Pv n σ H->D.nx σ H) :
  ∃W:Nat->Nat->St->Hp->Prop,(∃m,W 0 m σ H)/\∀i m σ H,W i m σ H ->
   ((Itr lo n).stop i H/\D.nx σ H)\/((Itr lo n).go i H/\∃N:St->Hp->Prop,(∀σ' H',N σ' H'->∃m',m'<m/\W (i+1) m' σ' H')/\∀x H',(Itr lo n).yld i H x H'->g x σ H' λσ2 H2=>tb {D with nx:=N,ct:=N,bk:=D.nx} σ2 H2):=by
 refine ⟨λi m σ H=>m=n-i/\i<=n/\Pv i σ H,⟨n,by simp,A8 _,h0⟩,?_⟩;rintro i m σ H ⟨rfl,hi,p⟩;by_cases hlt:i<n
 ·refine .inr ⟨hlt,Pv (i+1),λσ' H' p'=>⟨n-(i+1),by lia,rfl,hlt,p'⟩,λx H' y=>?_⟩
  obtain ⟨e,y⟩:=y;subst e y;exact hs i σ _ hlt p
 ·have e:i=n:=by lia
  subst e;exact .inl ⟨AE _,hd σ H p⟩
abbrev R2:=V->V->Hp->VK->Prop
def OpR(X:Cx)(f:Au->Au->Sem Au)(r:R2):Prop :=
 ∀(pins:List (Addr×Obj)) (s:AA) (σ:St) (H:Hp) (x y:V) (v u:Au) (Q:VK),Inv X pins σ H s->RelV x v->RelV y u->r x y H Q ->
  wpAny (AM X.prog X.w) X.A (f v u) (EP X pins σ Q) X.xe s
def UnR(X:Cx)(f:Au->Sem Au)(r:V->Hp->VK->Prop):Prop :=
 ∀(pins:List (Addr×Obj)) (s:AA) (σ:St) (H:Hp) (x:V) (v:Au) (Q:VK),Inv X pins σ H s->RelV x v->r x H Q ->
  wpAny (AM X.prog X.w) X.A (f v) (EP X pins σ Q) X.xe s
def CallR(X:Cx)(f:Au)(r:List V->Hp->VK->Prop):Prop :=
 ∀(pins:List (Addr×Obj)) (s:AA) (σ:St) (H:Hp) (xs:List V) (us:List Au) (Q:VK),Inv X pins σ H s->Vals xs us->r xs H Q ->
  wpAny (AM X.prog X.w) X.A (call f us) (EP X pins σ Q) X.xe s
def tOp(r:R2)(ta tb:TE):TE:=λσ H Q=>ta σ H λx H1=>tb σ H1 λy H2=>r x y H2 Q
def tUn(r:V->Hp->VK->Prop)(ta:TE):TE:=λσ H Q=>ta σ H λx H1=>r x H1 Q
def rI(C:Int->Int->Prop)(g:Int->Int->V):R2:=λx y H Q=>E2 λi j=>A4 (x=.int i) (y=.int j) (C i j) (Q (g i j) H)
def rI0(g:Int->Int->V):R2:=λx y H Q=>E2 λi j=>A3 (x=.int i) (y=.int j) (Q (g i j) H)
def rU(g:Int->V):V->Hp->VK->Prop:=λx H Q=>∃i,x=.int i/\Q (g i) H
section
variable{X:Cx}{a b c:Expr}{ta tb tc:TE}{pos:Pos}
theorem binT(ha:PE X a ta)(hb:PE X b tb){pins:List (Addr×Obj)}{s:AA}{σ:St}{H:Hp}{R:V->V->Hp->Prop}(I:Inv X pins σ H s)
  (h:ta σ H λx H1=>tb σ H1 λy H2=>R x y H2) {Q:Au->AA->Prop}{f:Au->Au->Sem Au}
  (hf:∀v u s2 x y H2,Inv X pins σ H2 s2->RelV x v->RelV y u->R x y H2->wpAny (AM X.prog X.w) X.A (f v u) Q X.xe s2) :
  wpAny (AM X.prog X.w) X.A (eval a X.env) (λv s₁=>wpAny (AM X.prog X.w) X.A (eval b X.env) (λu s₂=>wpAny (AM X.prog X.w) X.A (f v u) Q X.xe s₂) X.xe s₁) X.xe s:=by
 refine thn (ha pins s σ H _ I h) λv s1 ⟨x,H1,I1,r1,q1⟩=>?_;refine thn (hb pins s1 σ H1 _ I1 q1) λu s2 ⟨y,H2,I2,r2,q2⟩=>?_;exact hf v u s2 x y H2 I2 r1 r2 q2
theorem Az{op:Operator}{r:R2}(ho:OpR X (F5 op) r)(ha:PE X a ta)(hb:PE X b tb):PE X (.BinOp a op b pos) (tOp r ta tb):=by
 intro pins s σ H Q I h;exact wpAny_BinOp (binT ha hb I h λv u s2 x y H2 I2 rx ry q=>ho pins s2 σ H2 x y v u Q I2 rx ry q)
theorem Wy{op:UnaryOp}{r:V->Hp->VK->Prop}(ho:UnR X (unaryOp op) r)(ha:PE X a ta):PE X (.UnaryOp op a pos) (tUn r ta):=by
 intro pins s σ H Q I h;exact UnaryOp_ (thn (ha pins s σ H _ I h) λv s1 ⟨x,H1,I1,r1,q1⟩=>ho pins s1 σ H1 x v Q I1 r1 q1)
theorem opI{f:Au->Au->Sem Au}{C:Int->Int->Prop}{g:Int->Int->Int}
  (rule:∀(i j:Int) (t u:Tok) (s:AA) (Q:Au->AA->Prop) (E:Au->AA->Prop),C i j->Q (.int (g i j) s.toks) {s with toks:=s.toks+1}->wpAny (AM X.prog X.w) X.A (f (.int i t) (.int j u)) Q E s) :
  OpR X f (rI C λi j=>.int (g i j)):=by
 intro pins s σ H x y v u Q I rx ry h;obtain ⟨i,j,rfl,rfl,hc,q⟩:=h;obtain ⟨t,rfl⟩:=rx;obtain ⟨t',rfl⟩:=ry;exact rule i j t t' s _ _ hc ⟨.int (g i j),H,I.tok _,⟨_,rfl⟩,q⟩
theorem opI0{f:Au->Au->Sem Au}{g:Int->Int->Int}
  (rule:∀(i j:Int) (t u:Tok) (s:AA) (Q:Au->AA->Prop) (E:Au->AA->Prop),Q (.int (g i j) s.toks) {s with toks:=s.toks+1}->wpAny (AM X.prog X.w) X.A (f (.int i t) (.int j u)) Q E s) :
  OpR X f (rI0 λi j=>.int (g i j)):=by
 intro pins s σ H x y v u Q I rx ry h;obtain ⟨i,j,rfl,rfl,q⟩:=h;obtain ⟨t,rfl⟩:=rx;obtain ⟨t',rfl⟩:=ry;exact rule i j t t' s _ _ ⟨.int (g i j),H,I.tok _,⟨_,rfl⟩,q⟩
theorem opB0{f:Au->Au->Sem Au}{g:Int->Int->Bool}
  (rule:∀(i j:Int) (t u:Tok) (s:AA) (Q:Au->AA->Prop) (E:Au->AA->Prop),Q (.bool (g i j)) s->wpAny (AM X.prog X.w) X.A (f (.int i t) (.int j u)) Q E s) :
  OpR X f (rI0 λi j=>.bl (g i j)):=by
 intro pins s σ H x y v u Q I rx ry h;obtain ⟨i,j,rfl,rfl,q⟩:=h;obtain ⟨t,rfl⟩:=rx;obtain ⟨t',rfl⟩:=ry;exact rule i j t t' s _ _ ⟨.bl (g i j),H,I,rfl,q⟩
def CDiv(i j:Int):Prop:=0<j/\j<1073741824
def CMul(i j:Int):Prop:=(-(2 ^ 64)<i/\i<2 ^ 64)\/(-(2 ^ 64)<j/\j<2 ^ 64)
theorem CMul.ok{i j:Int}(h:CMul i j):IntMulOk i j:=by
 rcases h with⟨h1,h2⟩ | ⟨h1,h2⟩
 ·exact .of_left (intBits_le_64 h1 h2)
 ·exact .of_right (intBits_le_64 h1 h2)
theorem Uu(k:Nat):(0:Int)<=2 ^ k:=by
 rw[two_pow_cast];exact MW _
theorem Cy:OpR X (F5 .Add) (rI0 λi j=>.int (i+j)):=opI0 λ_ _ _ _ _ _ _ q=>add_int q
theorem Ft:OpR X (F5 .Sub) (rI0 λi j=>.int (i-j)):=opI0 λ_ _ _ _ _ _ _ q=>sub_int q
theorem Vr:OpR X (F5 .Mult) (rI CMul λi j=>.int (i*j)):=opI λ_ _ _ _ _ _ _ hc q=>mul_int q hc.ok
theorem DK:OpR X (F5 .FloorDiv) (rI CDiv λi j=>.int (i / j)):=opI λi j _ _ _ _ _ hc q=>by
 have h1:(0:Int)<j:=hc.1;have h2:j<1073741824:=hc.2;exact floordiv_int (by lia) (by rw[Nc i (by lia)];exact q) (.inl (OS (by lia)))
theorem Cz:OpR X (F5 .Mod) (rI (λ_ j=>0<j) λi j=>.int (i%j)):=opI λi j _ _ _ _ _ hc q=>by
 have h1:(0:Int)<j:=hc;exact mod_int' (by lia) (by rw[Int.fmod_eq_emod_of_nonneg i (by lia)];exact q)
theorem ABU:OpR X (F5 .RShift) (rI (λ_ j=>0<=j) λi j=>.int (i / 2 ^ j.toNat)):=opI λi j _ _ _ _ _ hc q =>
 rshift_int hc (by rw[Nc i (Uu _)];exact q)
theorem ABR:OpR X (F5 .BitAnd) (rI0 λi j=>.int (Builtin.bitAnd i j)):=opI0 λ_ _ _ _ _ _ _ q=>and_int q
theorem unI{f:Au->Sem Au}{g:Int->Int}
  (rule:∀(i:Int) (t:Tok) (s:AA) (Q:Au->AA->Prop) (E:Au->AA->Prop),Q (.int (g i) s.toks) {s with toks:=s.toks+1}->wpAny (AM X.prog X.w) X.A (f (.int i t)) Q E s) :
  UnR X f (rU λi=>.int (g i)):=by
 intro pins s σ H x v Q I rx h;obtain ⟨i,rfl,q⟩:=h;obtain ⟨t,rfl⟩:=rx;exact rule i t s _ _ ⟨.int (g i),H,I.tok _,⟨_,rfl⟩,q⟩
theorem Qh:UnR X (unaryOp .USub) (rU λi=>.int (-i)):=unI λ_ _ _ _ _ q=>neg_int q
end
def scal:V->V->Bool
 | .non,.non=>true | .non,.int _=>true | .int _,.non=>true | .non,.bl _=>true | .bl _,.non=>true | .non,.str _=>true | .str _,.non=>true
 | .int _,.int _=>true | .bl _,.bl _=>true | .str _,.str _=>true | .byt _,.byt _=>true
 | .int _,.str _=>true | .str _,.int _=>true | .bl _,.str _=>true | .str _,.bl _=>true
 | _,_=>false
def rEq:R2:=λx y H Q=>scal x y=true/\Q (.bl (decide (x=y))) H
def rNe:R2:=λx y H Q=>scal x y=true/\Q (.bl (!decide (x=y))) H
theorem YB{i j:Int}:decide (V.int i=V.int j)=(i==j):=by
 rw[F6];simp
theorem ACY{i j:Bool}:decide (V.bl i=V.bl j)=(i==j):=by
 rw[F6];simp
theorem Xo{i j:Str}:decide (V.str i=V.str j)=(i==j):=by
 rw[F6];simp
theorem YF{i j:Array UInt8}:decide (V.byt i=V.byt j)=(i.toList==j.toList):=by
 rw[F6];cases i;cases j;simp
section
variable{X:Cx}{a b c:Expr}{ta tb tc:TE}{pos:Pos}
theorem Bb{pins:List (Addr×Obj)}{σ:St}{H:Hp}{s:AA}{Q:VK}{k k':Bool}(I:Inv X pins σ H s)(q:Q (.bl k) H)(e:k=k'):EP X pins σ Q (.bool k') s:=by
 subst e;exact ⟨.bl k,H,I,rfl,q⟩
theorem Ci:OpR X (DZ .Eq) rEq:=by
 intro pins s σ H x y v u Q I rx ry h;obtain ⟨hs,q⟩:=h;cases x with
 | non =>
  cases rx;cases y with
  | non=>cases ry;exact V2 (Bb I q (by simp))
  | bl j=>cases ry;exact V3 (Bb I q (by simp))
  | int j=>obtain ⟨t',rfl⟩:=ry;exact WF (Bb I q (by simp))
  | str j=>obtain ⟨t',rfl⟩:=ry;exact WG (Bb I q (by simp))
  | _=>exact absurd (show false=true from hs) BN
 | bl i =>
  cases rx;cases y with
  | non=>cases ry;exact V4 (Bb I q (by simp))
  | bl j=>cases ry;exact eq_bool (Bb I q ACY)
  | str j=>obtain ⟨t',rfl⟩:=ry;exact V5 (Bb I q (by simp))
  | _=>exact absurd (show false=true from hs) BN
 | int i =>
  obtain ⟨t,rfl⟩:=rx;cases y with
  | non=>cases ry;exact WH (Bb I q (by simp))
  | int j=>obtain ⟨t',rfl⟩:=ry;exact eq_int (Bb I q YB)
  | str j=>obtain ⟨t',rfl⟩:=ry;exact WI (Bb I q (by simp))
  | _=>exact absurd (show false=true from hs) BN
 | str i =>
  obtain ⟨t,rfl⟩:=rx;cases y with
  | non=>cases ry;exact WJ (Bb I q (by simp))
  | bl j=>cases ry;exact V6 (Bb I q (by simp))
  | int j=>obtain ⟨t',rfl⟩:=ry;exact WN (Bb I q (by simp))
  | str j=>obtain ⟨t',rfl⟩:=ry;exact eq_str (Bb I q Xo)
  | _=>exact absurd (show false=true from hs) BN
 | byt i =>
  obtain ⟨t,rfl⟩:=rx;cases y with
  | byt j=>obtain ⟨t',rfl⟩:=ry;exact PySem.W.eq_bytes (Bb I q YF)
  | _=>exact absurd (show false=true from hs) BN
 | _=>cases y<;>exact absurd (show false=true from hs) BN
theorem Nt:OpR X (DZ .NotEq) rNe:=by
 intro pins s σ H x y v u Q I rx ry h;obtain ⟨hs,q⟩:=h;cases x with
 | non =>
  cases rx;cases y with
  | non=>cases ry;exact V7 (Bb I q (by simp))
  | bl j=>cases ry;exact V8 (Bb I q (by simp))
  | int j=>obtain ⟨t',rfl⟩:=ry;exact WO (Bb I q (by simp))
  | str j=>obtain ⟨t',rfl⟩:=ry;exact WP (Bb I q (by simp))
  | _=>exact absurd (show false=true from hs) BN
 | bl i =>
  cases rx;cases y with
  | non=>cases ry;exact V9 (Bb I q (by simp))
  | bl j=>cases ry;exact ne_bool (Bb I q (congrArg not ACY))
  | str j=>obtain ⟨t',rfl⟩:=ry;exact We (Bb I q (by simp))
  | _=>exact absurd (show false=true from hs) BN
 | int i =>
  obtain ⟨t,rfl⟩:=rx;cases y with
  | non=>cases ry;exact WS (Bb I q (by simp))
  | int j=>obtain ⟨t',rfl⟩:=ry;exact ne_int (Bb I q (congrArg not YB))
  | str j=>obtain ⟨t',rfl⟩:=ry;exact WU (Bb I q (by simp))
  | _=>exact absurd (show false=true from hs) BN
 | str i =>
  obtain ⟨t,rfl⟩:=rx;cases y with
  | non=>cases ry;exact WV (Bb I q (by simp))
  | bl j=>cases ry;exact Wl (Bb I q (by simp))
  | int j=>obtain ⟨t',rfl⟩:=ry;exact WZ (Bb I q (by simp))
  | str j=>obtain ⟨t',rfl⟩:=ry;exact ne_str (Bb I q (congrArg not Xo))
  | _=>exact absurd (show false=true from hs) BN
 | byt i =>
  obtain ⟨t,rfl⟩:=rx;cases y with
  | byt j=>obtain ⟨t',rfl⟩:=ry;exact PySem.W.ne_bytes (Bb I q (congrArg not YF))
  | _=>exact absurd (show false=true from hs) BN
 | _=>cases y<;>exact absurd (show false=true from hs) BN
theorem Ug:OpR X (DZ .Lt) (rI0 λi j=>.bl (decide (i<j))):=opB0 λ_ _ _ _ _ _ _ q=>lt_int q
theorem JT:OpR X (DZ .Gt) (rI0 λi j=>.bl (decide (j<i))):=opB0 λ_ _ _ _ _ _ _ q=>gt_int q
theorem AGk:OpR X (DZ .GtE) (rI0 λi j=>.bl (decide (j<=i))):=opB0 λ_ _ _ _ _ _ _ q=>ge_int q
theorem nomark(b:Expr){op:TU}(h:op≠.In:=by decide)(h2:op≠.NotIn:=by decide):IZ op b=false:=by
 have e1:(op==Y4)=false:=by cases op<;>first | rfl | exact absurd rfl h
 have e2:(op==X0)=false:=by cases op<;>first | rfl | exact absurd rfl h2
 cases b<;>simp[IZ,e1,e2]
theorem DR{op:TU}{r:R2}(ho:OpR X (DZ op) r)(ha:PE X a ta)(hb:PE X b tb)(hm:IZ op b=false):PE X (.Compare a [op] [b] pos) (tOp r ta tb):=by
 intro pins s σ H Q I h;exact wpAny_Compare1 (binT ha hb I h λv u s2 x y H2 I2 rx ry q=>ho pins s2 σ H2 x y v u Q I2 rx ry q) hm
def AGL(t:TE):TT:=λσ H Q=>t σ H λx H'=>∃k,x=.bl k/\Q k H'
theorem Ao{op:TU}{r:R2}(ho:OpR X (DZ op) r)(ha:PE X a ta)(hb:PE X b tb)(hm:IZ op b=false):PT X (.Compare a [op] [b] pos) (AGL (tOp r ta tb)):=by
 intro pins s σ H Q I h;refine O2 (thn (ha pins s σ H _ I h) λv s1 ⟨x,H1,I1,r1,q1⟩=>thn (hb pins s1 σ H1 _ I1 q1) λu s2 ⟨y,H2,I2,r2,q2⟩ =>
  thn (ho pins s2 σ H2 x y v u _ I2 r1 r2 q2) λc s3 ⟨z,H3,I3,r3,k,e,q3⟩=>?_) hm
 subst e;cases r3;exact HM ⟨H3,I3,q3⟩
theorem line63:(sizeLine:Nat)<2 ^ 63:=by rw[FX];decide
theorem vals1{x:V}{us:List Au}(r:Vals [x] us):∃u,us=[u]/\RelV x u:=by
 cases r with
 | cons r1 r2=>cases r2;exact ⟨_,rfl,r1⟩
theorem vals2{x y:V}{us:List Au}(r:Vals [x,y] us):∃u w',us=[u,w']/\RelV x u/\RelV y w':=by
 cases r with
 | cons r1 r2 =>
  cases r2 with
  | cons r3 r4=>cases r4;exact ⟨_,_,rfl,r1,r3⟩
theorem ZX(hc:X.calm=true):CallR X (.builtin "max") (λxs H Q=>∃i j,xs=[.int i,.int j]/\Q (.int (if j>i then j else i)) H):=by
 intro pins s σ H xs us Q I r h;obtain ⟨i,j,rfl,q⟩:=h;obtain ⟨u,w',rfl,⟨t,rfl⟩,⟨t',rfl⟩⟩:=vals2 r;refine max_two_ints (I.ok.hd hc) λh' tk k=>⟨_,H,I.kept k,?_,q⟩;by_cases hj:j>i
 ·rw[if_pos hj,if_pos hj];exact ⟨_,rfl⟩
 ·rw[if_neg hj,if_neg hj];exact ⟨_,rfl⟩
theorem JH(hc:X.calm=true):CallR X (.builtin "min") (λxs H Q=>∃i j,xs=[.int i,.int j]/\Q (.int (if j<i then j else i)) H):=by
 intro pins s σ H xs us Q I r h;obtain ⟨i,j,rfl,q⟩:=h;obtain ⟨u,w',rfl,⟨t,rfl⟩,⟨t',rfl⟩⟩:=vals2 r;refine min_two_ints (I.ok.hd hc) λh' tk k=>⟨_,H,I.kept k,?_,q⟩;by_cases hj:j<i
 ·rw[if_pos hj,if_pos hj];exact ⟨_,rfl⟩
 ·rw[if_neg hj,if_neg hj];exact ⟨_,rfl⟩
end
structure ObjM(h:Heap)(x dx C:Addr)(mA:Str->Option Au):Prop where
 obj:h.get? x=some (FD C dx)
 ns:h.Ns1 dx mA
 ne:dx≠x
set_option tactic.hygienic true in
theorem Zt{h:Heap}{dx:Addr}{mA:Str->Option Au}(n:h.Ns1 dx mA):∃od,h.get? dx=some od/\∀name,MD name od=some (mA name):=by
 obtain ⟨o,es,ep,ho,hd,hk,_,hm⟩:=n;refine ⟨o,ho,λname=>?_⟩;have e:=hm name;unfold nsFind findBy at e;rw[<- Array.find?_toList] at e;unfold MD;rw[hd];dsimp only;split
 ·rename_i y q
  rw[q] at e;exact congrArg some e
 ·rename_i q
  rw[q] at e;have a:es.toList.any (·.refKey)=false:=by
   rw[List.any_eq_false];intro y hy;obtain ⟨z,t,hkey⟩:=hk y (Array.mem_toList_iff.mp hy);simp[DictEntry.refKey,hkey]
  have a':¬ es.toList.any (·.refKey)=true:=by rw[a];exact BN
  rw[if_neg a'];exact congrArg some e
theorem ObjM.look{h:Heap}{x dx C:Addr}{mA:Str->Option Au}(I:ObjM h x dx C mA):∃od,PySem.W.InstAt h x (FD C dx) C (some od)/\∀name,MD name od=some (mA name) :=
 let ⟨od,ho,hl⟩:=Zt I.ns
 ⟨od,⟨I.obj,rfl,rfl,ho⟩,hl⟩
section
variable{prog:AK}{w:AR}{A:B6}{E:Au->AA->Prop}{s:AA}{K:As}{x dx C f:Addr}{mA:Str->Option Au}{name:Str}{v:Au}
theorem get_map{expr:Bool}{Q:Au->AA->Prop}(X:K.In s.heap)(I:ObjM s.heap x dx C mA)(hg:J9 K C name=true)(hh:Ll K C=true)
  (ha:De K (.ref C) name=some none) (hv:mA name=some v) (hv':S5 v=true) (h:Q v {s with toks:=s.toks+1}) :
  wpAny (AM prog w) A (getAttr (.ref x) name expr) Q E s:=by
 obtain ⟨od,J,hl⟩:=I.look;exact PySem.W.get_value X J (My hg).1 (PySem.W.findObj_own hh ha rfl (by rw[hl,hv])) hv' h
theorem AAv{pl:Sem Bool}{Q:Au×List Au->AA->Prop}(X:K.In s.heap)(I:ObjM s.heap x dx C mA)(hg:J9 K C name=true)
  (hf:De K (.ref C) name=some (some (.ref f))) (ht:L5 K (.ref f)=true) (hv:mA name=none) (h:Q (.ref f,[.ref x]) s) :
  wpAny (AM prog w) A (RA (.ref x) name pl) Q E s:=by
 obtain ⟨od,J,hl⟩:=I.look;exact PySem.W.method_fn X J (My hg).1 (My hg).2 hf (beq_iff_eq.mp ht) (by show (MD name od).map (·.isSome)=some false;rw[hl,hv];rfl) h
theorem ADp{ns:List Str}{Q:Unit->AA->Prop}(X:K.In s.heap)(I:ObjM s.heap x dx C mA)
  (hs:De K (.ref C) "__setattr__" = some (some (.builtin "object.__setattr__"))) (hp:NI K C=true) (ht:OE K C name=some none) (hh:Ll K C=true)
  (hw:Re mA ns) (hsz:ns.length<=sizeLine)
  (h:∀h',ObjM h' x dx C (λy=>if y=name then some v else mA y)->ES dx s.heap h'->Q () {s with heap:=h',toks:=s.toks+2}) :
  wpAny (AM prog w) A (setAttr (.ref x) name v) Q E s:=by
 obtain ⟨od,J,hl⟩:=I.look;refine PySem.W.set_plain X J hs (PySem.W.osa_open (s:={s with toks:=s.toks+1}) (r:=none) X J hp ht λb=>?_);obtain ⟨cd,hc,hd'⟩:=PySem.W.any_some hh;have hx:s.heap.get? x=some ⟨.ref C,some dx,.plain,#[]⟩:=I.obj;refine Ap (wpAny_pure (Ap (Ap (wpAny_loadPart hx (Ap (Ya (s:={s with toks:=s.toks+1}) (PySem.W.looks_clsIn X hc) ?_))))));rw[hd'];refine wpAny_pure (a:=some dx) (Ap (wpAny_pure (Ap ?_)));refine wpAny_nsSet1 (s:={s with toks:=s.toks+1}) I.ns λh' hn2 hs2=>?_;obtain ⟨oD,esD,epD,hoD,hdD,hcD⟩:=hn2.count (YV name v hw);refine Ap (wpAny_lookBehind hoD (by rw[hdD];exact pastItsLine_dict (BM hcD (by rw[CM];lia))) ?_);exact wpAny_pure (h _ ⟨(hs2.2 _ (DF I.ne)).trans I.obj,hn2,I.ne⟩ hs2)
theorem ABy{R:RC->AA->Prop}{vs:List Au}{kw:List (Str×Au)}(X:K.In s.heap)(hm:JE K C=true)
  (hi:De K (.ref C) "__init__" = some (some (.ref f))) (hf:PySem.W.typeIn K (.ref f)=some (.type "function"))
  (h:codeAny (AM prog w) (A.under (.builtin "type.__call__" ⟨.ref C::vs,kw⟩)) (.call (.ref f) ⟨.ref (s.heap.objs.size+1)::vs,kw⟩) (S6 (s.heap.objs.size+1) R)
   {s with heap:=(s.heap.push EG).push (FD C s.heap.objs.size)}) :
  codeAny (AM prog w) A (.call (.ref C) ⟨vs,kw⟩) R s:=by
 obtain ⟨hh,g,d,t,os⟩:=s;exact Sr (S7 X hm) (PU X hi) (λself=>PySem.W.bind_fn X self hf) (.inl rfl) h
theorem ZR{R:RC->AA->Prop}(X:K.In s.heap)(hm:JE K C=true)
  (hi:De K (.ref C) "__init__" = some (some (.builtin "object.__init__")))
  (hb:∀self,PySem.W.Looks (AM prog w) s.heap (bindSpecial (.builtin "object.__init__") self) (.builtin "object.__init__",[self]))
  (h:codeAny (AM prog w) (A.under (.builtin "type.__call__" ⟨[.ref C],[]⟩)) (.call (.builtin "object.__init__") ⟨[.ref (s.heap.objs.size+1)],[]⟩) (S6 (s.heap.objs.size+1) R)
   {s with heap:=(s.heap.push EG).push (FD C s.heap.objs.size)}) :
  codeAny (AM prog w) A (.call (.ref C) ⟨[],[]⟩) R s:=by
 obtain ⟨hh,g,d,t,os⟩:=s;exact Sr (S7 X hm) (PU X hi) hb (.inr ⟨rfl,rfl⟩) h
end
def putF(f:Str)(v:V):List (Str×V)->List (Str×V)
 | []=>[(f,v)]
 | (g,x)::r=>if g=f then (g,v)::r else (g,x)::putF f v r
theorem Aj(f g:Str)(v:V):∀fs:List (Str×V),(putF f v fs).lookup g=if g=f then some v else fs.lookup g
 | []=>by
  show Ff g [(f,v)]=_;by_cases h:g=f
  ·have hb:(g==f)=true:=beq_iff_eq.mpr h
   simp only[Ff,hb,if_pos h]
  ·have hb:(g==f)=false:=beq_eq_false_iff_ne.mpr h
   simp only[Ff,hb,if_neg h]
 | (k,x)::r=>by
  have ih:=Aj f g v r;rw[show putF f v ((k,x)::r)=(if k=f then (k,v)::r else (k,x)::putF f v r) from rfl];by_cases hk:k=f
  ·rw[if_pos hk]
   by_cases h:g=k
   ·have hb:(g==k)=true:=beq_iff_eq.mpr h
    simp only[Ff,hb,if_pos (h.trans hk)]
   ·have hb:(g==k)=false:=beq_eq_false_iff_ne.mpr h
    simp only[Ff,hb,if_neg (λe:g=f=>h (e.trans hk.symm))]
  ·rw[if_neg hk]
   by_cases h:g=k
   ·have hb:(g==k)=true:=beq_iff_eq.mpr h
    simp only[Ff,hb,if_neg (λe:g=f=>hk (h.symm.trans e))]
   ·have hb:(g==k)=false:=beq_eq_false_iff_ne.mpr h
    simp only[Ff,hb];exact ih
theorem JB(f:Str)(v:V):∀fs:List (Str×V),f∈(putF f v fs).map (·.1)/\∀g,g∈fs.map (·.1)->g∈(putF f v fs).map (·.1)
 | []=>⟨by simp[putF],λg h=>by simp at h⟩
 | (k,x)::r=>by
  obtain ⟨i1,i2⟩:=JB f v r;rw[show putF f v ((k,x)::r)=(if k=f then (k,v)::r else (k,x)::putF f v r) from rfl];by_cases hk:k=f
  ·rw[if_pos hk]
   subst hk;exact ⟨by simp,λg h=>by simpa using h⟩
  ·rw[if_neg hk]
   refine ⟨?_,λg h=>?_⟩
   ·rw[Cb]
    exact AG _ i1
   ·rw[Cb] at h ⊢
    rcases Be.mp h with e | e
    ·exact Be.mpr (.inl e)
    ·exact AG _ (i2 g e)
theorem Ja(f:Str)(v:V):∀fs:List (Str×V),(putF f v fs).length<=fs.length+1
 | []=>by simp[putF]
 | (k,x)::r=>by
  have ih:=Ja f v r;rw[show putF f v ((k,x)::r)=(if k=f then (k,v)::r else (k,x)::putF f v r) from rfl];by_cases hk:k=f
  ·rw[if_pos hk,CM,CM];lia
  ·rw[if_neg hk,CM,CM];lia
theorem RelO.some_of{v:V}{o:Option Au}(r:RelO (some v) o):∃u,o=some u/\RelV v u:=by
 cases o with
 | none=>exact (show False from r).elim
 | some u=>exact ⟨u,rfl,r⟩
theorem RelO.none_of{o:Option Au}(r:RelO none o):o=none:=by
 cases o with
 | none=>rfl
 | some u=>exact (show False from r).elim
theorem Yj{v:V}{u:Au}(r:RelV v u):S5 u=true:=by
 cases v with
 | non=>cases (show u=CY from r);rfl
 | bl b=>cases (show u=PH b from r);rfl
 | int i=>obtain ⟨t,e⟩:=(show ∃t,u=KP i t from r);cases e;rfl
 | str x=>obtain ⟨t,e⟩:=(show ∃t,u=Q8 x t from r);cases e;rfl
 | byt b=>obtain ⟨t,e⟩:=(show ∃t,u=XY b t from r);cases e;rfl
 | flt b=>obtain ⟨t,e⟩:=(show ∃t,u=XZ b t from r);cases e;rfl
 | ref a=>cases (show u=AV a from r);rfl
 | ty n=>cases (show u=DU n from r);rfl
section
variable{P:AK}{w:AR}{H H':Hp}{h h':Heap}{a C dx:Addr}{fs fs':List (Str×V)}
theorem RM(hok:HOk P w H h)(e:H a=some (.ins C dx fs)):∃mA,ObjM h a dx C mA/\(∀f,RelO (fs.lookup f) (mA f))/\Re mA (fs.map (·.1))/\fs.length<=1000/\H dx=some (.own a):=by
 obtain ⟨d,z,ne,ob,mA,n,r,q⟩:=(show ObjOk P w H h a (.ins C dx fs) from hok a _ e);exact ⟨mA,⟨ob,n,ne⟩,r,q,z,d⟩
end
structure Cls(K:As)(C:Addr):Prop where
 pg:J9 K C Str.empty=true
 hd:Ll K C=true
 po:NI K C=true
 sa:De K (.ref C) "__setattr__" = some (some (.builtin "object.__setattr__"))
theorem Cls.get{K:As}{C:Addr}(c:Cls K C)(f:Str):J9 K C f=true:=c.pg
def NoAttr(K:As)(C:Addr)(f:Str):Prop:=De K (.ref C) f=some none
theorem NoAttr.taker{K:As}{C:Addr}{f:Str}(n:NoAttr K C f):OE K C f=some none:=by
 unfold OE;rw[show De K (.ref C) f=some none from n];rfl
structure Meth(K:As)(C:Addr)(m:Str)(f:Addr):Prop where
 at_:De K (.ref C) m=some (some (.ref f))
 fn:L5 K (.ref f)=true
 kp:AW K (.ref f)=true
section
variable{X:Cx}{pins:List (Addr×Obj)}{σ:St}{H:Hp}{s:AA}{a C dx:Addr}{fs:List (Str×V)}{f:Str}{v:V}{A:B6}{E:Au->AA->Prop}
theorem Uo{b:Bool}{Q:Au->AA->Prop}(I:Inv X pins σ H s)(e:H a=some (.ins C dx fs))(c:Cls X.K C)(n:NoAttr X.K C f)(l:fs.lookup f=some v)
  (h:∀u s',Inv X pins σ H s'->RelV v u->Q u s'):wpAny (AM X.prog X.w) A (getAttr (.ref a) f b) Q E s:=by
 obtain ⟨mA,O,r,_,_,_⟩:=RM I.hok e;obtain ⟨u,hu,ru⟩:=RelO.some_of (v:=v) (o:=mA f) (by rw[<- l];exact r f);exact get_map I.kIn O (c.get f) c.hd n hu (Yj ru) (h u _ (I.tok _) ru)
theorem La{m:Str}{g:Addr}{pl:Sem Bool}{Q:Au×List Au->AA->Prop}(I:Inv X pins σ H s)(e:H a=some (.ins C dx fs))(c:Cls X.K C)(k:Meth X.K C m g)(l:fs.lookup m=none)
  (h:Q (.ref g,[.ref a]) s):wpAny (AM X.prog X.w) A (RA (.ref a) m pl) Q E s:=by
 obtain ⟨mA,O,r,_,_,_⟩:=RM I.hok e;have hn:mA m=none:=RelO.none_of (by rw[<- l];exact r m);exact AAv I.kIn O (c.get m) k.at_ k.fn hn h
theorem Vo{y:V}{u:Au}{Q:Unit->AA->Prop}(I:Inv X pins σ H s)(e:H a=some (.ins C dx fs))(c:Cls X.K C)(n:NoAttr X.K C f)(hl:fs.length<1000)(ry:RelV y u)
  (h:∀s',Inv X pins σ (upd H a (.ins C dx (putF f y fs))) s'->Q () s'):wpAny (AM X.prog X.w) A (setAttr (.ref a) f u) Q E s:=by
 obtain ⟨mA,O,r,wi,_,ho⟩:=RM I.hok e;have hz:(fs.map (·.1)).length<=sizeLine:=by rw[AB,FX];lia
 refine ADp I.kIn O c.sa c.po n.taker c.hd wi hz λh' O' sb=>h _ ?_;have hd:∃o,h'.get? dx=some o:=let ⟨o,_,_,e',_⟩:=O'.ns;⟨o,e'⟩
 refine I.write (x:=a) (e:=dx) (by rw[e];exact HZ) (.inr ho) (λb q hb z=>(sb.2 b hb).trans z) hd ?_;refine ⟨by rw[Af O.ne];exact ho,?_,O.ne,O'.obj,_,O'.ns,λg=>?_,λg hg=>?_⟩
 ·have:=Ja f y fs;lia
 ·show RelO ((putF f y fs).lookup g) (if g=f then some u else mA g)
  rw[Aj];by_cases q:g=f
  ·rw[if_pos q,if_pos q];exact ry
  ·rw[if_neg q,if_neg q];exact r g
 ·by_cases q:g=f
  ·rw[q];exact (JB f y fs).1
  ·refine (JB f y fs).2 g (wi g λz=>hg ?_)
   show (if g=f then some u else mA g)=none;rw[if_neg q];exact z
theorem Inv.made(I:Inv X pins σ H s):Inv X pins σ (upd (upd H s.heap.objs.size (.own (s.heap.objs.size+1))) (s.heap.objs.size+1) (.ins C s.heap.objs.size []))
  {s with heap:=(s.heap.push EG).push (FD C s.heap.objs.size)}:=by
 have e1:(s.heap.push EG).get? s.heap.objs.size=some EG:=AU s.heap rfl;have e2:((s.heap.push EG).push (FD C s.heap.objs.size)).get? (s.heap.objs.size+1)=some (FD C s.heap.objs.size):=by
  have:=AU (s.heap.push EG) (o:=FD C s.heap.objs.size) rfl
  rwa [Fm] at this
 have e3:(s.heap.push EG).Ns s.heap.objs.size (λ_=>none):=⟨EG,#[],_,e1,rfl,(λe he=>absurd he (by simp)),λ_=>rfl⟩;have I1:=I.laid (a:=s.heap.objs.size) (o:=.own (s.heap.objs.size+1)) (h':=s.heap.push EG) (t':=s.toks) (λb u q=>AH _ q) (AE _) ⟨_,e1⟩;refine I1.laid (a:=s.heap.objs.size+1) (o:=.ins C s.heap.objs.size []) (t':=s.toks) (λb u q=>AH _ q) (RE (Fm _ _)) ?_;have ne:s.heap.objs.size≠s.heap.objs.size+1:=Cn (D2 _);refine ⟨by rw[Af ne,Ab],A8 _,ne,e2,λ_=>none,(Heap.Ns1.of_empty e3).at λo q=>AH _ q,λ_=>HZ,λy hy=>absurd rfl hy⟩
theorem ADZ{prog:AK}{w:AR}{env:Env}{e:Expr}{f:Str}{pos:Pos}{s:AA}{Q:Au->AA->Prop}(hb:LO e f env (eval e env)=eval e env)
  (h:wpAny (AM prog w) A (eval e env) (λo s₁=>wpAny (AM prog w) A (getAttr o f true) Q E s₁) E s):wpAny (AM prog w) A (eval (.Attribute e f pos) env) Q E s :=
 Attribute_any_ h (by rw[arm_eval_Attribute,hb])
end
def AHA(K:As)(ta:TE)(f:Str):TE:=λσ H Q=>ta σ H λx H1=>E5 λa C dx fs v=>A6 (x=.ref a) (H1 a=some (.ins C dx fs)) (Cls K C) (NoAttr K C f) (fs.lookup f=some v) (Q v H1)
def AHB(K:As)(ta tv:TE)(f:Str):TS:=λD σ H=>tv σ H λy H1=>ta σ H1 λx H2=>∃a C dx fs,x=.ref a/\H2 a=some (.ins C dx fs)/\Cls K C/\NoAttr K C f/\fs.length<1000 /\
 D.nx σ (upd H2 a (.ins C dx (putF f y fs)))
section
variable{X:Cx}{o e value:Expr}{f:Str}{pos pos' tpos:Pos}{ta tv:TE}
theorem Bp(he:PE X e ta)(hb:LO e f X.env (eval e X.env)=eval e X.env):PE X (.Attribute e f pos) (AHA X.K ta f):=by
 intro pins s σ H Q I h;refine ADZ hb (thn (he pins s σ H _ I h) λu s1 ⟨x,H1,I1,rx,a,C,dx,fs,v,ex,ea,c,n,l,q⟩=>?_);subst ex;obtain rfl:u=AV a:=rx;exact Uo I1 ea c n l λu' s2 I2 ru=>⟨v,H1,I2,ru,q⟩
theorem Ej(ha:PE X o ta)(hv:PE X value tv)(hs:MU value (some (.Attribute o f pos')) pos.line X.env=pure false):PS X (.Assign [.Attribute o f pos'] value pos) (AHB X.K ta tv f):=by
 intro pins s σ H D I h;refine plainObj_wpAny_Assign_Attribute (thn (hv pins s σ H _ I h) λu s1 ⟨y,H1,I1,ry,q⟩=>thn (ha pins s1 σ H1 _ I1 q) λov s2 ⟨x,H2,I2,rx,a,C,dx,fs,ex,ea,c,n,l,q2⟩=>?_) hs;subst ex;obtain rfl:ov=AV a:=rx;exact Vo I2 ea c n l ry λs3 I3=>⟨σ,_,I3,q2⟩
end
structure Room(k:Nat)(A:B6):Prop where
 hd:A.handled=none
 dp:A.depth+3*k+5<UT
 un:A.units+16*k+200<CO
 gd:A.guards=some []
theorem Room.mono{j k:Nat}{A:B6}(r:Room k A)(h:j<=k):Room j A:=⟨r.hd,by have:=r.dp;lia,by have:=r.un;lia,r.gd⟩
theorem Room.deeper{k:Nat}{A:B6}(r:Room (k+1) A)(env:Env):Room k (A.deeper env) :=
 ⟨r.hd,by have:=r.dp;show A.depth+1+3*k+5<_;lia,by have:=r.un;show A.units+3+16*k+200<_;lia,r.gd⟩
theorem Vv{A:B6}{C:Addr}{us:List Au}{kw:List (Str×Au)}:(A.under (.builtin "type.__call__" ⟨.ref C::us,kw⟩)).depth=A.depth+1:=by
 first | rfl | simp[N3,Code.weight,Code.isCreation,Code.isGuard,Code.isCaller,X4,RF,guardIds]
theorem Vy{A:B6}{C:Addr}{us:List Au}{kw:List (Str×Au)}:(A.under (.builtin "type.__call__" ⟨.ref C::us,kw⟩)).units=A.units+1:=by
 first | rfl | simp[N3,Code.cUnits,X4,RF]
theorem Rk{A:B6}{C:Addr}{us:List Au}{kw:List (Str×Au)}(hg:A.guards=some []):(A.under (.builtin "type.__call__" ⟨.ref C::us,kw⟩)).guards=some []:=by
 have h:(Code.builtin "type.__call__" ⟨.ref C::us,kw⟩).isGuard=false:=by
  show guardIds.contains "type.__call__" = false;decide +kernel
 simp[N3,Code.guards,h,pushGuards,hg]
theorem Room.make{k:Nat}{A:B6}(r:Room (k+1) A)(C:Addr)(us:List Au)(kw:List (Str×Au)):Room k (A.under (.builtin "type.__call__" ⟨.ref C::us,kw⟩)) :=
 ⟨r.hd,by have:=r.dp;rw[Vv];lia,by have:=r.un;rw[Vy];lia,Rk r.gd⟩
theorem Room.depth{k:Nat}{A:B6}(r:Room k A):A.depth<UT:=by have:=r.dp;lia
theorem Room.units{k:Nat}{A:B6}(r:Room k A):A.units+64<CO:=by have:=r.un;lia
def AGa:TA:=λ_ H Q=>Q [] H
def AGf(ta:TE)(tr:TA):TA:=λσ H Q=>ta σ H λx H1=>tr σ H1 λxs H2=>Q (x::xs) H2
section
variable{X:Cx}{e:Expr}{es:List Expr}{te:TE}{t:TA}{pos:Pos}
theorem Ac:PA X [] AGa:=λ_ _ _ _ H Q I h=>HP ⟨[],H,I,.nil,h⟩
theorem Aa(ha:PE X e te)(hr:PA X es t)(hs:Co (e::es) X.env=(false,eval e X.env)::Co es X.env:=by rfl):PA X (e::es) (AGf te t):=by
 intro pos pins s σ H Q I h;rw[hs];show wpAny _ _ (O1 ((false,eval e X.env)::F3 pos (Co es X.env))) _ _ s;refine FR (thn (ha pins s σ H _ I h) λu s1 ⟨x,H1,I1,r1,q1⟩=>?_);exact thn (hr pos pins s1 σ H1 _ I1 q1) λus s2 ⟨xs,H2,I2,r2,q2⟩=>⟨x::xs,H2,I2,.cons r1 r2,q2⟩
def AGz(t:TA):TE:=λσ H Q=>t σ H λxs H1=>xs.length<=sizeLine/\∀p,H1 p=none->Q (.ref p) (upd H1 p (.tup xs))
def AHK(t:TA):TE:=λσ H Q=>t σ H λxs H1=>xs.length<=sizeLine/\∀p,H1 p=none->Q (.ref p) (upd H1 p (.lst xs))
theorem CZ{x1}(h:PA X es t):PE X (.Tuple es x1 pos) (AGz t):=by
 intro pins s σ H Q I hq;refine wpAny_Tuple_spliced (thn (h pos pins s σ H _ I hq) λus s1 ⟨xs,H1,I1,r,z,q⟩=>⟨by rw[<- r.length];exact z,?_⟩);have hf:H1 s1.heap.objs.size=none:=I1.hok.fresh (AE _);refine ⟨.ref s1.heap.objs.size,upd H1 s1.heap.objs.size (.tup xs),I1.laid (t':=s1.toks) (λb u e=>AH _ e) (AE _) ?_,rfl,q _ hf⟩;exact ⟨z,us,r,⟨_,AU _ rfl,rfl,_,rfl⟩⟩
theorem Ce(h:PA X es t):PE X (.List es pos) (AHK t):=by
 intro pins s σ H Q I hq;refine wpAny_List_spliced (thn (h pos pins s σ H _ I hq) λus s1 ⟨xs,H1,I1,r,z,q⟩=>⟨by rw[<- r.length];exact z,?_⟩);have hf:H1 s1.heap.objs.size=none:=I1.hok.fresh (AE _);refine ⟨.ref s1.heap.objs.size,upd H1 s1.heap.objs.size (.lst xs),I1.laid (t':=s1.toks) (λb u e=>AH _ e) (AE _) ?_,rfl,q _ hf⟩;exact ⟨z,us,0,r,AU _ rfl⟩
end
abbrev Sp:=List V->Hp->VK->XK->Prop
abbrev CXT:=List Env->Hp->AA->XK->Au->AA->Prop
structure Env0(P:AK)(w:AR)(K:As)(mg:Str->Option Au)(base:Heap)(A:B6)(outer:List Env)(s:AA)(H:Hp):Prop where
 frames:A.frames=some outer
 mod:Mod K mg base
 bs:∀b o,base.get? b=some o->s.heap.get? b=some o/\H b=none
 bsz:base.objs.size<=s.heap.objs.size
 funs:s.heap.FunFrames base outer
 frf:∀b∈frs outer,H b=none
 hok:HOk P w H s.heap
 bare:K6 s.gens
def CE(outer:List Env)(P:AK)(w:AR)(H:Hp)(s:AA)(Q:VK)(u:Au)(s':AA):Prop :=
 ∃v H',s'.os=s.os/\K6 s'.gens/\Un (frs outer) [] H H' s.heap s'.heap/\HOk P w H' s'.heap/\RelV v u/\Q v H'
def CR(CX:CXT)(outer:List Env)(P:AK)(w:AR)(H:Hp)(s:AA)(Q:VK)(E:XK)(r:RC)(s':AA):Prop :=
 match r with
 | .ok (.ret u)=>CE outer P w H s Q u s'
 | .ok _=>False
 | .error e=>CX outer H s E e s'
structure FnOk(P:AK)(w:AR)(K:As)(mg:Str->Option Au)(base:Heap)(CX:CXT)(k:Nat)(f:Addr)(fd:BV)(ps:List Str)(sp:Sp):Prop where
 len:∀vs H Q E,sp vs H Q E->vs.length=ps.length
 run:∀(A:B6) (outer:List Env) (s:AA) (H:Hp) (args:Args) (us:List Au) (vs:List V) (Q:VK) (E:XK),Room k A->Env0 P w K mg base A outer s H->O5 s fd args (ps.zip us)->Vals vs us->sp vs H Q E ->
  codeAny (AM P w) A (.call (.ref f) args) (CR CX outer P w H s Q E) s
theorem Env0.make{P:AK}{w:AR}{K:As}{mg:Str->Option Au}{base:Heap}{A:B6}{outer:List Env}{s:AA}{H:Hp}(e:Env0 P w K mg base A outer s H)(C:Addr)(us:List Au)(kw:List (Str×Au)) :
  Env0 P w K mg base (A.under (.builtin "type.__call__" ⟨.ref C::us,kw⟩)) outer s H:=⟨by first | exact e.frames | (simpa [N3,Code.envs,RF,pushEnvs] using e.frames),e.mod,e.bs,e.bsz,e.funs,e.frf,e.hok,e.bare⟩
section
variable{X:Cx}{pins:List (Addr×Obj)}{σ:St}{H:Hp}{s s':AA}
theorem Inv.env0(I:Inv X pins σ H s):Env0 X.prog X.w X.K X.mg X.base X.A X.stack s H :=
 ⟨I.ok.frames,I.ok.mod,I.bs,BM I.ok.bsz I.sz,I.stack,I.stkFree,I.hok,I.bare⟩
theorem Inv.after{Q:VK}{u:Au}(I:Inv X pins σ H s)(h:CE X.stack X.prog X.w H s Q u s'):EP X pins σ Q u s':=by
 obtain ⟨v,H',os,bare,un,hok,r,q⟩:=h;obtain ⟨hh,g,d,t,os'⟩:=s';obtain rfl:os'=s.os:=os;exact ⟨v,H',I.call (h':=hh) (g':=g) (d':=d) (t':=t) (ch:=[]) un hok bare (λb z=>absurd z (by simp)),r,q⟩
end
def AGc(sp:Sp)(dvs:List V)(E:XK)(t:TA):TE:=λσ H Q=>t σ H λvs H1=>sp (vs++dvs) H1 Q E
def AEs(C:Addr)(m:Str)(sp:Sp)(dvs:List V)(E:XK)(ta:TE)(t:TA):TE:=λσ H Q=>ta σ H λx H1=>∃a dx fs,x=.ref a/\H1 a=some (.ins C dx fs)/\fs.lookup m=none /\
 t σ H1 λvs H2=>sp (x::(vs++dvs)) H2 Q E
def AGV(C:Addr)(sp:Sp)(dvs:List V)(E:XK)(t:TA):TE:=λσ H Q=>t σ H λvs H1=>∀x dx,H1 x=none->H1 dx=none->dx≠x ->
 sp (.ref x::(vs++dvs)) (upd (upd H1 dx (.own x)) x (.ins C dx [])) (λv H2=>v=.non/\Q (.ref x) H2) E
def Binds(K:As)(fd:BV)(ps:List Str)(ds:List Au):Prop :=
 ∀(s:AA) (us:List Au),K.In s.heap->(us++ds).length=ps.length->O5 s fd ⟨us,[]⟩ (ps.zip (us++ds))
theorem Binds.all{K:As}{fd:BV}{ps:List Str}(h:∀us:List Au,us.length=ps.length->S8 fd ⟨us,[]⟩=pure (ps.zip us)):Binds K fd ps []:=λs us _ hl=>by
 rw[BI] at hl ⊢;exact .of_eq (h us hl)
def Passes(CX:CXT)(X:Cx)(E:XK):Prop:=∀(pins:List (Addr×Obj)) (σ:St) (H:Hp) (s:AA) (e:Au) (s':AA),Inv X pins σ H s->CX X.stack H s E e s'->X.xe e s'
section
variable{X:Cx}{CX:CXT}{k:Nat}{f C:Addr}{fd:BV}{ps:List Str}{sp:Sp}{dvs:List V}{ds:List Au}{E:XK}{x m:Str}{p pos apos:Pos}{e o:Expr}{es:List Expr}{ta:TE}{t:TA}
theorem WL{pins:List (Addr×Obj)}{σ:St}{H:Hp}{s:AA}{Q:VK}{us:List Au}{vs:List V}(F:FnOk X.prog X.w X.K X.mg X.base CX k f fd ps sp)(hr:Room k X.A)(hb:Binds X.K fd ps ds)(hd:Vals dvs ds)(hx:Passes CX X E)
  (I:Inv X pins σ H s) (r:Vals vs us) (h:sp (vs++dvs) H Q E):wpAny (AM X.prog X.w) X.A (call (.ref f) us) (EP X pins σ Q) X.xe s:=by
 have r2:Vals (vs++dvs) (us++ds):=r.append hd;have hl:(us++ds).length=ps.length:=by rw[<- r2.length];exact F.len _ _ _ _ h
 refine PV (FG (F.run X.A X.stack s H ⟨us,[]⟩ (us++ds) (vs++dvs) Q E hr I.env0 (hb s us I.kIn hl) r2 h) λr s' hq=>?_);cases r with
 | error e=>exact hx pins σ H s e s' I hq
 | ok fl =>
  cases fl with
  | ret u=>exact I.after hq
  | next=>exact EF hq
  | brk=>exact EF hq
  | cont=>exact EF hq
theorem Ay(F:FnOk X.prog X.w X.K X.mg X.base CX k f fd ps sp)(hr:Room k X.A)(hg:Gl X x)(hm:X.mg x=some (.ref f))(hk:AW X.K (.ref f)=true)(hb:Binds X.K fd ps ds)(hd:Vals dvs ds)(hx:Passes CX X E)
  (ha:PA X (e::es) t) (hdb:(x==("__debug__" : Str))=false:=by decide) (he:Co (e::es) X.env=(false,eval e X.env)::Co es X.env:=by rfl) (hpl:(F3 pos (Co es X.env)).any (·.1)=false:=by rfl) :
  PE X (.Call (.Name x p) (e::es) [] pos) (AGc sp dvs E t):=by
 intro pins s σ H Q I h;refine EM (Jl I hg hm ?_ hdb);refine MX (h₀:=X.base) I.ok.mod.kin hk (thn (ha pos pins s σ H _ I h) λus s1 ⟨vs,H1,I1,r,q⟩=>⟨I1.kIn,?_⟩) he hpl;exact WL F hr hb hd hx I1 r q
theorem Dj{pl:Sem Bool}(he:PE X o ta)(c:Cls X.K C)(hm:Meth X.K C m f)(F:FnOk X.prog X.w X.K X.mg X.base CX k f fd ps sp)(hr:Room k X.A)(hb:Binds X.K fd ps ds)(hd:Vals dvs ds)(hx:Passes CX X E)(ha:PA X (e::es) t)
  (hst:Co (e::es) X.env=(false,eval e X.env)::Co es X.env:=by rfl) (hpl:(F3 pos (Co es X.env)).any (·.1)=false:=by rfl)
  (ht:eval (.Call (.Attribute o m apos) (e::es) [] pos) X.env=(do
   let ov <- eval o X.env
   UR apos.atName
   let (f,first) <- MC [ov] (RA ov m pl)
   callWith pos f first (F3 pos (Co (e::es) X.env)) (PY pos (MS [] X.env))):=by rfl) :
  PE X (.Call (.Attribute o m apos) (e::es) [] pos) (AEs C m sp dvs E ta t):=by
 intro pins s σ H Q I h;refine O6 (pl:=pl) (thn (he pins s σ H _ I h) λu s1 ⟨x,H1,I1,rx,a,dx,fs,ex,ea,l,q⟩=>?_) ht;subst ex;obtain rfl:u=AV a:=rx;refine La I1 ea c hm l ?_;refine MX (first:=[.ref a]) (h₀:=X.base) I.ok.mod.kin hm.kp (thn (ha pos pins s1 σ H1 _ I1 q) λus s2 ⟨vs,H2,I2,r,q2⟩=>⟨I2.kIn,?_⟩) hst hpl;exact WL (us:=.ref a::us) (vs:=.ref a::vs) F hr hb hd hx I2 (.cons rfl r) q2
theorem CG{pl:Sem Bool}(he:PE X o ta)(c:Cls X.K C)(hm:Meth X.K C m f)(F:FnOk X.prog X.w X.K X.mg X.base CX k f fd ps sp)(hr:Room k X.A)(hb:Binds X.K fd ps ds)(hd:Vals dvs ds)(hx:Passes CX X E)
  (ht:eval (.Call (.Attribute o m apos) [] [] pos) X.env=(do
   let ov <- eval o X.env
   UR apos.atName
   let (f,first) <- MC [ov] (RA ov m pl)
   callWith pos f first (F3 pos (Co [] X.env)) (PY pos (MS [] X.env))):=by rfl) :
  PE X (.Call (.Attribute o m apos) [] [] pos) (AEs C m sp dvs E ta AGa):=by
 intro pins s σ H Q I h;refine O6 (pl:=pl) (thn (he pins s σ H _ I h) λu s1 ⟨x,H1,I1,rx,a,dx,fs,ex,ea,l,q⟩=>?_) ht;subst ex;obtain rfl:u=AV a:=rx;refine La I1 ea c hm l ?_;exact Q0 (first:=[.ref a]) I1.kIn hm.kp (WL (us:=[.ref a]) (vs:=[.ref a]) F hr hb hd hx I1 (.cons rfl .nil) q)
structure Mk(K:As)(C f:Addr):Prop where
 makes:JE K C=true
 init:De K (.ref C) "__init__" = some (some (.ref f))
 fn:L5 K (.ref f)=true
 kp:AW K (.ref C)=true
theorem ABm{pins:List (Addr×Obj)}{σ:St}{H:Hp}{s:AA}{Q:VK}{us:List Au}{vs:List V}(M:Mk X.K C f)(F:FnOk X.prog X.w X.K X.mg X.base CX k f fd ps sp)(hr:Room (k+1) X.A)(hb:Binds X.K fd ps ds)(hd:Vals dvs ds)
  (hx:Passes CX X E) (I:Inv X pins σ H s) (r:Vals vs us)
  (h:∀x dx,H x=none->H dx=none->dx≠x->sp (.ref x::(vs++dvs)) (upd (upd H dx (.own x)) x (.ins C dx [])) (λv H2=>v=.non/\Q (.ref x) H2) E) :
  wpAny (AM X.prog X.w) X.A (call (.ref C) us) (EP X pins σ Q) X.xe s:=by
 have hq:=h (s.heap.objs.size+1) s.heap.objs.size (I.hok.fresh (LI _)) (I.hok.fresh (AE _)) (Cn (D2 _));have I2:=Inv.made (C:=C) I;have r2:Vals (V.ref (s.heap.objs.size+1)::(vs++dvs)) (AV (s.heap.objs.size+1)::(us++ds)):=.cons rfl (r.append hd);have hl:(AV (s.heap.objs.size+1)::us++ds).length=ps.length:=by
  have e:=r2.length;rw[F.len _ _ _ _ hq] at e;exact e.symm
 refine PV (ABy (f:=f) I.kIn M.makes M.init (beq_iff_eq.mp M.fn) (FG (F.run _ X.stack _ _ ⟨AV (s.heap.objs.size+1)::us,[]⟩ (AV (s.heap.objs.size+1)::(us++ds)) _ _ E (hr.make C us [])
  (I2.env0.make C us []) (hb _ (AV (s.heap.objs.size+1)::us) I2.kIn hl) r2 hq) λr s' hq'=>?_))
 cases r with
 | error e=>exact hx pins σ _ _ e s' I2 hq'
 | ok fl =>
  cases fl with
  | ret u =>
   obtain ⟨v,H',I3,rv,ev,q3⟩:=I2.after hq';subst ev;exact ⟨rv,⟨V.ref (s.heap.objs.size+1),H',I3,rfl,q3⟩⟩
  | next=>exact EF hq'
  | brk=>exact EF hq'
  | cont=>exact EF hq'
theorem QV(M:Mk X.K C f)(F:FnOk X.prog X.w X.K X.mg X.base CX k f fd ps sp)(hr:Room (k+1) X.A)(hg:Gl X x)(hm:X.mg x=some (.ref C))(hb:Binds X.K fd ps ds)(hd:Vals dvs ds)(hx:Passes CX X E)
  (ha:PA X (e::es) t) (hdb:(x==("__debug__" : Str))=false:=by decide) (he:Co (e::es) X.env=(false,eval e X.env)::Co es X.env:=by rfl) (hpl:(F3 pos (Co es X.env)).any (·.1)=false:=by rfl) :
  PE X (.Call (.Name x p) (e::es) [] pos) (AGV C sp dvs E t):=by
 intro pins s σ H Q I h;refine EM (Jl I hg hm ?_ hdb);refine MX (h₀:=X.base) I.ok.mod.kin M.kp (thn (ha pos pins s σ H _ I h) λus s1 ⟨vs,H1,I1,r,q⟩=>⟨I1.kIn,?_⟩) he hpl;exact ABm M F hr hb hd hx I1 r q
end
structure FnScope(N P:List Str)(sc:F0):Prop where
 kind:sc.kind=.function
 co:sc.isCoroutine=false
 gen:sc.isGenerator=false
 nd:N.Nodup
 pre:N.take P.length=P
 par:∀x∈P,sc.names.lookup x=some .local\/sc.names.lookup x=some .cell
 nofree:∀y∈sc.names,y.2≠.free
theorem Nr{kindOf:Str->Option IH}{x:Str}:∀{binds:List (Str×Au)}{m:Str->Option Au},(∀v,(x,v)∉binds)->PZ kindOf binds m x=m x
 | [],_,_=>rfl
 | (n,v)::r,m,h=>by
  unfold PZ;rw[Nr λw hw=>h w (AG _ hw)];split
  ·have:x≠n:=by rintro rfl;exact h v AC
   simp[this]
  ·rfl
theorem Nh{kindOf:Str->Option IH}{x:Str}:∀{binds:List (Str×Au)}{m:Str->Option Au},(∀v,(x,v)∉binds)->P0 kindOf binds m x=m x
 | [],_,_=>rfl
 | (n,v)::r,m,h=>by
  unfold P0;rw[Nh λw hw=>h w (AG _ hw)];split
  ·rfl
  ·have:x≠n:=by rintro rfl;exact h v AC
   simp[this]
theorem Nv{kindOf:Str->Option IH}{x:Str}{v:Au}:∀{P:List Str}{vs:List Au}{i:Nat}{m:Str->Option Au},P.Nodup->P[i]?=some x->vs[i]?=some v->kindOf x=some .local ->
  PZ kindOf (P.zip vs) m x=some v
 | [],_,_,_,_,h,_,_=>by simp at h
 | _::_,[],_,_,_,_,h,_=>by simp at h
 | p::P,w::vs,0,m,nd,h1,h2,hk=>by
  simp at h1 h2;subst h1;subst h2;show PZ kindOf ((p,w)::P.zip vs) m p=_;unfold PZ;rw[Nr λv hv=>(CU.mp nd).1 (OF hv).1,if_pos hk];simp
 | p::P,w::vs,i+1,m,nd,h1,h2,hk=>by
  show PZ kindOf ((p,w)::P.zip vs) m x=_;unfold PZ;exact Nv (i:=i) (CU.mp nd).2 (by simpa using h1) (by simpa using h2) hk
theorem Nq{kindOf:Str->Option IH}{x:Str}{v:Au}:∀{P:List Str}{vs:List Au}{i:Nat}{m:Str->Option Au},P.Nodup->P[i]?=some x->vs[i]?=some v->kindOf x≠some .local ->
  P0 kindOf (P.zip vs) m x=some v
 | [],_,_,_,_,h,_,_=>by simp at h
 | _::_,[],_,_,_,_,h,_=>by simp at h
 | p::P,w::vs,0,m,nd,h1,h2,hk=>by
  simp at h1 h2;subst h1;subst h2;show P0 kindOf ((p,w)::P.zip vs) m p=_;unfold P0;rw[Nh λv hv=>(CU.mp nd).1 (OF hv).1,if_neg hk];simp
 | p::P,w::vs,i+1,m,nd,h1,h2,hk=>by
  show P0 kindOf ((p,w)::P.zip vs) m x=_;unfold P0;exact Nq (i:=i) (CU.mp nd).2 (by simpa using h1) (by simpa using h2) hk
def start(N:List Str)(vs:List V):St:=vs.map some++UU (N.length-vs.length) none
def cxOf(CX:CXT)(P:AK)(w:AR)(K:As)(mg:Str->Option Au)(base:Heap)(N:List Str)(qual:Str)(scope:F0)(f:Addr)(cd:Au)(A:B6)(outer:List Env)(s:AA)(H:Hp)(E:XK):Cx where
 prog:=P
 w:=w
 K:=K
 mg:=mg
 base:=base
 A:=A.deeper (MY qual scope s.heap.objs.size f cd)
 N:=N
 s₀:=s
 H₀:=H
 env:=MY qual scope s.heap.objs.size f cd
 outer:=outer
 stack:=MY qual scope s.heap.objs.size f cd::outer
 ex:=[]
 calm:=true
 fn:=λ_=>true
 pn:=[]
 xe:=λe s'=>wpAny (AM P w) (A.deeper (MY qual scope s.heap.objs.size f cd)) (leaving (MY qual scope s.heap.objs.size f cd) e) (λ_ s''=>CX outer H s E e s'') (λe' s''=>CX outer H s E e' s'') s'
theorem RZ{sc:F0}{n:Nat}{x:Str}(h:sc.names.lookup x=some .cell):∃c,(U8 n sc.names []).lookup x=some c:=by
 have q:=OT sc.names n [] (.inl h);exact F7.mp q
theorem Yk{CX:CXT}{P:AK}{w:AR}{K:As}{mg:Str->Option Au}{base:Heap}{N ps:List Str}{qual:Str}{scope:F0}{f:Addr}{cd:Au}{A:B6}{outer:List Env}{s s1:AA}{H:Hp}{E:XK}{us:List Au}{vs:List V}
  (S:FnScope N ps scope) (hd:A.handled=none) (e0:Env0 P w K mg base A outer s H) (hl:vs.length=ps.length) (r:Vals vs us)
  (x:InCallC s s.heap.objs.size (PZ (MY qual scope s.heap.objs.size f cd).kindOf (ps.zip us) λ_=>none) (U8 (s.heap.objs.size+1) scope.names []) (P0 (MY qual scope s.heap.objs.size f cd).kindOf (ps.zip us) λ_=>none) s1) :
  Inv (cxOf CX P w K mg base N qual scope f cd A outer s H E) [] (start N vs) H s1:=by
 have hpl:ps.length<=N.length:=by have:=congrArg Fh S.pre;rw[BQ] at this;lia
 obtain ⟨h1,tk,rfl,hk⟩:=x.done;have noA:∀b:Addr,b∉(cxOf CX P w K mg base N qual scope f cd A outer s H E).ex:=λb z=>absurd (show b∈([]:List Addr) from z) (by simp);refine ⟨⟨e0.mod,S.kind,rfl,rfl,AE _,λy z c h1 h2=>?_,λy hy=>?_,λy c _ h=>?_,λ_=>hd,Around.frames_deeper e0.frames,.inr ⟨rfl,rfl⟩,λb z=>absurd z (noA b),e0.bs,e0.bsz,λb _ _=>noA b,λb z=>absurd z (noA b),e0.funs,e0.frf⟩,
  rfl,e0.bare,Un.kept hk,⟨_,x.toInCall.ns,λi y v h1 h2 h3=>?_⟩,λy c h=>⟨_,x.cell y c h⟩,e0.hok.fresh (AE _),λy c h=>?_,λp hp=>absurd (show p∈([]:List (Addr×Obj)) from hp) (by simp),e0.hok.kept hk,?_⟩
 ·exact name_of_addr x.apart (G8 h1) (G8 h2)
 ·have hy:scope.names.lookup y=some .cell\/scope.names.lookup y=some .free:=hy
  rcases hy with hy | hy
  ·exact RZ hy
  ·exact absurd rfl (S.nofree _ (G8 hy))
 ·exact DC (x.above y c (G8 h))
 ·have hi:i<vs.length:=by
   unfold start at h2;by_cases hi:i<vs.length
   ·exact hi
   ·rw[Ct (by simpa using hi)] at h2
    rw[Oy] at h2;split at h2<;>cases h2
  have ha:vs[i]?=some v:=by
   unfold start at h2;rw[By (by simpa using hi),A2] at h2;cases e:vs[i]? with
   | none=>rw[e] at h2;cases h2
   | some a=>rw[e] at h2;cases h2;rfl
  obtain ⟨u,hu,rv⟩:=r.get ha;have hp:ps[i]?=some y:=by
   rw[<- S.pre,F8 (by lia)];exact h1
  have ndP:ps.Nodup:=by rw[<- S.pre];exact S.nd.sublist (HQ _ _)
  refine ⟨u,rv,?_⟩;rcases S.par y (Bi hp) with k | k
  ·exact .inl ⟨k,Nv ndP hp hu k⟩
  ·obtain ⟨c,e⟩:=RZ (n:=s.heap.objs.size+1) k
   refine .inr ⟨.inl k,c,e,?_⟩;have q:=x.cell y c e;rw[Nq ndP hp hu (by show scope.names.lookup y≠_;rw[k];decide)] at q;exact q
 ·exact e0.hok.fresh (DC (x.above y c (G8 h)))
 ·unfold start
  show _=N.length;rw[AT,AB,List.length_replicate];lia
theorem AGi{CX:CXT}{P:AK}{w:AR}{K:As}{mg:Str->Option Au}{base:Heap}{k:Nat}{f:Addr}{name qual:Str}{params:Arguments}{body:List Stmt}{scope:F0}{dV kV doc pm cdv ct oc:Au}{an od:Option Addr}
  {osl:Array (Option Au)}{N ps:List Str}{sp:Sp} (lk:K.lookup f=some ⟨oc,od,.func (E3 name qual params body scope dV kV doc pm an cdv ct),osl⟩) (hcd:IF K cdv qual=true) (S:FnScope N ps scope)
  (len:∀vs H Q E,sp vs H Q E->vs.length=ps.length)
  (hbody:∀(A:B6) (outer:List Env) (s:AA) (H:Hp) (vs:List V) (Q:VK) (E:XK),Room k (A.deeper (MY qual scope s.heap.objs.size f cdv))->sp vs H Q E ->
   ∃t,PSs (cxOf CX P w K mg base N qual scope f cdv A outer s H E) body t/\t {nx:=λ_ H'=>Q .non H',rt:=Q} (start N vs) H) :
  FnOk P w K mg base CX (k+1) f (E3 name qual params body scope dV kV doc pm an cdv ct) ps sp:=by
 refine ⟨len,λA outer s H args us vs Q E hr e0 hb r hsp=>?_⟩;have hl:=len _ _ _ _ hsp;have KX:K.In s.heap:=e0.mod.kin.keeps λb o e=>(e0.bs b o e).1;have lim:s.heap.NoLimit:=e0.mod.nolimit.keeps λb o e=>(e0.bs b o e).1;have hkind:∀y∈ps.zip us,scope.names.lookup y.1=some .local\/(scope.names.lookup y.1=some .cell/\((U8 (s.heap.objs.size+1) scope.names []).lookup y.1).isSome=true):=λ⟨n,v⟩ hy=>by
  rcases S.par n (OF hy).1 with q | q
  ·exact .inl q
  ·exact .inr ⟨q,OT _ _ _ (.inl q)⟩
 refine codeAny_call_function hr.depth (KX _ _ lk) rfl S.co S.gen rfl (PySem.W.codeRec_of KX hcd) (hb _ _ _ _ ?_);refine wpAny_newFunctionEnv_cells S.kind hkind λenv he s1 x=>?_;subst he;refine ⟨lim.keeps x.toInCall.keep,codeAny_func ?_⟩;obtain ⟨t,ht,hq⟩:=hbody A outer s H vs Q E (hr.deeper _) hsp;have I:Inv (cxOf CX P w K mg base N qual scope f cdv A outer s H E) [] (start N vs) H s1:=Yk S hr.hd e0 hl r x;refine EE (ht [] s1 (start N vs) H _ I hq) (λfl s' hs=>?_) λe s' hs=>hs;have fin:∀{σ':St}{H':Hp}{v:V}{u:Au},Inv (cxOf CX P w K mg base N qual scope f cdv A outer s H E) [] σ' H' s'->RelV v u->Q v H'->CE outer P w H s Q u s' :=
  λ{σ' H' v u} J rv q=>⟨v,H',J.os,J.bare,J.base,J.hok,rv,q⟩
 cases fl with
 | ret u =>
  obtain ⟨v,σ',H',J,rv,q⟩:=hs;exact fin J rv q
 | next =>
  obtain ⟨σ',H',J,q⟩:=hs;exact fin (v:=V.non) (u:=CY) J rfl q
 | brk =>
  obtain ⟨_,_,_,q⟩:=hs;exact EF q
 | cont =>
  obtain ⟨_,_,_,q⟩:=hs;exact EF q
section
variable{X:Cx}{x:Str}{p pos:Pos}{e:Expr}{es:List Expr}{t:TA}{id T:String}{r:List V->Hp->VK->Prop}
def tCB(r:List V->Hp->VK->Prop)(t:TA):TE:=λσ H Q=>t σ H λvs H1=>r vs H1 Q
theorem BJ(hc:CallR X (.builtin id) r)(hg:Gl X x)(hm:X.mg x=none)(hv:FY x=some (.builtin id))(ha:PA X (e::es) t)(hn:x≠"__name__":=by decide)(hdb:(x==("__debug__" : Str))=false:=by decide)
  (he:Co (e::es) X.env=(false,eval e X.env)::Co es X.env:=by rfl) (hpl:(F3 pos (Co es X.env)).any (·.1)=false:=by rfl):PE X (.Call (.Name x p) (e::es) [] pos) (tCB r t):=by
 intro pins s σ H Q I h;refine EM (Ek I hg hm hv ?_ hn hdb);exact JI (thn (ha pos pins s σ H _ I h) λus s1 ⟨vs,H1,I1,r1,q1⟩=>hc pins s1 σ H1 vs us Q I1 r1 q1) he hpl
theorem BP(hc:CallR X (.type T) r)(hg:Gl X x)(hm:X.mg x=none)(hv:FY x=some (.type T))(ha:PA X (e::es) t)(hn:x≠"__name__":=by decide)(hdb:(x==("__debug__" : Str))=false:=by decide)
  (he:Co (e::es) X.env=(false,eval e X.env)::Co es X.env:=by rfl) (hpl:(F3 pos (Co es X.env)).any (·.1)=false:=by rfl):PE X (.Call (.Name x p) (e::es) [] pos) (tCB r t):=by
 intro pins s σ H Q I h;refine EM (Ek I hg hm hv ?_ hn hdb);exact D9 (thn (ha pos pins s σ H _ I h) λus s1 ⟨vs,H1,I1,r1,q1⟩=>hc pins s1 σ H1 vs us Q I1 r1 q1) he hpl
end
end L2
namespace HT
open PySem PyProof.Rows
def lexLt:List Int->List Int->Bool
 | [],[]=>false
 | [],_::_=>true
 | _::_,[]=>false
 | x::xs,y::ys=>if x=y then lexLt xs ys else decide (x<y)
theorem CW(x y:Int)(xs ys:List Int):lexLt (x::xs) (y::ys)=if x=y then lexLt xs ys else decide (x<y):=rfl
theorem MN:lexLt [] []=false:=rfl
theorem Lj(y:Int)(ys:List Int):lexLt [] (y::ys)=true:=rfl
theorem KR(x:Int)(xs:List Int):lexLt (x::xs) []=false:=rfl
theorem ABh(A:B6)(s:AA)(a:Int)(t:Tok)(c:Int)(u:Tok):∃e,L6 A s (.int a t) (.int c u) e/\(e=true↔a=c) :=
 ⟨(a==c),MZ a t c u,by simp⟩
theorem AAR(A:B6)(s:AA)(a:Int)(t:Tok)(c:Int)(u:Tok)(prog:AK)(w:AR)(E:Au->AA->Prop)(Q:Au->AA->Prop)(h:Q (.bool (decide (a<c))) s) :
  wpAny (AM prog w) A (richCompare .Lt (.int a t) (.int c u)) Q E s :=
 (YA h:wpAny (AM prog w) A (DZ .Lt (.int a t) (.int c u)) Q E s)
section
open PySem.SeqAt
open PySem.AutoSeq1 (wpAny_loadPart')
open PySem.MeetsSeq PySem.MeetsSeq2 PySem.MeetsSeq3
theorem Gu(l b:Addr)(items items2:Array Au)(n n2:Nat)(dd dd2:Option Addr)(sl sl2:Array (Option Au))(ns ms:List Int)(hi:FS items.toList ns)(hj:FS items2.toList ms) :
  Meets (Builtin.«tuple.__lt__» ⟨[.ref l,.ref b],[]⟩)
   (λ_ R s=>s.heap.get? l=some {cls:=.type "tuple",dict:=dd,data:=.seq items n,slots:=sl}/\s.heap.get? b=some {cls:=.type "tuple",dict:=dd2,data:=.seq items2 n2,slots:=sl2} /\
    R (.ok (.ret (.bool (lexLt ns ms)))) s) :=
 .of_wp λprog w A R s h=>by
  obtain ⟨hp,g,d,tk,os⟩:=s;obtain ⟨hl,hb,h⟩:=h;have f2:=AutoSeq1.sub_tuple_tuple;have z1:items.size=ns.length:=by rw[<- hi.length];simp
  have z2:items2.size=ms.length:=by rw[<- hj.length];simp
  wp_walk using wpAny_loadPart' hl,wpAny_loadPart' hb,FK _ (λrest b s'=>b.1=none/\s'=⟨hp,g,d,tk,os⟩/\∃(vs ws:List Au) (ns' ms':List Int),rest=vs.zip ws /\
   FS vs ns'/\FS ws ms'/\ns'.length+items2.size=ms'.length+items.size/\R (.ok (.ret (.bool (lexLt ns' ms')))) ⟨hp,g,d,tk,os⟩) _
  case turn =>
   rintro⟨y,x⟩ rest b s' ⟨hb',rfl,vs,ws,ns',ms',hz,hvi,hwi,hlen,hR⟩;cases hvi with
   | nil=>rw[List.zip_nil_left] at hz;cases hz
   | cons a t hvi' =>
    cases hwi with
    | nil=>rw[List.zip_nil_right] at hz;cases hz
    | cons c u hwi' =>
     rw[RH] at hz;injection hz with hyx hrest
     injection hyx with hy hx
     subst hy hx;rw[CW] at hR;simp only[CM] at hlen;obtain ⟨e,he,hiff⟩:=ABh A.in1 ⟨hp,g,d,tk,os⟩ a t c u;refine Ap (he prog w _ _ ?_);cases e with
     | true =>
      rw[if_pos (hiff.mp rfl)] at hR
      wp_walk
      exact ⟨rfl,rfl,_,_,_,_,hrest,hvi',hwi',by lia,hR⟩
     | false =>
      rw[if_neg (λq=>absurd (hiff.mpr q) BN)] at hR;have hri:=AAR A.in1 ⟨hp,g,d,tk,os⟩ a t c u prog w
      wp_walk using hri
      exact ⟨_,rfl,by simpa using hR⟩
  case fin =>
   rintro⟨b1,b2⟩ s' ⟨hb',rfl,vs,ws,ns',ms',hz,hvi,hwi,hlen,hR⟩;simp only at hb';subst hb';have hv:lexLt ns' ms'=decide (items.size<items2.size):=by
    cases hvi with
    | nil =>
     cases hwi with
     | nil =>
      simp only[F9] at hlen;rw[MN];exact (decide_eq_false (by lia)).symm
     | cons c u hw =>
      simp only[F9,CM] at hlen;rw[Lj];exact (decide_eq_true (by lia)).symm
    | cons a t hv =>
     cases hwi with
     | nil =>
      simp only[F9,CM] at hlen;rw[KR];exact (decide_eq_false (by lia)).symm
     | cons c u hw =>
      rw[RH] at hz;cases hz
   rw[hv] at hR
   wp_walk
   exact ⟨_,rfl,by simpa [TJ] using hR⟩
  case h =>
   exact ⟨rfl,rfl,items.toList,items2.toList,ns,ms,rfl,hi,hj,by lia,h⟩
end
section
variable{prog:AK}{w:AR}{A:B6}{E:Au->AA->Prop}{s:AA}
theorem Uz{l b:Addr}{items items2:Array Au}{ns ms:List Int}{Q:Au->AA->Prop}(hl:PM s.heap l items)(hb:PM s.heap b items2)(hi:FS items.toList ns)(hj:FS items2.toList ms)
  (hu:A.units<CO) (h:Q (.bool (lexLt ns ms)) s):wpAny (AM prog w) A (DZ .Lt (.ref l) (.ref b)) Q E s:=by
 obtain ⟨⟨cls,dd,data,sl⟩,ho,hc,n,hd⟩:=id hl;obtain ⟨⟨cls2,dd2,Wp,sl2⟩,ho2,hc2,n2,hd2⟩:=id hb;simp only at hc hd hc2 hd2;subst hc hd hc2 hd2;exact richCompare_meets_room (op:=.Lt) ⟨_,ho,rfl⟩ ⟨_,ho2,rfl⟩ LV OU (OA _ _) (Gu l b items items2 n n2 dd dd2 sl sl2 ns ms hi hj)
  ⟨ho,ho2,show PH (lexLt ns ms)≠Value.notImplemented/\Q (.bool (lexLt ns ms)) s from⟨(λx=>nomatch x),h⟩⟩ hu
theorem ADg{t b:Addr}{vs ws:List Au}{Q:Au->AA->Prop}(ht:PM s.heap t vs.toArray)(hb:PM s.heap b ws.toArray)(hv:vs≠[])
  (h1:ws=[]->Q (.ref t) s) (h2:ws≠[]->Q (.ref s.heap.objs.size) {s with heap:=s.heap.push {cls:=.type "tuple",data:=.seq (vs++ws).toArray}})
  (hsz:vs.length+ws.length<=sizeLine):wpAny (AM prog w) A (F5 .Add (.ref t) (.ref b)) Q E s:=by
 obtain ⟨⟨cls,dd,data,sl⟩,ho,hc,n,hd⟩:=id ht;obtain ⟨⟨cls2,dd2,Wp,sl2⟩,ho2,hc2,n2,hd2⟩:=id hb;simp only at hc hd hc2 hd2;subst hc hd hc2 hd2;have e:vs.toArray++ws.toArray=(vs++ws).toArray:=by simp
 by_cases hw:ws=[]
 ·exact N4 ⟨_,ho,rfl⟩ ⟨_,ho2,rfl⟩ N5 QN LJ K9 (KS _ _)
   (tuple_addW1 t b vs.toArray ws.toArray n n2 dd dd2 sl sl2 (by simpa using hv) (by simp[hw])) ⟨ho,ho2,h1 hw⟩
 ·refine N4 ⟨_,ho,rfl⟩ ⟨_,ho2,rfl⟩ N5 QN LJ K9 (KS _ _)
   (tuple_addW2 t b vs.toArray ws.toArray n n2 dd dd2 sl sl2 (by simpa using hv) (by simpa using hw) (by rw[AZ,AZ];exact hsz)) ⟨ho,ho2,?_⟩
  rw[e];exact h2 hw
def sIx(n d:Nat):Option Int->Nat
 | none=>d
 | some v=>if v<0 then (v+(n:Int)).toNat else min v.toNat n
theorem AAt(n d:Nat):sIx n d none=d:=rfl
theorem ADi(n d k:Nat):sIx n d (some (k:Int))=min k n:=by
 show (if (k:Int)<0 then ((k:Int)+(n:Int)).toNat else min (k:Int).toNat n)=min k n;rw[if_neg (by lia),CI]
theorem AEy(n d:Nat)(hd:d<=n)(o:Option Int):sIx n d o<=n:=by
 cases o with
 | none=>exact hd
 | some v =>
  show (if v<0 then (v+(n:Int)).toNat else min v.toNat n)<=n;by_cases hv:v<0
  ·rw[if_pos hv];lia
  ·rw[if_neg hv];exact Nat.min_le_right _ _
theorem XJ(v:Int)(n d:Nat):(if v<0 then max (v+(n:Int)) 0 else min v (n:Int))=((sIx n d (some v):Nat):Int):=by
 show (if v<0 then max (v+(n:Int)) 0 else min v (n:Int))=(((if v<0 then (v+(n:Int)).toNat else min v.toNat n):Nat):Int);by_cases hv:v<0
 ·simp only[if_pos hv];lia
 ·simp only[if_neg hv];lia
theorem Wm(lo hi:Option Int)(n:Nat):KF lo hi 1 (n:Int)=(((sIx n 0 lo:Nat):Int),((sIx n n hi:Nat):Int)):=by
 have h1:¬ ((1:Int)<0):=by lia
 unfold KF;simp only[h1,if_false];refine Kb ?_ ?_
 ·cases lo with
  | none=>rfl
  | some v=>exact XJ v n 0
 ·cases hi with
  | none=>rfl
  | some v=>exact XJ v n n
theorem Vh(i j:Nat):Ic (i:Int) (j:Int) 1=j-i:=by
 unfold Ic;have h1:(1:Int)>0:=by lia
 simp only[h1,if_true,W0];split<;>lia
theorem Ld{v:Au}{o:Option Int}{Q:Option Int->AA->Prop}(p:N6 v o)(h:Q o s):wpAny (AM prog w) A (UV v) Q E s:=by
 cases p with
 | none=>exact UX h
 | int i t=>exact slicePart_int h
theorem Ij{sl:Addr}{vl vu:Au}{lo hi:Option Int}{n:Nat}{Q:Int×Int×Nat->AA->Prop}(hs:s.heap.IsSliceOf sl vl vu .none)(pl:N6 vl lo)(pu:N6 vu hi)
  (h:Q (((sIx n 0 lo:Nat):Int),1,sIx n n hi-sIx n 0 lo) s):wpAny (AM prog w) A (Nd (.ref sl) (pure (n:Int))) Q E s:=by
 obtain ⟨os,hos,hcs,hds⟩:=id hs;unfold Nd WA;refine Ap (Ap (Kx hos hds (x:=vl) rfl (Ap (Kx hos hds (x:=vu) rfl (Ap (Kx hos hds (x:=.none) rfl (wpAny_pure ?_)))))));refine Ap (UX ?_);show wpAny _ _ (if ((1:Int)==0)=true then _ else _) _ _ s;rw[if_neg (by decide)];refine Ap (Ld pl (Ap (Ld pu (Ap (wpAny_pure ?_)))));show wpAny _ _ (match KF lo hi 1 (n:Int) with | (lo,hi)=>pure (lo,(1:Int),Ic lo hi 1)) _ _ s;rw[Wm lo hi n];show wpAny _ _ (pure (((sIx n 0 lo:Nat):Int),(1:Int),Ic ((sIx n 0 lo:Nat):Int) ((sIx n n hi:Nat):Int) 1)) _ _ s;rw[Vh];exact wpAny_pure h
theorem ABp(xs:Array Au)(i k:Nat):((AI k).filterMap λ(m:Nat)=>xs[((i:Int)+(m:Int)*1).toNat]?).toArray=((xs.toList.drop i).take k).toArray:=by
 have e:(λ(m:Nat)=>xs[((i:Int)+(m:Int)*1).toNat]?)=λm=>xs[i+m]?:=by
  funext m
  have:((i:Int)+(m:Int)*1).toNat=i+m:=by lia
  rw[this]
 rw[e];have:=pick_run xs i k;rw[List.filterMap_map] at this;have e2:((λx=>xs[x]?) ∘ λx=>i+x)=λm=>xs[i+m]?:=rfl;rw[e2] at this;rw[this]
theorem Hg{t sl:Addr}{items:Array Au}{vl vu:Au}{lo hi:Option Int}{Q:Au->AA->Prop}(ht:PM s.heap t items)(hs:s.heap.IsSliceOf sl vl vu .none)(pl:N6 vl lo)(pu:N6 vu hi)
  (hw:¬ (sIx items.size 0 lo=0/\sIx items.size items.size hi=items.size))
  (h:Q (.ref s.heap.objs.size) {s with heap:=s.heap.push {cls:=.type "tuple",data:=.seq ((items.toList.drop (sIx items.size 0 lo)).take (sIx items.size items.size hi-sIx items.size 0 lo)).toArray}})
  (hsz:items.size<=sizeLine):wpAny (AM prog w) A (LW (.ref t) (.ref sl)) Q E s:=by
 have htake:sizeOk (.seq ((items.toList.drop (sIx items.size 0 lo)).take (sIx items.size items.size hi-sIx items.size 0 lo)).toArray):=by
  show ((items.toList.drop (sIx items.size 0 lo)).take (sIx items.size items.size hi-sIx items.size 0 lo)).toArray.size<=sizeLine;rw[AZ,BQ,Hb,AX];lia
 have hj:sIx items.size items.size hi<=items.size:=AEy _ _ (AE _) hi;obtain ⟨os,hos,hcs,hds⟩:=id hs;have hTs:s.TypeIs (.ref sl) "slice":=⟨os,hos,hcs⟩;unfold LW
 try with_reducible refine D0 ?_
 first | refine Ap (wpAny_pure ?_) | skip
 refine Ap (wpAny_sequenceKey ht.typeIs (by decide) ?_);refine Ap (wpAny_callSpecial?_slot (name:=IJ "__getitem__") ht.typeIs IT
  (DI IT ht.typeIs entry_tuple_getitem ?_ (args_tuple_getitem _ _)))
 show wpAny _ _ (Nl (.ref t) >>= _) _ _ s;refine Ap (tupleItemsOf_ ht ?_);refine Ap (KU hTs ?_);rw[if_pos (by decide)];refine Ap (Ij hs pl pu ?_);have hno:¬ ((((sIx items.size 0 lo:Nat):Int)==0&&(1:Int)==1&&(sIx items.size items.size hi-sIx items.size 0 lo)==items.size)=true):=by
  intro q;rw[DJ,DJ] at q;have q1:((sIx items.size 0 lo:Nat):Int)=0:=eq_of_beq q.1.1;have q2:sIx items.size items.size hi-sIx items.size 0 lo=items.size:=eq_of_beq q.2;exact hw ⟨by lia,by lia⟩
 show wpAny _ _ (if (((sIx items.size 0 lo:Nat):Int)==0&&(1:Int)==1&&(sIx items.size items.size hi-sIx items.size 0 lo)==items.size)=true then _ else _) _ _ s;rw[if_neg hno,ABp]
 first
  | exact Ap (m:=E6 _) (C5 (wpAny_pure ⟨_,rfl,wpAny_pure h⟩) htake)
  | exact Ap (m:=E6 _) (C5 (Ap (wpAny_pure (wpAny_pure ⟨_,rfl,wpAny_pure h⟩))) htake)
  | exact Ap (Ap (m:=E6 _) (C5 (wpAny_pure (wpAny_pure ⟨_,rfl,wpAny_pure h⟩)) htake))
  | exact Ap (Ap (m:=E6 _) (C5 (wpAny_pure ⟨_,rfl,wpAny_pure h⟩) htake))
end
end HT
namespace L2
open PySem PySem.Spec PyProof.Rows
abbrev TO:=St->Hp->(Option Int->Hp->Prop)->Prop
def PO(X:Cx)(e:Option Expr)(t:TO):Prop :=
 ∀(pins:List (Addr×Obj)) (s:AA) (σ:St) (H:Hp) (Q:Option Int->Hp->Prop),Inv X pins σ H s->t σ H Q ->
  wpAny (AM X.prog X.w) X.A (evalPart e X.env) (λu s'=>∃o H',Inv X pins σ H' s'/\N6 u o/\Q o H') X.xe s
def ADJ:TO:=λ_ H Q=>Q none H
def AGg(t:TE):TO:=λσ H Q=>t σ H λx H1=>∃i,x=.int i/\Q (some i) H1
theorem intsAre_of{ns:List Int}:∀{us:List Au},Vals (ns.map V.int) us->FS us ns:=by
 induction ns with
 | nil=>intro us r;rw[KW] at r;cases r;exact .nil
 | cons n ns ih =>
  intro us r;rw[Cb] at r;cases r with
  | cons r1 r2 =>
   obtain ⟨t,e⟩:=r1;subst e;exact .cons n t (ih r2)
section
variable{X:Cx}{e:Expr}{te:TE}{lo hi:Option Expr}{tl th:TO}{pos p2:Pos}
theorem Ww:PO X none ADJ:=by
 intro pins s σ H Q I h;rw[evalPart_none];exact wpAny_pure ⟨none,H,I,.none,h⟩
theorem Jg(h:PE X e te):PO X (some e) (AGg te):=by
 intro pins s σ H Q I hw;rw[evalPart_some];refine thn (h pins s σ H _ I hw) λu s1 ⟨x,H1,I1,r1,q1⟩=>?_;obtain ⟨i,rfl,q⟩:=q1;obtain ⟨t,rfl⟩:=r1;exact ⟨some i,H1,I1,.int i t,q⟩
def SlR(X:Cx)(r:V->Option Int->Option Int->Hp->VK->Prop):Prop :=
 ∀(pins:List (Addr×Obj)) (s:AA) (σ:St) (H:Hp) (x:V) (v vl vu:Au) (lo hi:Option Int) (sl:Addr) (Q:VK),Inv X pins σ H s->RelV x v->s.heap.IsSliceOf sl vl vu .none->N6 vl lo->N6 vu hi->r x lo hi H Q ->
  ∃T id,typeLookup (.type T) "__getitem__" = pure (some (.builtin id))/\s.TypeIs v T/\wpAny (AM X.prog X.w) X.A (LW v (.ref sl)) (EP X pins σ Q) X.xe s
def tSl(r:V->Option Int->Option Int->Hp->VK->Prop)(te:TE)(tl th:TO):TE:=λσ H Q=>te σ H λx H1=>tl σ H1 λl H2=>th σ H2 λu H3=>r x l u H3 Q
theorem MK{r:V->Option Int->Option Int->Hp->VK->Prop}(hr:SlR X r)(he:PE X e te)(hl:PO X lo tl)(hu:PO X hi th):PE X (.Subscript e (.Slice lo hi none p2) pos) (tSl r te tl th):=by
 intro pins s σ H Q I h;refine TW (thn (he pins s σ H _ I h) λv s1 ⟨x,H1,I1,r1,q1⟩=>?_);refine wpAny_Slice (thn (hl pins s1 σ H1 _ I1 q1) λvl s2 ⟨l,H2,I2,pl,q2⟩=>thn (hu pins s2 σ H2 _ I2 q2) λvu s3 ⟨u,H3,I3,pu,q3⟩=>?_);rw[evalPart_none];refine wpAny_pure ?_;have I4:Inv X pins σ H3 {s3 with heap:=s3.heap.push {cls:=.type "slice",data:=.fields #[vl,vu,.none]}}:=I3.kept (t':=s3.toks) λb ob q=>AH _ q;obtain ⟨T,id,hT,ht,hg⟩:=hr pins {s3 with heap:=s3.heap.push {cls:=.type "slice",data:=.fields #[vl,vu,.none]}} σ H3 x v vl vu l u s3.heap.objs.size Q I4 r1 (YI ..) pl pu q3;show wpAny (AM X.prog X.w) X.A (QO e (.Slice lo hi none p2) v (.ref s3.heap.objs.size)) (EP X pins σ Q) X.xe {s3 with heap:=s3.heap.push {cls:=.type "slice",data:=.fields #[vl,vu,.none]}};exact tail_any (ops:=[.ref s3.heap.objs.size,v]) ht hT hg (by with_unfolding_all rfl)
def cutV(xs:List V)(lo hi:Option Int):List V:=(xs.drop (HT.sIx xs.length 0 lo)).take (HT.sIx xs.length xs.length hi-HT.sIx xs.length 0 lo)
theorem JV(xs:List V)(lo hi:Option Int):(cutV xs lo hi).length<=xs.length:=by
 unfold cutV;rw[BQ,Hb];lia
def rSlT(K:As):V->Option Int->Option Int->Hp->VK->Prop:=λx lo hi H Q=>∃a xs,x=.ref a/\SqT K H a xs /\
 ¬ (HT.sIx xs.length 0 lo=0/\HT.sIx xs.length xs.length hi=xs.length)/\∀p,H p=none->Q (.ref p) (upd H p (.tup (cutV xs lo hi)))
theorem AFU:SlR X (rSlT X.K):=by
 intro pins s σ H x v vl vu lo hi sl Q I rx hs pl pu h;obtain ⟨a,xs,rfl,hx,hw,q⟩:=h;cases rx;obtain ⟨its,r,ht,hz⟩:=I.tuple hx;have hlen:its.toArray.size=xs.length:=by rw[AZ];exact r.length.symm
 refine ⟨"tuple",_,IT.lookup,ht.typeIs,?_⟩;refine HT.Hg ht hs pl pu (by rw[hlen];exact hw) ?_ (by rw[hlen];exact hz);rw[hlen];refine ⟨.ref s.heap.objs.size,_,I.laid (t':=s.toks) (o:=.tup (cutV xs lo hi)) (λb ob q=>AH _ q) (AE _) ?_,rfl,q _ (I.hok.fresh (AE _))⟩;exact ⟨BM (JV xs lo hi) hz,_,(r.drop (HT.sIx xs.length 0 lo)).take (HT.sIx xs.length xs.length hi-HT.sIx xs.length 0 lo),U9 _ _⟩
def rCatT(K:As):R2:=λx y H Q=>∃a b xs ys,x=.ref a/\y=.ref b/\SqT K H a xs/\SqT K H b ys/\xs≠[]/\xs.length+ys.length<=sizeLine /\
 (ys=[]->Q (.ref a) H)/\(ys≠[]->∀p,H p=none->Q (.ref p) (upd H p (.tup (xs++ys))))
theorem Vals.nil_iff{xs:List V}{us:List Au}(r:Vals xs us):us=[]↔xs=[]:=by
 cases r with
 | nil=>simp
 | cons _ _=>simp
theorem ACu:OpR X (F5 .Add) (rCatT X.K):=by
 intro pins s σ H x y v u Q I rx ry h;obtain ⟨a,b,xs,ys,rfl,rfl,ha,hb,hx,hz,q1,q2⟩:=h;cases rx;cases ry;obtain ⟨its,r1,p1,_⟩:=I.tuple ha;obtain ⟨its2,r2,p2,_⟩:=I.tuple hb;refine HT.ADg p1 p2 (λz=>hx (r1.nil_iff.mp z)) (λz=>⟨.ref a,H,I,rfl,q1 (r2.nil_iff.mp z)⟩) (λz=>?_) (by rw[<- r1.length,<- r2.length];exact hz);refine ⟨.ref s.heap.objs.size,_,I.laid (t':=s.toks) (o:=.tup (xs++ys)) (λb ob q=>AH _ q) (AE _) ?_,rfl,q2 (λw=>z (r2.nil_iff.mpr w)) _ (I.hok.fresh (AE _))⟩;exact ⟨by rw[AT];exact hz,_,r1.append r2,U9 _ _⟩
end
def ixN(n:Nat)(i:Int):Option Nat:=if 0<=i then (if i<n then some i.toNat else none) else if -(n:Int)<=i then some (i+n).toNat else none
def atI{α:Type}(xs:List α)(i:Int):Option α:=(ixN xs.length i).bind λj=>xs[j]?
theorem RV{n:Nat}{i:Int}{j:Nat}(h:ixN n i=some j):VA i n=some j/\j<n/\-(n:Int)<=i/\i<n:=by
 unfold ixN at h;by_cases h0:0<=i
 ·rw[if_pos h0] at h
  by_cases h1:i<n
  ·rw[if_pos h1] at h
   have e:i.toNat=j:=BH h;exact ⟨by rw[SO h0 h1,e],by lia,by lia,h1⟩
  ·rw[if_neg h1] at h;cases h
 ·rw[if_neg h0] at h
  by_cases h1:-(n:Int)<=i
  ·rw[if_pos h1] at h
   have e:(i+n).toNat=j:=BH h;exact ⟨by rw[seqIndex_neg (by lia) h1,e],by lia,h1,by lia⟩
  ·rw[if_neg h1] at h;cases h
theorem atI_get{α:Type}{xs:List α}{i:Int}{v:α}(h:atI xs i=some v):∃j,VA i xs.length=some j/\xs[j]?=some v/\j<xs.length/\-(xs.length:Int)<=i/\i<xs.length:=by
 unfold atI at h;cases e:ixN xs.length i with
 | none=>rw[e] at h;cases h
 | some j =>
  rw[e] at h;obtain ⟨h1,h2,h3,h4⟩:=RV e;exact ⟨j,h1,h,h2,h3,h4⟩
theorem Bm{α:Type}{xs:List α}{j:Nat}{v:α}(h:xs[j]?=some v):atI xs (j:Int)=some v:=by
 have hj:j<xs.length:=(AL.mp h).1;have e:ixN xs.length (j:Int)=some j:=by
  unfold ixN;rw[if_pos (by lia),if_pos (by lia)];simp
 unfold atI;rw[e];exact h
def ADV(b:Expr):Prop:=∀o i,OV b false o i=operate [o,i] (LW o i)
def IxR(X:Cx)(r:R2):Prop :=
 ∀(value slice:Expr) (pins:List (Addr×Obj)) (s:AA) (σ:St) (H:Hp) (x y:V) (v u:Au) (Q:VK),Inv X pins σ H s->RelV x v->RelV y u->r x y H Q ->
  OV slice false v u=operate [v,u] (LW v u)->wpAny (AM X.prog X.w) X.A (QO value slice v u) (EP X pins σ Q) X.xe s
def MtR(X:Cx)(id:String)(r:V->List V->Hp->VK->Prop):Prop :=
 ∀(pins:List (Addr×Obj)) (s:AA) (σ:St) (H:Hp) (x:V) (xs:List V) (v:Au) (us:List Au) (Q:VK),Inv X pins σ H s->RelV x v->Vals xs us->r x xs H Q ->
  wpAny (AM X.prog X.w) X.A (call (.builtin id) (v::us)) (EP X pins σ Q) X.xe s
section
variable{X:Cx}{a b:Expr}{ta tb:TE}{pos:Pos}
theorem BK{r:R2}(hr:IxR X r)(ha:PE X a ta)(hb:PE X b tb)(hs:ADV b):PE X (.Subscript a b pos) (tOp r ta tb):=by
 intro pins s σ H Q I h;exact TW (binT ha hb I h λv u s2 x y H2 I2 rx ry q=>hr a b pins s2 σ H2 x y v u Q I2 rx ry q (hs _ _))
def rIxL(K:As):R2:=λx y H Q=>E4 λp xs i v=>A5 (x=.ref p) (y=.int i) (SqL K H p xs) (atI xs i=some v) (Q v H)
def rIxT(K:As):R2:=λx y H Q=>E4 λp xs i v=>A5 (x=.ref p) (y=.int i) (SqT K H p xs) (atI xs i=some v) (Q v H)
theorem Bk:IxR X (rIxL X.K):=by
 intro value slice pins s σ H x y v u Q I rx ry h hs;obtain ⟨p,xs,i,z,rfl,rfl,hq,he,q⟩:=h;cases rx;obtain ⟨t,rfl⟩:=ry;obtain ⟨its,r,pl,hz⟩:=I.list hq;obtain ⟨j,h1,h2,h3,h4,h5⟩:=atI_get he;obtain ⟨w,ew,rw'⟩:=r.get h2;have hl:=r.length;have hn:=line63;have fin:EP X pins σ Q w s:=⟨z,H,I,rw',q⟩;by_cases h0:0<=i
 ·have hj:i.toNat=j:=by
   rw[SO h0 h5] at h1;exact BH h1
  exact item_listR pl.isList h0 (by lia) (by rw[hj];simpa using ew) fin hs
 ·have hj:(i+(its.toArray.size:Int)).toNat=j:=by
   rw[seqIndex_neg (by lia) h4] at h1;rw[AZ,<- hl];exact BH h1
  exact OW (x:=w) pl.isList.typeIs Su.lookup
   (wpAny_getItem_list_neg (Q:=λr s'=>r=w/\EP X pins σ Q r s') pl.isList (by lia) (by rw[AZ]<;>lia) (by lia) (by rw[hj];simpa using ew) ⟨rfl,fin⟩) hs
theorem Bj:IxR X (rIxT X.K):=by
 intro value slice pins s σ H x y v u Q I rx ry h hs;obtain ⟨p,xs,i,z,rfl,rfl,hq,he,q⟩:=h;cases rx;obtain ⟨t,rfl⟩:=ry;obtain ⟨its,r,pl,hz⟩:=I.tuple hq;obtain ⟨j,h1,h2,h3,h4,h5⟩:=atI_get he;obtain ⟨w,ew,rw'⟩:=r.get h2;have hl:=r.length;have hn:=line63;have fin:EP X pins σ Q w s:=⟨z,H,I,rw',q⟩;exact OW (x:=w) pl.typeIs slot_tuple_getitem.lookup
  (getItem_tuple (j:=j) (Q:=λr s'=>r=w/\EP X pins σ Q r s') pl (by lia) (by lia) (by rw[AZ,<- hl];exact h1) (by simpa using ew) ⟨rfl,fin⟩) hs
theorem Vj(its:List Au)(n j:Nat)(u:Au):DV (·.setIfInBounds j u) {cls:=.type "list",data:=.seq its.toArray n}={cls:=.type "list",data:=.seq (its.set j u).toArray n}:=by
 simp[DV]
theorem Inv.lst{pins:List (Addr×Obj)}{σ:St}{H:Hp}{s:AA}{p:Addr}{xs:List V}(I:Inv X pins σ H s)(h:H p=some (.lst xs)) :
  ∃(its:List Au) (n:Nat),Vals xs its/\s.heap.get? p=some {cls:=.type "list",data:=.seq its.toArray n}/\xs.length<=sizeLine:=by
 obtain ⟨z,its,n,r,e⟩:=I.hok p _ h;exact ⟨its,n,r,e,z⟩
theorem Inv.lstUpd{pins:List (Addr×Obj)}{σ:St}{H:Hp}{s:AA}{p:Addr}{xs ys:List V}{its its':List Au}{n n':Nat}{f:Obj->Obj}(I:Inv X pins σ H s)(h:H p=some (.lst xs))
  (ho:s.heap.get? p=some {cls:=.type "list",data:=.seq its.toArray n}) (hf:f {cls:=.type "list",data:=.seq its.toArray n}={cls:=.type "list",data:=.seq its'.toArray n'}) (r:Vals ys its') (hz:ys.length<=sizeLine) (t:Nat) :
  Inv X pins σ (upd H p (.lst ys)) {s with heap:=s.heap.update p f,toks:=t}:=by
 have e:(s.heap.update p f).get? p=some {cls:=.type "list",data:=.seq its'.toArray n'}:=by
  rw[EH f ho (by rw[hf]<;>rfl),hf]
 refine I.write (x:=p) (e:=p) (by rw[h];trivial) (.inl rfl) (λb u hb q=>(ET _ _ (DF hb)).trans q) ⟨_,e⟩ ?_;exact ⟨hz,its',n',r,e⟩
def rSetL:V->V->V->Hp->(Hp->Prop)->Prop:=λo i v H Q=>E4 λp xs k j=>A5 (o=.ref p) (i=.int k) (H p=some (.lst xs)) (ixN xs.length k=some j) (Q (upd H p (.lst (xs.set j v))))
theorem set_list:PSet X rSetL:=by
 intro pins s σ H o i v ov iv u Q I ro ri rv h;obtain ⟨p,xs,k,j,rfl,rfl,hp,hj,q⟩:=h;cases ro;obtain ⟨t,rfl⟩:=ri;obtain ⟨its,n,r,ho,hz⟩:=I.lst hp;obtain ⟨h1,h2,h3,h4⟩:=RV hj;have hl:=r.length;have hn:=line63;have I':Inv X pins σ (upd H p (.lst (xs.set j v))) {s with heap:=s.heap.update p (DV (·.setIfInBounds j u))} :=
  I.lstUpd hp ho (Vj its n j u) (r.set rv j) (by rw[OG];exact hz) s.toks
 by_cases h0:0<=k
 ·have hk:k.toNat=j:=by
   rw[SO h0 h4] at h1;exact BH h1
  exact PySem.W.ki_setAt ho h0 (by lia) (by rw[AZ,<- hl];exact h4) (by rw[hk];exact ⟨_,I',q⟩)
 ·have hk:(k+(its.toArray.size:Int)).toNat=j:=by
   rw[seqIndex_neg (by lia) h3] at h1;rw[AZ,<- hl];exact BH h1
  exact PySem.W.ki_setBack ho (by lia) (by rw[AZ,<- hl];exact h3) (by lia) (by rw[hk];exact ⟨_,I',q⟩)
theorem RB(lo hi:Option Int)(n:Nat):(KA lo hi none n).1=((HT.sIx n 0 lo:Nat):Int)/\(KA lo hi none n).2.1=((HT.sIx n n hi:Nat):Int)/\(KA lo hi none n).2.2=1:=by
 refine ⟨?_,?_,rfl⟩
 ·cases lo with
  | none=>simp[KA,HT.sIx]
  | some i =>
   simp only[KA,HT.sIx,S9,show (1:Int)>0 by decide,if_true];by_cases h:i<0
   ·simp only[h,if_true]<;>lia
   ·simp only[h,if_false]<;>lia
 ·cases hi with
  | none=>simp[KA,HT.sIx]
  | some i =>
   simp only[KA,HT.sIx,S9,show (1:Int)>0 by decide,if_true];by_cases h:i<0
   ·simp only[h,if_true]<;>lia
   ·simp only[h,if_false]<;>lia
theorem Mi(its:List Au)(lo hi:Option Int):slicePick its.toArray lo hi none=((its.drop (HT.sIx its.length 0 lo)).take (HT.sIx its.length its.length hi-HT.sIx its.length 0 lo)).toArray:=by
 obtain ⟨h1,h2,h3⟩:=RB lo hi its.toArray.size;unfold slicePick;rw[h1,h2,h3];simp only[sliceRange_one,pick_run,AZ]<;>rfl
def rSlL(K:As):V->Option Int->Option Int->Hp->VK->Prop:=λx lo hi H Q=>E2 λa xs=>A3 (x=.ref a) (SqL K H a xs) (∀p,H p=none->Q (.ref p) (upd H p (.lst (cutV xs lo hi))))
theorem YL:SlR X (rSlL X.K):=by
 intro pins s σ H x v vl vu lo hi sl Q I rx hs pl pu h;obtain ⟨a,xs,rfl,hx,q⟩:=h;cases rx;obtain ⟨its,r,ht,hz⟩:=I.list hx;have hlen:=r.length;refine ⟨"list",_,Su.lookup,ht.isList.typeIs,?_⟩;refine wpAny_getItem_list_slice ht.isList hs pl pu .none (by simp) ?_ (by rw[AZ]<;>lia);rw[Mi,<- hlen];refine ⟨.ref s.heap.objs.size,_,I.laid (t':=s.toks) (o:=.lst (cutV xs lo hi)) (λb ob q=>AH _ q) (AE _) ?_,rfl,q _ (I.hok.fresh (AE _))⟩;exact ⟨BM (JV xs lo hi) hz,_,0,(r.drop (HT.sIx xs.length 0 lo)).take (HT.sIx xs.length xs.length hi-HT.sIx xs.length 0 lo),AU _ rfl⟩
def flatV:V->Bool
 | .non=>true
 | .bl _=>true
 | .int _=>true
 | .str _=>true
 | _=>false
def eqV:V->V->Bool
 | .non,.non=>true
 | .bl a,.bl b=>a==b
 | .bl a,.int b=>(if a then 1 else 0)==b
 | .int a,.bl b=>a==(if b then 1 else 0)
 | .int a,.int b=>a==b
 | .str a,.str b=>a==b
 | _,_=>false
theorem AFM{A:B6}{s:AA}{y x:V}{u v:Au}(ry:RelV y u)(rx:RelV x v)(fy:flatV y=true)(fx:flatV x=true):L6 A s u v (eqV y x):=by
 cases y with
 | non =>
  cases ry;cases x with
  | non=>cases rx;exact OH _
  | bl b=>cases rx;exact SeqAt.EqAt.none_bool b
  | int b=>obtain ⟨t,rfl⟩:=rx;exact Q1 b t
  | str b=>obtain ⟨t,rfl⟩:=rx;exact SeqAt.EqAt.none_str b t
  | _=>exact absurd (show false=true from fx) BN
 | bl a =>
  cases ry;cases x with
  | non=>cases rx;exact SeqAt.EqAt.bool_none a
  | bl b=>cases rx;exact SeqAt.EqAt.bool_bool a b
  | int b=>obtain ⟨t,rfl⟩:=rx;exact SeqAt.EqAt.bool_int a b t
  | str b=>obtain ⟨t,rfl⟩:=rx;exact SeqAt.EqAt.bool_str a b t
  | _=>exact absurd (show false=true from fx) BN
 | int a =>
  obtain ⟨t',rfl⟩:=ry;cases x with
  | non=>cases rx;exact Q2 a t'
  | bl b=>cases rx;exact SeqAt.EqAt.int_bool a t' b
  | int b=>obtain ⟨t,rfl⟩:=rx;exact MZ a t' b t
  | str b=>obtain ⟨t,rfl⟩:=rx;exact Q9 a t' b t
  | _=>exact absurd (show false=true from fx) BN
 | str a =>
  obtain ⟨t',rfl⟩:=ry;cases x with
  | non=>cases rx;exact SeqAt.EqAt.str_none a t'
  | bl b=>cases rx;exact SeqAt.EqAt.str_bool a t' b
  | int b=>obtain ⟨t,rfl⟩:=rx;exact Rc a t' b t
  | str b=>obtain ⟨t,rfl⟩:=rx;exact SeqAt.EqAt.str_str a t' b t
  | _=>exact absurd (show false=true from fx) BN
 | _=>exact absurd (show false=true from fy) BN
def eqU(x:V)(u:Au):Bool:=match u with
 | .none=>eqV .non x
 | .bool b=>eqV (.bl b) x
 | .int i _=>eqV (.int i) x
 | .str z _=>eqV (.str z) x
 | _=>false
theorem AAi{x y:V}{u:Au}(r:RelV y u)(f:flatV y=true):eqU x u=eqV y x:=by
 cases y with
 | non=>cases r;rfl
 | bl b=>cases r;rfl
 | int i=>obtain ⟨t,rfl⟩:=r;rfl
 | str z=>obtain ⟨t,rfl⟩:=r;rfl
 | _=>exact absurd (show false=true from f) BN
theorem Ig{x:V}:∀{xs:List V}{us:List Au},Vals xs us->xs.all flatV=true->us.any (eqU x)=xs.any λy=>eqV y x
 | _,_,.nil,_=>rfl
 | y::xs,u::us,.cons r t,f=>by
  rw[VO,DJ] at f;rw[Jn,Jn,AAi r f.1,Ig t f.2]
theorem Fw{A:B6}{s:AA}{x:V}{v:Au}(rx:RelV x v)(fx:flatV x=true):∀{xs:List V}{us:List Au},Vals xs us->xs.all flatV=true->∀u∈us,L6 A s u v (eqU x u)
 | _,_,.nil,_=>λu hu=>by cases hu
 | y::xs,u::us,.cons r t,f=>λu' hu=>by
  rw[VO,DJ] at f;rcases Be.mp hu with rfl | hu
  ·rw[AAi r f.1];exact AFM r rx f.1 fx
  ·exact Fw rx fx t f.2 u' hu
def inV(x:V)(xs:List V):Bool:=xs.any λy=>eqV y x
def rIn(K:As)(neg:Bool):R2:=λx y H Q=>E2 λp xs=>A5 (y=.ref p) ((SqL K H p xs\/SqT K H p xs)) (flatV x=true) (xs.all flatV=true) (Q (.bl (if neg then !inV x xs else inV x xs)) H)
theorem Nk:OpR X (DZ .In) (rIn X.K false):=by
 intro pins s σ H x y v u Q I rx ry h;obtain ⟨p,xs,rfl,hq,fx,fs,q⟩:=h;cases ry;rcases hq with hq | hq
 ·obtain ⟨its,r,pl,hz⟩:=I.list hq
  refine TZ (eqU x) pl.isList (λw hw=>Fw rx fx r fs w (by simpa using hw)) ⟨.bl _,H,I,rfl,?_⟩;rw[show its.toArray.any (eqU x)=its.any (eqU x) by simp,Ig r fs];exact q
 ·obtain ⟨its,r,pl,hz⟩:=I.tuple hq
  refine Ta (eqU x) pl (λw hw=>Fw rx fx r fs w (by simpa using hw)) ⟨.bl _,H,I,rfl,?_⟩;rw[show its.toArray.any (eqU x)=its.any (eqU x) by simp,Ig r fs];exact q
theorem Qk:OpR X (DZ .NotIn) (rIn X.K true):=by
 intro pins s σ H x y v u Q I rx ry h;obtain ⟨p,xs,rfl,hq,fx,fs,q⟩:=h;cases ry;rcases hq with hq | hq
 ·obtain ⟨its,r,pl,hz⟩:=I.list hq
  refine RI (eqU x) pl.isList (λw hw=>Fw rx fx r fs w (by simpa using hw)) ⟨.bl _,H,I,rfl,?_⟩;rw[show its.toArray.any (eqU x)=its.any (eqU x) by simp,Ig r fs];exact q
 ·obtain ⟨its,r,pl,hz⟩:=I.tuple hq
  refine Q3 (eqU x) pl (λw hw=>Fw rx fx r fs w (by simpa using hw)) ⟨.bl _,H,I,rfl,?_⟩;rw[show its.toArray.any (eqU x)=its.any (eqU x) by simp,Ig r fs];exact q
theorem Aw:CallR X (.builtin "len") (λxs H Q=>∃p ys,xs=[.ref p]/\(SqL X.K H p ys\/SqT X.K H p ys)/\Q (.int ys.length) H):=by
 intro pins s σ H xs us Q I r h;obtain ⟨p,ys,rfl,hq,q⟩:=h;obtain ⟨u,rfl,rx⟩:=vals1 r;cases rx;have hn:=line63;rcases hq with hq | hq
 ·obtain ⟨its,r',pl,hz⟩:=I.list hq
  have hlen:=r'.length;exact Calls.call_len_list pl.isList (by simp only[AZ]<;>lia) ⟨.int ys.length,H,I.tok _,⟨s.toks+1,by rw[AZ,hlen]⟩,q⟩
 ·obtain ⟨its,r',pl,hz⟩:=I.tuple hq
  have hlen:=r'.length;exact len_tuple pl (by simp only[AZ]<;>lia) ⟨.int ys.length,H,I.tok _,⟨s.toks+1,by rw[AZ,hlen]⟩,q⟩
theorem FT:CallR X (.type "list") (λxs H Q=>∃p ys,xs=[.ref p]/\(SqL X.K H p ys\/SqT X.K H p ys)/\∀l,H l=none->Q (.ref l) (upd H l (.lst ys))):=by
 intro pins s σ H xs us Q I r h;obtain ⟨p,ys,rfl,hq,q⟩:=h;obtain ⟨u,rfl,rx⟩:=vals1 r;cases rx;have fin:∀(its:List Au),Vals ys its->ys.length<=sizeLine->∀(h':Heap) (c':Nat),(∀b o',s.heap.get? b=some o'->h'.get? b=some o') ->
   h'.get? s.heap.objs.size=some {cls:=.type "list",dict:=none,data:=.seq its.toArray c',slots:=#[]}->EP X pins σ Q (.ref s.heap.objs.size) {s with heap:=h'}:=λits r' hz h' c' kp e =>
  ⟨.ref s.heap.objs.size,_,I.laid (t':=s.toks) kp (AE _) (show ObjOk X.prog X.w _ h' _ (.lst ys) from⟨hz,its,c',r',e⟩),rfl,q _ (I.hok.fresh (AE _))⟩
 rcases hq with hq | hq
 ·obtain ⟨its,r',pl,hz⟩:=I.list hq
  have hlen:=r'.length;obtain ⟨o,ho,hc,n,hd⟩:=pl.isList;exact call_list_seq p (.inl rfl) ho hc hd (λh' c' kp e=>fin its r' hz h' c' kp e) (by simp only[AZ]<;>lia)
 ·obtain ⟨its,r',pl,hz⟩:=I.tuple hq
  have hlen:=r'.length;obtain ⟨o,ho,hc,n,hd⟩:=pl;exact call_list_seq p (.inr rfl) ho hc hd (λh' c' kp e=>fin its r' hz h' c' kp e) (by simp only[AZ]<;>lia)
theorem Bc:CallR X (.type "tuple") (λxs H Q=>∃p ys,xs=[.ref p]/\((SqL X.K H p ys/\∀l,H l=none->Q (.ref l) (upd H l (.tup ys)))\/(SqT X.K H p ys/\Q (.ref p) H))):=by
 intro pins s σ H xs us Q I r h;obtain ⟨p,ys,rfl,h⟩:=h;obtain ⟨u,rfl,rx⟩:=vals1 r;cases rx;rcases h with⟨hq,q⟩ | ⟨hq,q⟩
 ·obtain ⟨its,r',pl,hz⟩:=I.list hq
  have hlen:=r'.length;refine call_tuple_list pl.isList (λh' kp=>?_) (by simp only[AZ]<;>lia);have I1:Inv X pins σ H {s with heap:=h'}:=I.kept (t':=s.toks) kp;have I2:Inv X pins σ (upd H h'.objs.size (.tup ys)) {s with heap:=h'.push {cls:=.type "tuple",data:=.seq its.toArray}} :=
   I1.laid (t':=s.toks) (λb o e=>AH _ e) (AE _) (show ObjOk X.prog X.w _ _ _ (.tup ys) from⟨hz,its,r',U9 _ _⟩)
  exact ⟨.ref h'.objs.size,_,I2,rfl,q _ (I1.hok.fresh (AE _))⟩
 ·obtain ⟨its,r',pl,hz⟩:=I.tuple hq
  exact call_tuple_same pl ⟨.ref p,H,I,rfl,q⟩
def tyV(K:As)(T:String)(x:V)(H:Hp):Prop:=match x with
 | .str _=>T = "str"
 | .int _=>T = "int"
 | .ref p=>(T = "list"/\∃xs,SqL K H p xs)\/(T = "tuple"/\∃o,K.lookup p=some o/\o.cls=.type "tuple"/\o.dict=none) \/
   (T = "dict"/\((∃kvs,H p=some (.dK kvs))\/∃kvs,H p=some (.dT kvs)))\/(T = "set"/\∃S n,H p=some (.set S n))
 | _=>False
theorem AFa{pins:List (Addr×Obj)}{σ:St}{H:Hp}{s:AA}{T:String}{x:V}{v:Au}(I:Inv X pins σ H s)(r:RelV x v)(ty:tyV X.K T x H) :
  s.TypeIs v T/\∀a,v=.ref a->∃ob,s.heap.get? a=some ob/\ob.dict=none:=by
 cases x with
 | str z =>
  obtain ⟨t,rfl⟩:=r;cases (show T = "str" from ty);exact ⟨typeIs_str s z t,λ_ e=>nomatch e⟩
 | int i =>
  obtain ⟨t,rfl⟩:=r;cases (show T = "int" from ty);exact ⟨typeIs_int s i t,λ_ e=>nomatch e⟩
 | ref p =>
  cases r;rcases ty with⟨rfl,xs,hq⟩ | ⟨rfl,o,hk,hc,hd⟩ | ⟨rfl,hk⟩ | ⟨rfl,S,n,hk⟩
  ·obtain ⟨its,_,pl,_⟩:=I.list hq
   refine ⟨pl.isList.typeIs,λa e=>?_⟩;cases e;obtain ⟨o,n,e,c,hd,_⟩:=pl;exact ⟨o,e,hd⟩
  ·refine ⟨⟨o,I.kIn p o hk,hc⟩,λa e=>?_⟩
   cases e;exact ⟨o,I.kIn _ o hk,hd⟩
  ·have z:∃o,s.heap.get? p=some o/\o.ExactDict:=by
    rcases hk with⟨kvs,hk⟩ | ⟨kvs,hk⟩
    ·obtain ⟨_,_,_,_,o,_,_,e,ex,_⟩:=I.hok p _ hk
     exact ⟨o,e,ex⟩
    ·obtain ⟨_,_,_,_,o,_,_,e,ex,_⟩:=I.hok p _ hk
     exact ⟨o,e,ex⟩
   obtain ⟨o,e,ex⟩:=z;refine ⟨⟨o,e,ex.1⟩,λa e2=>?_⟩;cases e2;exact ⟨o,e,ex.2.1⟩
  ·obtain ⟨o,_,_,_,e,ex,_⟩:=I.hok p _ hk
   refine ⟨⟨o,e,ex.1⟩,λa e2=>?_⟩;cases e2;exact ⟨o,e,ex.2.1⟩
 | _=>exact EF ty
def tBM(K:As)(T:String)(r:V->List V->Hp->VK->Prop)(to:TE)(t:TA):TE:=λσ H Q=>to σ H λx H1=>tyV K T x H1/\t σ H1 λxs H2=>r x xs H2 Q
variable{o e:Expr}{es:List Expr}{to:TE}{t:TA}{name:Str}{apos cpos:Pos}{T id:String}{r:V->List V->Hp->VK->Prop}
theorem Hy(pa:PlainAttrs T)(slot:Slot T name id)(hty:W4 (.builtin id)=pure (.type "method_descriptor"))(hm:MtR X id r)(ho:PE X o to)(ha:PA X (e::es) t)
  (hbase:LO o name X.env (eval o X.env)=eval o X.env:=by rfl)
  (hfew:((F3 cpos (Co (e::es) X.env)).all (λx=>!x.1)&&(PY cpos (MS [] X.env)).all (λx=>x.1.isSome)
   && decide ((e::es).length+([]:List O7).length+(if ([]:List O7).isEmpty then 0 else 1)<30))=true:=by rfl)
  (hline:(apos.endLine==cpos.line)=true:=by rfl) (hs:Co (e::es) X.env=(false,eval e X.env)::Co es X.env:=by rfl) (hplain:(F3 cpos (Co es X.env)).any (·.1)=false:=by rfl) :
  PE X (.Call (.Attribute o name apos) (e::es) [] cpos) (tBM X.K T r to t):=by
 intro pins s σ H Q I h;refine wpAny_Call_method_late hbase hfew hline rfl (thn (ho pins s σ H _ I h) λv s1 ⟨x,H1,I1,r1,ty,q1⟩=>?_);obtain ⟨h1,h2⟩:=AFa I1 r1 ty;refine ⟨T,id,pa,slot,hty,h1,h2,?_⟩;have hA:=ha cpos pins s1 σ H1 _ I1 q1;rw[hs] at hA ⊢;refine OX (by show (false||(F3 cpos (Co es X.env)).any (·.1))=false;rw[hplain]<;>rfl) (P3 ?_);exact thn hA λus s2 ⟨vs,H2,I2,r2,q2⟩=>hm pins s2 σ H2 x vs v us Q I2 r1 r2 q2
end
def MtM(X:Cx)(id:String)(r:V->List V->Hp->VK->Prop):Prop :=
 ∀(pins:List (Addr×Obj)) (s:AA) (σ:St) (H:Hp) (x:V) (xs:List V) (v:Au) (us:List Au) (Q:VK),Inv X pins σ H s->RelV x v->Vals xs us->r x xs H Q ->
  wpAny (AM X.prog X.w) X.A (call (.builtin id) (v::us)) (EP X pins σ Q) X.xe s
theorem Vals.one:∀{x:V}{us:List Au},Vals [x] us->∃u,us=[u]/\RelV x u
 | _,_,.cons r .nil=>⟨_,rfl,r⟩
theorem Vals.two:∀{x y:V}{us:List Au},Vals [x,y] us->∃u v,us=[u,v]/\RelV x u/\RelV y v
 | _,_,_,.cons r (.cons q .nil)=>⟨_,_,rfl,r,q⟩
theorem Vals.eraseIdx:∀{xs:List V}{us:List Au} (i:Nat),Vals xs us->Vals (xs.eraseIdx i) (us.eraseIdx i)
 | _,_,_,.nil=>.nil
 | _,_,0,.cons _ t=>t
 | _,_,i+1,.cons r t=>.cons r (Vals.eraseIdx i t)
theorem Om{α:Type}:∀(l:List α) (i:Nat),(l.eraseIdx i).length<=l.length
 | [],_=>AE _
 | _::_,0=>LI _
 | _::r,i+1=>Tb (Om r i)
section
variable{X:Cx}{pins:List (Addr×Obj)}{σ:St}{H:Hp}{s:AA}{l b:Addr}{xs ys zs:List V}
theorem Inv.lset{its its':List Au}{n:Nat}{f:Array Au->Array Au}{t':Nat}(I:Inv X pins σ H s)(hH:H l=some (.lst xs))
  (e:s.heap.get? l=some {cls:=.type "list",data:=.seq its.toArray n}) (hf:f its.toArray=its'.toArray) (hv:Vals ys its') (hz:ys.length<=sizeLine) :
  Inv X pins σ (upd H l (.lst ys)) {s with heap:=s.heap.update l (DV f),toks:=t'}:=by
 have q:=PySem.IsL.update e f;rw[hf] at q;refine I.write (x:=l) (e:=l) (by rw[hH];exact trivial) (.inl rfl) (λb' u hb hu=>(ET s.heap (DV f) (DF hb)).trans hu) ⟨_,q⟩ ?_;exact ⟨hz,its',_,hv,q⟩
theorem Inv.lnew{its:List Au}{t':Nat}(I:Inv X pins σ H s)(hv:Vals ys its)(hz:ys.length<=sizeLine) :
  Inv X pins σ (upd H s.heap.objs.size (.lst ys)) {s with heap:=s.heap.push {cls:=.type "list",data:=.seq its.toArray},toks:=t'} :=
 I.laid (λ_ _ q=>AH _ q) (AE _) ⟨hz,its,0,hv,AU _ rfl⟩
theorem Inv.fresh(I:Inv X pins σ H s):H s.heap.objs.size=none:=I.hok.fresh (AE _)
theorem Inv.lstM(I:Inv X pins σ H s)(hH:H l=some (.lst xs)):xs.length<=sizeLine/\∃(its:List Au) (n:Nat),Vals xs its/\xs.length=its.length/\s.heap.get? l=some {cls:=.type "list",data:=.seq its.toArray n}:=by
 obtain ⟨z,its,n,r,e⟩:=I.hok l _ hH;exact ⟨z,its,n,r,r.length,e⟩
end
section
variable{X:Cx}
def ADY:V->List V->Hp->VK->Prop:=λx vs H Q=>∃l xs y,x=.ref l/\vs=[y]/\H l=some (.lst xs)/\xs.length<sizeLine/\Q .non (upd H l (.lst (xs++[y])))
theorem Cp:MtM X "list.append" ADY:=by
 intro pins s σ H x vs v us Q I rx rv h;obtain ⟨l,xs,y,rfl,rfl,hH,hz,q⟩:=h;cases rx;obtain ⟨u,rfl,ru⟩:=rv.one;obtain ⟨z,its,n,r,hl,e⟩:=I.lstM hH;refine T5 F.slot_list_append ⟨_,e,rfl⟩ F.entry_list_append (F.args_list_append_2 _ _) (PySem.list_append l its.toArray n u (by rw[AZ];lia)) ⟨e,?_⟩;refine ⟨.non,_,I.lset (its':=its++[u]) hH e (by simp) (r.append (.cons ru .nil)) ?_,rfl,q⟩;rw[AT,Dx];lia
def rPopAt:V->List V->Hp->VK->Prop:=λx vs H Q=>∃l xs i k y,x=.ref l/\vs=[.int i]/\H l=some (.lst xs)/\-(2 ^ 63)<=i/\i<2 ^ 63/\VA i xs.length=some k/\xs[k]?=some y/\Q y (upd H l (.lst (xs.eraseIdx k)))
theorem ACU:MtM X "list.pop" rPopAt:=by
 intro pins s σ H x vs v us Q I rx rv h;obtain ⟨l,xs,i,k,y,rfl,rfl,hH,h1,h2,hk,hy,q⟩:=h;cases rx;obtain ⟨u,rfl,ru⟩:=rv.one;obtain ⟨t,rfl⟩:=ru;obtain ⟨z,its,n,r,hl,e⟩:=I.lstM hH;obtain ⟨w,hw,rw'⟩:=r.get hy;refine T5 F.slot_list_pop ⟨_,e,rfl⟩ F.entry_list_pop (F.args_list_pop_2 _ _)
  (MeetsSeq.list_pop_at l its.toArray n i t k w (fitsIndex_both h1 h2) (by rw[AZ,<- hl];exact hk) (by rw[<- B8];exact hw) (by rw[AZ];lia)) ⟨e,?_⟩
 refine ⟨y,_,I.lset (its':=its.eraseIdx k) hH e ?_ (r.eraseIdx k) ?_,rw',q⟩
 ·show its.toArray.eraseIdxIfInBounds k=(its.eraseIdx k).toArray
  rw[List.eraseIdxIfInBounds_toArray]
 ·have:=Om xs k
  lia
def rCat:R2:=λx y H Q=>E4 λl b xs zs=>A6 (x=.ref l) (y=.ref b) (H l=some (.lst xs)) (H b=some (.lst zs)) (xs.length+zs.length<=sizeLine) (∀p,H p=none->Q (.ref p) (upd H p (.lst (xs++zs))))
theorem Pr:OpR X (F5 .Add) rCat:=by
 intro pins s σ H x y v u Q I rx ry h;obtain ⟨l,b,xs,zs,rfl,rfl,hH,hB,hz,q⟩:=h;cases rx;cases ry;obtain ⟨z,its,n,r,hl,e⟩:=I.lstM hH;obtain ⟨z2,its2,n2,r2,hl2,e2⟩:=I.lstM hB;refine PySem.P.add_list e e2 ?_ (by rw[AZ,AZ];lia);have ea:its.toArray++its2.toArray=(its++its2).toArray:=by simp
 rw[ea];exact ⟨.ref _,_,I.lnew (t':=s.toks) (r.append r2) (by rw[AT];lia),rfl,q _ I.fresh⟩
end
end L2
namespace Att
open PySem PySem.W PySem.Calls PyProof.Rows
theorem Je{P:W5}{h:Heap}:∀(ns:List Int) (vs:List Au),WellAll P h vs (ns.map YO)->FS vs ns:=by
 intro ns
 induction ns with
 | nil =>
  intro vs w;rw[KW] at w;cases w;exact .nil
 | cons n ns ih =>
  intro vs w;rw[Cb] at w;cases w with
  | cons a b =>
   cases a;exact .cons _ _ (ih _ b)
theorem ZS{l:OpenLaw}{n:Nat}(hn:l.most=some n){P:W5}{h:Heap}{args:List WData}{vals:List Au}
  (hpre:l.row.toRowW.claim.pre args=true) (hwl:WellAll P h vals args) :
  ∃a vs ns,vals=[AV a]/\args=[WData.list (ns.map YO)]/\h.get? a=some {cls:=.type "list",data:=.seq vs.toArray}/\FS vs ns/\ns.length<=n:=by
 have hsh:WShape.hasAll [] args [.list .int]=true:=(pre_splitW hpre).1;have hc:l.pre.holds [] {args:=args}=true:=(pre_splitW hpre).2;obtain ⟨d,r,rfl,h1,h2⟩:=hasAllW_cons hsh;obtain rfl:=hasAllW_nil h2;obtain ⟨xs,rfl,h3⟩:=hasW_list h1;obtain ⟨ns,rfl⟩:=items_int h3;have hlen:ns.length<=n:=by
  unfold OpenLaw.pre at hc;have h4:(WTm.not (.lt (.lit (.int (n:Int))) (.len (.arg 0)))).holds [] {args:=[.list (ns.map .int)]}=true:=by
   have h4:=(holds_andW hc).1;rw[hn] at h4;exact h4
  have h5:=condW_of h4 (w_not (w_lt w_lit (w_len_list (w_arg rfl))));rw[AB] at h5;refine Nat.le_of_not_lt λq=>?_;have q':(n:Int)<((ns.length:Nat):Int):=by lia
  first
   | (rw[decide_eq_true q'] at h5;exact absurd h5 (by decide))
   | (simp at h5;lia)
 cases hwl with
 | cons w1 w2 =>
  cases w2;cases w1 with
  | list ho hall=>exact ⟨_,_,ns,rfl,rfl,ho,Je ns _ hall,hlen⟩
theorem Yw(l:OpenLaw)(args:List WData):l.row.toRowW.claim.post args (.bool true) args=true :=
 postW_of (r:=l.row.toRowW) (X:=(true==true))
  (show X9 [] (.bool true) .bool=true by first | rfl | decide | simp[X9,WShape.arms,WShape.armsAll])
  (show (WTm.eq .res (.lit (.bool true))).value [] {args:=args,res:=some (.bool true),after:=args}=some (.bool (true==true)) from w_eq_bool (w_res rfl) w_lit) rfl
theorem UJ{l:OpenLaw}{n:Nat}{q:AK}{loose:List Str}{XP:(Str->Option Au)->Heap->Prop}{YP:AR->Heap->Prop}{d:DefRec}
  (hn:l.most=some n) (hdf:d.params.defaults=[])
  (call:∀(w:AR) (s₀ s₁:AA) (mg mb:Str->Option Au) (fa:Addr) (o:Obj) (pm cd doc:Au) (a:Addr) (vs:List Au) (ns:List Int),
   Ground q loose [] XP w s₀ mg mb s₁.heap->YP w s₁.heap ->
   s₁.heap.get? fa=some o->o.data=.func (docDef d.name d.params d.body d.scope pm cd doc)->s₁.heap.CodeRec cd d.name->mg d.name=some (.ref fa) ->
   s₁.heap.get? a=some {cls:=.type "list",data:=.seq vs.toArray}->FS vs ns->ns.length<=n->s₁.gens=#[] ->
   codeAny (AM l.prog w) NY (.call (.ref fa) ⟨[.ref a],[]⟩) (λr s'=>r=.ok (.ret (.bool true))/\OldK s₁.heap s'.heap/\s'.os=s₁.os/\K6 s'.gens) s₁) :
  WalkO q loose XP YP l.row.toRowW d [] (λf vs=>T6 f vs):=by
 intro w s₀ s₁ mg mb G Y fa o pm cd doc dV kV ho hd hcd hD hmg hg args vals as hpre hlay hrd hwl hlo;obtain rfl:dV=.none:=Dflts.none hD hdf;obtain rfl:kV=.none:=Dflts.noKw hD;obtain ⟨a,vs,ns,rfl,rfl,hobj,hints,hlen⟩:=ZS hn hpre hwl;refine enter_call (FG (call w s₀ s₁ mg mb fa o pm cd doc a vs ns G Y ho (fd_plain hd) hcd hmg hobj hints hlen hg) λr s' hq=>?_);obtain ⟨rfl,h2,h3,h4⟩:=hq;exact ⟨.inl ⟨.bool true,.bool true,[],rfl,λ_=>rfl,.bool true,Yw l _,λ_=>⟨Lm,λ_ hm=>(nomatch hm)⟩⟩,h2,h3,h4⟩
end Att
namespace L2
open PySem PySem.Spec PyProof.Rows
theorem PL:∀{vs:List Au}{ns:List Int},FS vs ns->Vals (ns.map V.int) vs
 | _,_,.nil=>.nil
 | _,_,.cons n t h=>.cons ⟨t,rfl⟩ (PL h)
def Only(H:Hp):Prop:=∀b,H b=none\/∃o xs,H b=some (.frz o (.lst xs))
theorem ABb{P:AK}{w:AR}{K:As}{mg mb:Str->Option Au}{CX:CXT}{k:Nat}{fa a:Addr}{fd:BV}{x:Str}{sp:Sp}{s₁:AA}{vs:List Au}{ns:List Int}
  (KX:K.In s₁.heap) (hns:s₁.heap.Ns Do mg) (hb:s₁.heap.Ns TL mb) (hbb:∀x:Str,x≠"__name__"->mb x=FY x) (hlim:s₁.heap.NoLimit) (hg:s₁.gens=#[])
  (ha:s₁.heap.get? a=some {cls:=.type "list",data:=.seq vs.toArray}) (hi:FS vs ns) (hl:ns.length<=sizeLine) (hr:Room k NY)
  (F:∀base:Heap,K.In base->base.Ns Do mg->FnOk P w K mg base CX k fa fd [x] sp) (hbind:∀(s:AA) (u:Au),O5 s fd ⟨[u],[]⟩ [(x,u)])
  (hsp:∀H:Hp,Only H->SqL K H a (ns.map V.int)->sp [.ref a] H (λv _=>v=.bl true) λ_ _ _=>False)
  (hCX:∀H e s',CX [] H s₁ (λ_ _ _=>False) e s'->False) :
  codeAny (AM P w) NY (.call (.ref fa) ⟨[.ref a],[]⟩) (λr s'=>r=.ok (.ret (.bool true))/\OldK s₁.heap s'.heap/\s'.os=s₁.os/\K6 s'.gens) s₁:=by
 have rv:=PL hi;have lenV:=hi.length;have core:∀H:Hp,Only H->SqL K H a (ns.map V.int)->HOk P w H s₁.heap->(∀b,H b≠none->b=a)->(H a≠none->K.lookup a=none) ->
   codeAny (AM P w) NY (.call (.ref fa) ⟨[.ref a],[]⟩) (λr s'=>r=.ok (.ret (.bool true))/\OldK s₁.heap s'.heap/\s'.os=s₁.os/\K6 s'.gens) s₁:=by
  intro H hO hS hok hA hK;have base_of:∀{b:Addr}{o:Obj},s₁.heap.get? b=some o->H b=none->(hidT s₁.heap H).get? b=some o:=λe n=>ABd e n;have noA:∀{b:Addr}{o:Obj}{es:Array M0}{ep:Nat},s₁.heap.get? b=some o->o.data=.dict es ep->H b=none:=λ{b o es ep} e d=>by
   cases q:H b with
   | none=>rfl
   | some u =>
    have e':b=a:=hA b (by rw[q];simp);subst e';rw[ha] at e;cases e;have d':W6 vs.toArray _=Data.dict es ep:=d;cases d'
  have nsK:∀{b:Addr}{m:Str->Option Au},s₁.heap.Ns b m->(hidT s₁.heap H).Ns b m:=λ{b m} ⟨o,es,ep,e,d,r⟩=>⟨o,es,ep,base_of e (noA e d),d,r⟩;have hKb:K.In (hidT s₁.heap H):=λb o e=>base_of (KX b o e) (by
   cases q:H b with
   | none=>rfl
   | some u =>
    have e':b=a:=hA b (by rw[q];simp);subst e';rw[hK (by rw[q];simp)] at e;cases e)
  have hM:Mod K mg (hidT s₁.heap H):=⟨hKb,nsK hns,⟨mb,nsK hb,hbb⟩,let ⟨mc,h1,h2⟩:=hlim;⟨mc,nsK h1,h2⟩⟩;have e0:Env0 P w K mg (hidT s₁.heap H) NY [] s₁ H:=⟨rfl,hM,λb o e=>ADu e,RE (Zf _ _),trivial,λb hb=>absurd (show b∈([]:List Addr) from hb) (by simp),hok,.of_eq hg⟩;refine FG ((F _ hKb (nsK hns)).run NY [] s₁ H ⟨[.ref a],[]⟩ [.ref a] [.ref a] _ _ hr e0 (hbind s₁ (.ref a)) (.cons rfl .nil) (hsp H hO hS)) λr s' h=>?_;cases r with
  | error e=>exact (hCX H e s' h).elim
  | ok fl =>
   cases fl with
   | next=>exact EF h
   | brk=>exact EF h
   | cont=>exact EF h
   | ret u =>
    obtain ⟨v,H',os,bare,un,hok',r',q⟩:=h;have q':v=.bl true:=q;subst q';obtain rfl:u=PH true:=r';refine ⟨rfl,OldK.of_keep λb o e=>?_,os,bare⟩;cases q:H b with
    | none=>exact un.keep b o e q (by intro z;exact absurd (show b∈([]:List Addr) from z) (by simp)) (by simp)
    | some u =>
     rcases hO b with z | ⟨ob,xs,z⟩
     ·rw[q] at z;cases z
     ·have z2:=un.frzs b ob _ z
      obtain ⟨e1,_⟩:=hok b _ z;obtain ⟨e2,_⟩:=hok' b _ z2;rw[e] at e1;cases e1;exact e2
 cases hk:K.lookup a with
 | some o =>
  have e:=KX a o hk;rw[ha] at e;cases e;refine core (λ_=>none) (λ_=>.inl rfl) (.inr ⟨_,vs.toArray,_,hk,rfl,rfl,rfl,by rw[AZ,lenV];exact hl,by simpa using rv⟩) (λb u z=>by have z':(none:Option HO)=some u:=z;cases z') (λb z=>absurd rfl z) λz=>absurd rfl z
 | none =>
  refine core (λb=>if b=a then some (.frz {cls:=.type "list",data:=.seq vs.toArray} (.lst (ns.map V.int))) else none) (λb=>?_) (.inl (.inr ⟨{cls:=.type "list",data:=.seq vs.toArray},if_pos rfl⟩)) (λb u z=>?_) (λb z=>?_) λ_=>hk
  ·by_cases hb:b=a
   ·exact .inr ⟨_,_,if_pos hb⟩
   ·exact .inl (if_neg hb)
  ·by_cases hb:b=a
   ·have z':=(if_pos hb).symm.trans z
    cases z';subst hb;exact ⟨ha,by rw[AB];exact hl,vs,_,rv,ha⟩
   ·have z':=(if_neg hb).symm.trans z
    cases z'
  ·by_cases hb:b=a
   ·exact hb
   ·exact absurd (if_neg hb) z
theorem ACz{l:OI}{n k:Nat}{q:AK}{loose:List Str}{XP:(Str->Option Au)->Heap->Prop}{YP:AR->Heap->Prop}{d:DefRec}{K:W5->As}{CX:AR->CXT}{sp:AR->Sp}{x:Str}
  (hn:l.most=some n) (hn2:n<=sizeLine) (hdf:d.params.defaults=[]) (hr:Room k NY)
  (hY:∀(w:AR) (h:Heap),YP w h->(K w.params).In h)
  (F:∀(w:AR) (mg:Str->Option Au) (fa:Addr) (h:Heap),(K w.params).In h->h.Ns Do mg->mg d.name=some (.ref fa) ->
   ∃fd:BV,(∀(s:AA) (u:Au),O5 s fd ⟨[u],[]⟩ [(x,u)]) /\
    ∀base:Heap,(K w.params).In base->base.Ns Do mg->FnOk l.prog w (K w.params) mg base (CX w) k fa fd [x] (sp w))
  (hsp:∀(w:AR) (H:Hp) (a:Addr) (ns:List Int),ns.length<=n->Only H->SqL (K w.params) H a (ns.map V.int)->sp w [.ref a] H (λv _=>v=.bl true) λ_ _ _=>False)
  (hCX:∀(w:AR) (H:Hp) (s:AA) (e:Au) (s':AA),CX w [] H s (λ_ _ _=>False) e s'->False) :
  VQ q loose XP YP l.row.toRowW d [] (λf vs=>T6 f vs):=by
 refine Att.UJ hn hdf λw s₀ s₁ mg mb fa o pm cd doc a vs ns G Y ho hd hcd hmg hobj hints hlen hg=>?_;have KX:=hY w _ Y;obtain ⟨fd,hb,hF⟩:=F w mg fa _ KX G.T.g hmg;exact ABb KX G.T.g G.T.b G.T.builtins G.T.nolimit hg hobj hints (BM hlen hn2) hr hF hb (λH hO hS=>hsp w H a ns hlen hO hS) λH e s'=>hCX w H s₁ e s'
def inClass(s:Stmt)(j:Nat):Stmt:=match s with
 | .ClassDef _ _ _ body _ _ _ _ _ _ _=>body.getD j (.Pass ⟨0,0,0,0⟩)
 | _=>.Pass ⟨0,0,0,0⟩
def Dl(s:Stmt):Arguments:=match s with
 | .FunctionDef _ a _ _ _ _ _ _ _ _=>a
 | _=>{posonlyargs:=[],args:=[],vararg:=none,kwonlyargs:=[],kw_defaults:=[],kwarg:=none,defaults:=[]}
def Ca(s:Stmt):List Stmt:=match s with
 | .FunctionDef _ _ b _ _ _ _ _ _ _=>b
 | _=>[]
def Ag(s:Stmt):F0:=match s with
 | .FunctionDef _ _ _ _ _ _ sc _ _ _=>sc
 | _=>{kind:=.function,names:=[],isGenerator:=false,isCoroutine:=false}
abbrev CX0:CXT:=λ_ _ _ _ _ _=>False
abbrev E0:XK:=λ_ _ _=>False
theorem pass0{X:Cx}:Passes CX0 X E0:=λ_ _ _ _ _ _ _ h=>h.elim
structure Fun(K:As)(x qual:Str)(st:Stmt)(f:Addr)(fd:BV):Prop where
 ex:∃(oc:Au) (od:Option Addr) (kV doc pm:Au) (an:Option Addr) (cdv ct:Au) (osl:Array (Option Au)),
  fd=E3 x qual (Dl st) (Ca st) (Ag st) .none kV doc pm an cdv ct/\K.lookup f=some ⟨oc,od,.func fd,osl⟩/\IF K cdv qual=true
 kp:AW K (.ref f)=true
section
variable{P:AK}{w:AR}{K:As}{mg:Str->Option Au}{base:Heap}
theorem Fun.ok{x qual:Str}{st:Stmt}{f:Addr}{fd:BV}{N ps:List Str}{k:Nat}{sp:Sp}(F:Fun K x qual st f fd)(S:FnScope N ps (Ag st))(len:∀vs H Q E,sp vs H Q E->vs.length=ps.length)
  (hbody:∀(cdv:Au) (A:B6) (outer:List Env) (s:AA) (H:Hp) (vs:List V) (Q:VK) (E:XK),Room k (A.deeper (MY qual (Ag st) s.heap.objs.size f cdv))->sp vs H Q E ->
   ∃t,PSs (cxOf CX0 P w K mg base N qual (Ag st) f cdv A outer s H E).nox (Ca st) t/\t {nx:=λ_ H'=>Q .non H',rt:=Q} (start N vs) H):FnOk P w K mg base CX0 (k+1) f fd ps sp:=by
 obtain ⟨oc,od,kV,doc,pm,an,cdv,ct,osl,rfl,lk,hcd⟩:=F.ex;refine AGi lk hcd S len λA outer s H vs Q E hr hsp=>?_;obtain ⟨t,h,q⟩:=hbody cdv A outer s H vs Q E hr hsp;exact ⟨t,h.nox,q⟩
theorem Fun.binds{x qual:Str}{st:Stmt}{f:Addr}{fd:BV}{ps:List Str}(F:Fun K x qual st f fd)
  (h:∀(kV doc pm:Au) (an:Option Addr) (cdv ct:Au) (us:List Au),us.length=ps.length->S8 (E3 x qual (Dl st) (Ca st) (Ag st) .none kV doc pm an cdv ct) ⟨us,[]⟩=pure (ps.zip us)):Binds K fd ps []:=by
 obtain ⟨oc,od,kV,doc,pm,an,cdv,ct,osl,rfl,lk,hcd⟩:=F.ex;exact .all (h kV doc pm an cdv ct)
theorem Ko{x qual:Str}{st:Stmt}{f:Addr}{oc:Au}{od an:Option Addr}{osl:Array (Option Au)}{kV doc pm cdv ct:Au}(l:K.lookup f=some ⟨oc,od,.func (E3 x qual (Dl st) (Ca st) (Ag st) .none kV doc pm an cdv ct),osl⟩)
  (c:IF K cdv qual=true) (k:AW K (.ref f)=true):Fun K x qual st f (E3 x qual (Dl st) (Ca st) (Ag st) .none kV doc pm an cdv ct):=⟨⟨oc,od,kV,doc,pm,an,cdv,ct,osl,rfl,l,c⟩,k⟩
end
theorem Ar{n:Nat}(h:n<=1000):n<sizeLine:=E7 h (by decide)
section
variable{X:Cx}
theorem pv(i:Nat){x:Str}{pos:Pos}(hN:X.N[i]?=some x:=by rfl)(hv:Vis X.env.scope x:=by first | exact BC rfl | exact HR (BC rfl) | exact HR (HR rfl))(hd:(x==("__debug__" : Str))=false:=by decide)
  (hcd:(x==("__classdict__" : Str))=false:=by decide):PE X (.Name x pos) (AGQ i):=AGF hN hv hd hcd
end
theorem iteF{A B:Prop}(h:B):if false=true then A else B:=by
 rw[if_neg BN];exact h
theorem iteT{A B:Prop}(h:A):if true=true then A else B:=by
 rw[if_pos rfl];exact h
theorem ite2{c A B:Prop}[Decidable c](h1:c->A)(h2:¬ c->B):if c then A else B:=by
 by_cases h:c
 ·rw[if_pos h]
  exact h1 h
 ·rw[if_neg h]
  exact h2 h
def Same(H H':Hp):Prop:=∀b o,H b=some o->H' b=some o
theorem Same.refl(H:Hp):Same H H:=λ_ _ h=>h
theorem Same.trans{H H1 H2:Hp}(a:Same H H1)(b:Same H1 H2):Same H H2:=λc o h=>b c o (a c o h)
theorem Same.free{H H':Hp}(e:Same H H'){l:Addr}(h:H' l=X5):H l=X5:=by
 cases q:H l with
 | none=>rfl
 | some o =>
  rw[e l o q] at h;cases h
theorem Same.seq{K:As}{H H':Hp}{a:Addr}{xs:List V}(e:Same H H')(h:SqL K H a xs):SqL K H' a xs:=by
 rcases h with (h | ⟨o,h⟩) | h
 ·exact .inl (.inl (e _ _ h))
 ·exact .inl (.inr ⟨o,e _ _ h⟩)
 ·exact .inr h
end L2
section
namespace L2
open PySem PySem.Spec PyProof.Rows
def cloOf(cells:List (Str×Addr)):List (Str×IH)->List (Str×Addr)->List (Str×Addr)
 | [],cs=>cs
 | (n,k)::r,cs=>cloOf cells r (if k == .free then match cells.lookup n with | some c=>(n,c)::cs | none=>cs else cs)
theorem Mu{cells:List (Str×Addr)}:∀{names:List (Str×IH)}{cs:List (Str×Addr)},(∀x c,cs.lookup x=some c->cells.lookup x=some c)->∀x c,(cloOf cells names cs).lookup x=some c->cells.lookup x=some c
 | [],_,h=>h
 | (n,k)::r,cs,h=>by
  unfold cloOf;refine Mu (names:=r) ?_;intro x c e;by_cases hk:(k==C4)=true
  ·rw[if_pos hk] at e
   cases q:cells.lookup n with
   | none=>rw[q] at e;exact h x c e
   | some d =>
    rw[q] at e;rw[EA] at e;cases hx:x==n with
    | true =>
     rw[hx] at e;have hxn:x=n:=eq_of_beq hx;subst hxn;rw[q];exact e
    | false=>rw[hx] at e;exact h x c e
  ·rw[if_neg hk] at e;exact h x c e
theorem cloOf_mono{cells:List (Str×Addr)}{x:Str}:∀{names:List (Str×IH)}{cs:List (Str×Addr)},(cs.lookup x).isSome=true->((cloOf cells names cs).lookup x).isSome=true
 | [],_,h=>h
 | (n,k)::r,cs,h=>by
  unfold cloOf;refine cloOf_mono (names:=r) ?_;by_cases hk:(k==C4)=true
  ·rw[if_pos hk]
   cases q:cells.lookup n with
   | none=>exact h
   | some d =>
    show (Ff x ((n,d)::cs)).isSome=true;rw[EA];cases hx:x==n with
    | true=>rfl
    | false=>exact h
  ·rw[if_neg hk];exact h
theorem Mv{cells:List (Str×Addr)}{x:Str}(hc:(cells.lookup x).isSome=true):∀{names:List (Str×IH)}{cs:List (Str×Addr)},(x,C4)∈names->((cloOf cells names cs).lookup x).isSome=true
 | [],_,h=>by cases h
 | (n,k)::r,cs,h=>by
  unfold cloOf;rcases Be.mp h with e | h
  ·cases e
   refine cloOf_mono ?_;rw[if_pos (show (C4==C4)=true from rfl)];obtain ⟨d,q⟩:=F7.mp hc;rw[q];show (Ff x ((x,d)::cs)).isSome=true;rw[EA,beq_self_eq_true];rfl
  ·exact Mv hc h
theorem Vd{env:Env}:∀(names:List (Str×IH)) (cs:List (Str×Addr)),(∀y∈names,y.2=.free->(env.cells.lookup y.1).isSome=true) ->
  (forIn names cs λ(x:Str×IH) (r:List (Str×Addr))=>match x with
   | (name,kind)=>if (kind == .free)=true then do let c <- cellOf env name;pure (C6 ((name,c)::r)) else pure (C6 r):Sem (List (Str×Addr)))=pure (cloOf env.cells names cs)
 | [],cs,_=>rfl
 | (n,k)::r,cs,h=>by
  have hr:∀y∈r,y.2=.free->(env.cells.lookup y.1).isSome=true:=λy hy=>h y (AG _ hy);rw[List.forIn_cons];unfold cloOf;by_cases hk:(k==C4)=true
  ·have hf:k=.free:=by simpa using hk
   obtain ⟨d,q⟩:=F7.mp (h (n,k) AC hf);have q':env.cells.lookup n=some d:=q;have hcell:cellOf env n=pure d:=by unfold cellOf;rw[q']
   simp only[hk,if_true,hcell,pure_bind,q'];exact Vd r _ hr
  ·simp only[hk,if_false,pure_bind,A7]
   exact Vd r _ hr
theorem ABV{scope:F0}{env:Env}(h:∀y∈scope.names,y.2=.free->(env.cells.lookup y.1).isSome=true):closureFor scope env=pure (cloOf env.cells scope.names []):=by
 unfold closureFor;have e:=Vd (env:=env) scope.names [] h;simp only[bind_pure];exact e
theorem Dv{env:Env}:∀{names:List (Str×IH)}{x:Str},names.lookup x=some .free ->
  (names.map λ(n,k)=>if (k==C4&&env.scope.kind == .function&&env.kindOf n==some .cell) then (n,HI) else (n,k)).lookup x=some .cell \/
  (names.map λ(n,k)=>if (k==C4&&env.scope.kind == .function&&env.kindOf n==some .cell) then (n,HI) else (n,k)).lookup x=some .free
 | [],_,h=>by simp at h
 | (n,k)::r,x,h=>by
  have ih:=@Dv env r x;rw[Cb];show Ff x ((if (k==C4&&env.scope.kind == .function&&env.kindOf n==some .cell)=true then (n,HI) else (n,k))::_)=_\/Ff x ((if (k==C4&&env.scope.kind == .function&&env.kindOf n==some .cell)=true then (n,HI) else (n,k))::_)=_;cases hx:x==n with
  | true =>
   rw[EA,hx] at h;have hk:k=.free:=by simpa using h
   by_cases hc:(k==C4&&env.scope.kind == .function&&env.kindOf n==some .cell)=true
   ·rw[if_pos hc];left;rw[EA,hx]
   ·rw[if_neg hc];right;rw[EA,hx,hk]
  | false =>
   rw[EA,hx] at h;by_cases hc:(k==C4&&env.scope.kind == .function&&env.kindOf n==some .cell)=true
   ·rw[if_pos hc];rw[EA,hx];exact ih h
   ·rw[if_neg hc];rw[EA,hx];exact ih h
theorem JZ{env:Env}{x:Str}:∀{names:List (Str×IH)},(∀y∈names,y.2≠.cell) ->
  (
   (names.map λ(n,k)=>if (k==C4&&env.scope.kind == .function&&env.kindOf n==some .cell) then (n,HI) else (n,k)).lookup x=some .cell \/
   (names.map λ(n,k)=>if (k==C4&&env.scope.kind == .function&&env.kindOf n==some .cell) then (n,HI) else (n,k)).lookup x=some .free)->(x,C4)∈names
 | [],_,h=>by simp at h
 | (n,k)::r,hc,h=>by
  have ih:=@JZ env x r λy hy=>hc y (AG _ hy);rw[Cb] at h;have h':Ff x ((if (k==C4&&env.scope.kind == .function&&env.kindOf n==some .cell)=true then (n,HI) else (n,k))::_)=_\/Ff x ((if (k==C4&&env.scope.kind == .function&&env.kindOf n==some .cell)=true then (n,HI) else (n,k))::_)=_:=h;by_cases hb:(k==C4&&env.scope.kind == .function&&env.kindOf n==some .cell)=true
  ·rw[if_pos hb] at h'
   have hk:k=.free:=by simp at hb;exact hb.1.1
   rw[EA] at h';cases hx:x==n with
   | true =>
    have:x=n:=eq_of_beq hx;subst this;subst hk;exact AC
   | false=>rw[hx] at h';exact AG _ (ih h')
  ·rw[if_neg hb] at h'
   rw[EA] at h';cases hx:x==n with
   | true =>
    rw[hx] at h';have:x=n:=eq_of_beq hx;subst this;rcases h' with h' | h'
    ·exact absurd (BH h') (hc (x,k) AC)
    ·have hk:k=.free:=BH h'
     subst hk;exact AC
   | false=>rw[hx] at h';exact AG _ (ih h')
def compOk(osc sc:F0):Bool :=
 (decide (sc.kind=.function))&&sc.names.all (λy=>decide (y.2≠.cell))&&sc.names.all (λy=>decide (y.2=.local->sc.names.lookup y.1=some .local)) &&
  sc.names.all (λy=>decide (y.2=.free->osc.names.lookup y.1=some .cell\/osc.names.lookup y.1=some .free))
structure CompOk(osc sc:F0):Prop where
 kind:sc.kind=.function
 nocell:∀y∈sc.names,y.2≠.cell
 loc:∀y∈sc.names,y.2=.local->sc.names.lookup y.1=some .local
 free:∀y∈sc.names,y.2=.free->osc.names.lookup y.1=some .cell\/osc.names.lookup y.1=some .free
theorem CompOk.of{osc sc:F0}(h:compOk osc sc=true):CompOk osc sc:=by
 unfold compOk at h;rw[DJ,DJ,DJ] at h;obtain ⟨⟨⟨h1,h2⟩,h3⟩,h4⟩:=h;exact ⟨of_decide_eq_true h1,λy hy=>of_decide_eq_true (FL.mp h2 y hy),λy hy=>of_decide_eq_true (FL.mp h3 y hy),λy hy=>of_decide_eq_true (FL.mp h4 y hy)⟩
abbrev cloX(X:Cx)(scope:F0):List (Str×Addr):=cloOf X.env.cells scope.names []
def cxComp(X:Cx)(N':List Str)(scope:F0)(fp:List Addr)(s:AA)(H:Hp):Cx where
 prog:=X.prog
 w:=X.w
 K:=X.K
 mg:=X.mg
 base:=X.base
 A:=X.A
 N:=N'
 s₀:=s
 H₀:=H
 env:=W7 scope (cloX X scope) s.heap.objs.size X.env
 outer:=X.stack
 stack:=X.stack
 ex:=fp
 fn:=λ_=>false
 calm:=X.calm
 pn:=[]
 xe:=λ_ _=>False
def FreeAt(X:Cx)(sc:F0):List Str->List Nat->Prop
 | [],[]=>True
 | x::fr,j::ix=>(X.N[j]?=some x/\sc.names.lookup x=some .free)/\FreeAt X sc fr ix
 | _,_=>False
def start2(σ:St)(own:List Str)(ix:List Nat):St:=UU own.length none++ix.map λj=>(σ[j]?).join
theorem Wj{X:Cx}{sc:F0}{σ:St}{own:List Str}:∀{fr:List Str}{ix:List Nat},FreeAt X sc fr ix->(start2 σ own ix).length=(own++fr).length:=by
 intro fr ix h;have:fr.length=ix.length:=by
  induction fr generalizing ix with
  | nil=>cases ix with
   | nil=>rfl
   | cons _ _=>exact h.elim
  | cons x fr ihf=>cases ix with
   | nil=>exact h.elim
   | cons j ix=>simp[ihf h.2]
 simp[start2,this]
theorem LQ{X:Cx}{sc:F0}{σ:St}{x:Str}{v:V}:∀{fr:List Str}{ix:List Nat}{i:Nat},FreeAt X sc fr ix->fr[i]?=some x->(ix.map λj=>(σ[j]?).join)[i]?=some (some v) ->
  ∃j:Nat,X.N[j]?=some x/\σ[j]?=some (some v)/\sc.names.lookup x=some .free
 | [],_,_,_,h,_=>by simp at h
 | _::_,[],_,h,_,_=>h.elim
 | y::fr,j::ix,0,h,h1,h2=>by
  have e1:y=x:=by simpa using h1
  subst e1;have e2:(σ[j]?).join=some v:=by simpa using h2
  refine ⟨j,h.1.1,?_,h.1.2⟩;cases q:σ[j]? with
  | none=>rw[q] at e2;cases e2
  | some o=>rw[q] at e2;cases o with
   | none=>cases e2
   | some z =>
         have:z=v:=by simpa using e2
         rw[this]
 | y::fr,j::ix,i+1,h,h1,h2=>LQ (fr:=fr) (ix:=ix) (i:=i) h.2 (by simpa using h1) (by simpa using h2)
theorem VF{X:Cx}{sc:F0}{σ:St}{own fr:List Str}{ix:List Nat}{i:Nat}{x:Str}{v:V}(h:FreeAt X sc fr ix)(h1:(own++fr)[i]?=some x)(h2:(start2 σ own ix)[i]?=some (some v)) :
  ∃j:Nat,X.N[j]?=some x/\σ[j]?=some (some v)/\sc.names.lookup x=some .free:=by
 by_cases hi:i<own.length
 ·unfold start2 at h2
  rw[By (by simpa using hi),Oy,if_pos hi] at h2;cases h2
 ·unfold start2 at h2
  rw[Ct (by simpa using hi)] at h2;rw[Ct (by simpa using hi)] at h1;exact LQ h h1 (by simpa using h2)
def PIfs(X:Cx)(ifs:List Expr)(t:TT):Prop :=
 ∀(pins:List (Addr×Obj)) (s:AA) (σ:St) (H:Hp) (Q:Bool->Hp->Prop),Inv X pins σ H s->t σ H Q ->
  wpAny (AM X.prog X.w) X.A (forIn ifs true λc r=>if r=true then do let ok <- TN c X.env (eval c X.env);pure (C6 ok) else pure (C6 r)) (TP X pins σ Q) X.xe s
def AFt:TT:=λ_ H Q=>Q true H
theorem Dp{X:Cx}:PIfs X [] AFt:=λ_ _ _ H _ I h=>wpAny_tests_nil ⟨H,I,h⟩
theorem Bt{X:Cx}{c:Expr}{t:TT}(h:PT X c t):PIfs X [c] t:=λpins s σ H Q I hw=>wpAny_tests_one (h pins s σ H Q I hw)
theorem Ge{prog:AK}{w:AR}{A:B6}{R:RC->AA->Prop}{s:AA}{elt target iter:Expr}{ifs:List Expr}{scope:F0}{pos:Pos}{it acc:Au}{env:Env}(I:Nat->AA->Prop)
  (turn:∀n s,I n s->wpAny (AM prog w) A (LH it) (λr s₁=>match r with
   | none=>R (.ok .next) s₁
   | some v=>wpAny (AM prog w) A (L4 target it v) (λ_ s₁'=>wpAny (AM prog w) A (N2 target env v) (λ_ s₂ =>
     wpAny (AM prog w) A (forIn ifs true λc r=>if r=true then do let ok <- TN c env (eval c env);pure (C6 ok) else pure (C6 r)) (λok s₃ =>
      if ok=true then wpAny (AM prog w) A (eval elt env) (λx s₄ =>
       wpAny (AM prog w) A (call (.builtin "list.append") [acc,x]) (λ_ s₅=>∃m,m<n/\I m s₅) (λ_ _=>False) s₄) (λ_ _=>False) s₃
      else ∃m,m<n/\I m s₃) (λ_ _=>False) s₂) (λ_ _=>False) s₁') (λ_ _=>False) s₁) (λ_ _=>False) s)
  (n:Nat) (h:I n s) :
  codeAny (AM prog w) A (.compLoop (.ListComp elt [⟨target,iter,ifs,0⟩] scope pos) 0 it acc env) R s:=by
 refine codeAny_loop rfl I (λn s hI=>?_) n h;show wpAny _ A ((compTurn (.ListComp elt [⟨target,iter,ifs,0⟩] scope pos) 0 it acc env).onRaise (λx=>do noteFrame x env;theTreesLotGoes x)) _ _ s;refine wpAny_noted ?_;rw[compTurn_list];refine Ap (QH (Ap (EE (turn n s hI) (λr s₁ h₁=>?_) λ_ _ h'=>h'.elim)));cases r with
 | none=>exact wpAny_pure h₁
 | some v =>
  refine Ap (EE h₁ (λ_ s₁' h₁'=>?_) λ_ _ h'=>h'.elim);refine Ap (EE h₁' (λ_ s₂ h₂=>Ap (EE h₂ (λok s₃ h₃=>?_) λ_ _ h'=>h'.elim)) λ_ _ h'=>h'.elim);cases ok with
  | false=>exact wpAny_pure ⟨rfl,h₃⟩
  | true =>
   exact Ap (Ap (EE h₃ (λx s₄ h₄=>Ap (EE h₄ (λ_ s₅ h₅=>wpAny_pure (wpAny_pure ⟨rfl,h₅⟩)) λ_ _ h'=>h'.elim)) λ_ _ h'=>h'.elim))
def Behind(X:Cx)(pins:List (Addr×Obj))(σ:St)(R:Hp->Prop)(C:Addr)(s':AA):Prop :=
 ∃(H':Hp) (m:Str->Option Au),Inv X pins σ H' s'/\s'.heap.Ns C m/\FpOk X pins H' C/\R H'
theorem Inv.sameBut{X:Cx}{pins:List (Addr×Obj)}{σ:St}{H:Hp}{s:AA}{h':Heap}{C:Addr}(I:Inv X pins σ H s)(f:FpOk X pins H C)(sb:ES C s.heap h'):Inv X pins σ H {s with heap:=h'}:=by
 obtain ⟨f0,f1,f2,f3,f4,f5⟩:=f;exact I.turned (t':=s.toks) (λb o hb e=>(sb.2 b hb).trans e) f0 f1 f3 f4 f5
def Dd(J:It)(D:Addr)(g:TG)(tc:TT)(te:TE)(R:Hp->Prop)(τ:St)(H:Hp):Prop :=
 ∃W:Nat->Nat->St->Hp->Prop,(∃m,W 0 m τ H)/\∀i m τ H,W i m τ H ->
  (J.stop i H/\R H)\/(J.go i H/\∃N:St->Hp->Prop,(∀τ' H',N τ' H'->∃m',m'<m/\W (i+1) m' τ' H')/\∀x H',J.yld i H x H'->g x τ H' λτ2 H2=>tc τ2 H2 λb H3 =>
   if b=true then te τ2 H3 λv H4=>∃ys,H4 D=some (.lst ys)/\ys.length<sizeLine/\N τ2 (upd H4 D (.lst (ys++[v]))) else N τ2 H3)
section
variable{X:Cx}{pins:List (Addr×Obj)}{σ:St}{H:Hp}{s:AA}{tg elt iter:Expr}{ifs:List Expr}{scope:F0}{pos:Pos}{own fr:List Str}{ix:List Nat}{g:TG}{tc:TT}{te:TE}{it:Addr}{fp:List Addr}
 {tn:Nat->Heap->Prop}{J:It}
theorem Ws{R:Hp->Prop}{D:Addr}{h₁:Heap}{ob:Obj}{m0:Str->Option Au}{tk:Nat}(hc:X.calm=true)(ok:CompOk X.env.scope scope)(hfr:FreeAt X scope fr ix)
  (hg:PG (cxComp X (own++fr) scope fp s H) tg g) (hi:PIfs (cxComp X (own++fr) scope fp s H) ifs tc) (he:PE (cxComp X (own++fr) scope fp s H) elt te)
  (I3:Inv X pins σ H s) (T:Turn X.prog X.w X.K tg J fp it tn) (st3:tn 0 s.heap) (f3:∀b∈fp,FpOk X pins H b)
  (hns:h₁.Ns s.heap.objs.size m0) (hsb:ES s.heap.objs.size (s.heap.push ob) h₁) (hq:Dd J D g tc te R (start2 σ own ix) H) :
  codeAny (AM X.prog X.w) X.A (.compStart (.ListComp elt [⟨tg,iter,ifs,0⟩] scope pos) 0 (.ref it) (.ref D) (W7 scope (cloX X scope) s.heap.objs.size X.env))
   (λr s'=>r=.ok .next/\Behind X pins σ R s.heap.objs.size s') {s with heap:=h₁,toks:=tk}:=by
 have old:∀b o,s.heap.get? b=some o->h₁.get? b=some o:=λb o e=>hsb.extBut b o (Cn (BE e)) (AH _ e);have sub:∀x c,(cloX X scope).lookup x=some c->X.env.cells.lookup x=some c:=Mu (λx c e=>by simp at e);have outerK:∀x,(x,C4)∈scope.names->X.env.kindOf x=some .cell\/X.env.kindOf x=some .free:=λx hx=>ok.free (x,.free) hx rfl;have has:∀x,(x,C4)∈scope.names->∃c,(cloX X scope).lookup x=some c:=λx hx=>by
  obtain ⟨c,hcl⟩:=I3.ok.has x (outerK x hx);exact F7.mp (Mv (by rw[hcl];rfl) hx)
 have lt3:∀b∈fp,b<s.heap.objs.size:=λb hb=>by
  obtain ⟨o,ho,_⟩:=T.obj 0 _ st3 b hb;exact BE ho
 have nostk:∀b∈fp,b∉frs X.stack:=λb hb hs=>by
  rcases Be.mp (I3.stkSub b hs) with z | z
  ·exact (f3 b hb).2.1 z
  ·exact (f3 b hb).2.2.1 z
 have ncell:∀b∈fp,∀x c,(cloX X scope).lookup x=some c->c≠b:=λb hb x c h=>(f3 b hb).2.2.2.2.1 x c (sub x c h);have I4:Inv (cxComp X (own++fr) scope fp s H) [] (start2 σ own ix) H {s with heap:=h₁,toks:=tk}:=by
  refine ⟨⟨I3.ok.mod,ok.kind,I3.ok.glob,I3.ok.blt,AE _,?inj,?has,?cab,I3.ok.hd,I3.ok.frames,.inl rfl,?exf,I3.bs,BM I3.ok.bsz I3.sz,?noex,nostk,I3.stack,I3.stkFree⟩,
   rfl,I3.bare,Un.kept old,⟨m0,hns,?loc⟩,?cell,I3.hok.fresh (AE _),?freeC,?pin,I3.hok.kept old,?len⟩
  case inj=>exact λx y c h1 h2=>I3.ok.inj x y c (sub x c h1) (sub y c h2)
  case has=>exact λx hx=>has x (JZ ok.nocell hx)
  case cab=>exact λx c h=>by cases h
  case exf=>exact λb hb=>⟨Cn (lt3 b hb),ncell b hb⟩
  case noex =>
   intro b o e hb;rcases (f3 b hb).2.2.2.1 with z | z
   ·exact I3.ok.noex b o e z
   ·exact absurd (CH (CH (BE e) I3.ok.bsz) z) (FI _)
  case loc =>
   intro i x v e1 e2 e3;obtain ⟨j,a1,a2,a3⟩:=VF hfr e1 e2;have mem:(x,C4)∈scope.names:=G8 a3;obtain ⟨m,hn,hl⟩:=I3.loc;have ok1:=outerK x mem;obtain ⟨u,r,l⟩:=hl j x v a1 a2 (ok1.elim (λz=>.inr (.inl z)) λz=>.inr (.inr z));rcases l with⟨k,_⟩ | ⟨k,c,hcl,o,ho,hd⟩
   ·rcases ok1 with z | z
    ·rw[k] at z;cases z
    ·rw[k] at z;cases z
   ·obtain ⟨c',hc'⟩:=has x mem
    have e:=sub x c' hc';rw[hcl] at e;cases e;exact ⟨u,r,.inr ⟨Dv a3,c,hc',o,old _ _ ho,hd⟩⟩
  case cell =>
   intro x c h;obtain ⟨v,o,ho,hd⟩:=I3.cell x c (sub x c h);exact ⟨v,o,old _ _ ho,hd⟩
  case freeC=>exact λx c h=>I3.freeC x c (sub x c h)
  case pin=>exact λp hp=>absurd (show p∈([]:List (Addr×Obj)) from hp) (by simp)
  case len=>exact Wj hfr
 have st4:tn 0 h₁:=T.keep 0 _ _ st3 λb _ o e=>old b o e;have stat:∀{H':Hp},(∀b∈fp,H' b=none)->∀b∈fp,FpOk (cxComp X (own++fr) scope fp s H) [] H' b:=λ{H'} hn b hb =>
  ⟨hn b hb,Cn (lt3 b hb),nostk b hb,.inl hb,ncell b hb,λp hp=>absurd (show p∈([]:List (Addr×Obj)) from hp) (by simp)⟩
 obtain ⟨W,⟨m1,w0⟩,turn⟩:=hq;have loop:codeAny (AM X.prog X.w) X.A (.compLoop (.ListComp elt [⟨tg,iter,ifs,0⟩] scope pos) 0 (.ref it) (.ref D) (W7 scope (cloX X scope) s.heap.objs.size X.env))
   (λr s'=>r=.ok .next/\Behind X pins σ R s.heap.objs.size s') {s with heap:=h₁,toks:=tk}:=by
  refine Ge (λn s'=>∃i τ H',Inv (cxComp X (own++fr) scope fp s H) [] τ H' s'/\tn i s'.heap/\(∀b∈fp,H' b=none)/\W i n τ H') ?_ m1 ⟨0,_,H,I4,st4,λb hb=>(f3 b hb).1,w0⟩;rintro n s5 ⟨i,τ5,H5,I5,st5,fr5,w5⟩;rcases turn i n τ5 H5 w5 with⟨stop,qn⟩ | ⟨go,N,hN,step⟩
  ·refine thn (T.done (cxComp X (own++fr) scope fp s H) rfl rfl rfl hc i [] s5 τ5 H5 _ I5 (stat fr5) st5 stop) λr s6 ⟨hr,I6⟩=>?_
   subst hr;obtain ⟨m6,hn6,_⟩:=I6.loc;exact ⟨rfl,H5,m6,I3.call' (ch:=fp) I6.os I6.base I6.hok I6.bare (λb hb=>⟨(f3 b hb).2.2.2.1,(f3 b hb).2.1,(f3 b hb).2.2.2.2.1,(f3 b hb).2.2.2.2.2⟩),hn6,I3.fpOk (AE _) I6.free,qn⟩
  ·refine thn (T.item (cxComp X (own++fr) scope fp s H) rfl rfl rfl hc i [] s5 τ5 H5 _ I5 (stat fr5) st5 go) λr s6 ⟨u,hr,h6⟩=>?_
   subst hr;refine thn h6 λ_ s7 ⟨x,H7,I7,r7,y7,st7,fr7⟩=>?_;have I7':=I7.pinned (stat fr7) (T.obj _ _ st7);have again:∀{τ8:St}{H8:Hp}{s8:AA},Inv (cxComp X (own++fr) scope fp s H) ([]++pinsAt fp s7.heap) τ8 H8 s8->N τ8 H8 ->
     ∃m,m<n/\∃i τ H',Inv (cxComp X (own++fr) scope fp s H) [] τ H' s8/\tn i s8.heap/\(∀b∈fp,H' b=none)/\W i m τ H':=λ{τ8 H8 s8} I8 n8=>by
    obtain ⟨m',hm,w8⟩:=hN τ8 H8 n8;refine ⟨m',hm,i+1,τ8,H8,I8.unpinned,T.keep _ _ _ st7 λb hb o e=>(I8.pin (b,o) (CC _ (CC _ (FW hb e)))).1,λb hb=>?_,w8⟩;obtain ⟨o,e,d⟩:=T.obj _ _ st7 b hb;exact (I8.pin (b,o) (CC _ (CC _ (FW hb e)))).2.1
   refine thn (hg _ s7 τ5 H7 x u _ I7' r7 (step x H7 y7)) λ_ s8 ⟨τ8,H8,I8,q8⟩=>?_;refine thn (hi _ s8 τ8 H8 _ I8 q8) λb s9 ⟨H9,I9,q9⟩=>?_;cases b with
   | false=>exact again I9 q9
   | true =>
    refine thn (he _ s9 τ8 H9 _ I9 q9) λuv s10 ⟨v,H10,I10,r10,ys,hD,hz,q10⟩=>?_;refine thn (Cp (X:=cxComp X (own++fr) scope fp s H) _ s10 τ8 H10 (.ref D) [v] (.ref D) [uv] (λ_ H'=>N τ8 H') I10 rfl (.cons r10 .nil) ⟨D,ys,v,rfl,rfl,hD,hz,q10⟩) λ_ s11 ⟨_,H11,I11,_,q11⟩=>?_;exact again I11 q11
 exact codeAny_compStart_list loop (T.self X.A 0 _ _ _ st4 loop)
theorem Ud{R:V->Hp->Prop}(hc:X.calm=true)(ok:CompOk X.env.scope scope)(hfr:FreeAt X scope fr ix)
  (hg:∀fp s H,PG (cxComp X (own++fr) scope fp s H) tg g) (hi:∀fp s H,PIfs (cxComp X (own++fr) scope fp s H) ifs tc) (he:∀fp s H,PE (cxComp X (own++fr) scope fp s H) elt te)
  (I2:Inv X pins σ H s) (T:Turn X.prog X.w X.K tg J fp it tn) (st2:tn 0 s.heap) (f2:∀b∈fp,FpOk X pins H b)
  (hq:∀D,H D=none->Dd J D g tc te (R (.ref D)) (start2 σ own ix) (upd H D (.lst []))) {E:Au->AA->Prop} :
  wpAny (AM X.prog X.w) X.A (Sm []) (λacc s₃=>wpAny (AM X.prog X.w) X.A (newFunctionEnv scope X.env.globals (cloX X scope) [] X.env.qual none .none (some X.env)) (λcenv s₄ =>
   codeAny (AM X.prog X.w) X.A (.compStart (.ListComp elt [⟨tg,iter,ifs,0⟩] scope pos) 0 (.ref it) acc {cenv with scope:=relabel scope X.env})
    (λr s'=>r=.ok .next/\∃v,RelV v acc/\Behind X pins σ (R v) cenv.locals s') s₄) E s₃) E s:=by
 refine C5 (wpAny_newFunctionEnv ok.nocell (by intro y hy;simp at hy) (λh₁ hns₁ hsb₁=>?_) ok.kind);have hD:H s.heap.objs.size=none:=I2.hok.fresh (AE _);have I3:Inv X pins σ (upd H s.heap.objs.size (.lst [])) {s with heap:=s.heap.push {cls:=.type "list",dict:=none,data:=.seq ([]:List Au).toArray}} :=
  I2.laid (t':=s.toks) (λb u e=>AH _ e) (AE _) ⟨A8 _,[],0,.nil,AU _ rfl⟩
 have st3:tn 0 (s.heap.push {cls:=.type "list",dict:=none,data:=.seq ([]:List Au).toArray}):=T.keep 0 _ _ st2 λb _ o e=>AH _ e;have f3:∀b∈fp,FpOk X pins (upd H s.heap.objs.size (.lst [])) b:=λb hb=>by
  obtain ⟨f0,fr⟩:=f2 b hb;obtain ⟨o,ho,_⟩:=T.obj 0 _ st2 b hb;exact ⟨by rw[Af (Cn (BE ho))];exact f0,fr⟩
 refine FG (Ws (R:=R (.ref s.heap.objs.size)) (D:=s.heap.objs.size) hc ok hfr (hg _ _ _) (hi _ _ _) (he _ _ _) I3 T st3 f3 hns₁ hsb₁ (hq _ hD)) λr s' ⟨e,b⟩=>⟨e,V.ref s.heap.objs.size,rfl,b⟩
def AEg(own:List Str)(ix:List Nat)(wi:TI)(g:TG)(tc:TT)(te:TE):TE:=λσ H Q=>wi σ H λJ H1=>∀D,H1 D=none->Dd J D g tc te (Q (.ref D)) (start2 σ own ix) (upd H1 D (.lst []))
end
section
variable{X:Cx}{tg elt iter:Expr}{ifs:List Expr}{scope:F0}{pos:Pos}{g:TG}{tc:TT}{te:TE}{wi:TI}
theorem OJ{pins:List (Addr×Obj)}{σ:St}{H:Hp}{s:AA}(I:Inv X pins σ H s)(ok:CompOk X.env.scope scope):∀y∈scope.names,y.2=.free->(X.env.cells.lookup y.1).isSome=true:=λy hy hf=>by
 obtain ⟨c,h⟩:=I.ok.has y.1 (ok.free y hy hf);rw[h];rfl
theorem Bo(osc:F0)(own fr:List Str)(ix:List Nat)(hc:X.calm=true)(ho:X.env.scope=osc)(hok:compOk osc scope=true)(hfr:FreeAt X scope fr ix)(hit:PI X tg iter wi)
  (hg:∀fp s H,PG (cxComp X (own++fr) scope fp s H) tg g) (hi:∀fp s H,PIfs (cxComp X (own++fr) scope fp s H) ifs tc) (he:∀fp s H,PE (cxComp X (own++fr) scope fp s H) elt te)
  (hs:∀x,NH iter X.env x=pure x:=by intro _;rfl):PE X (.ListComp elt [⟨tg,iter,ifs,0⟩] scope pos) (AEg own ix wi g tc te):=by
 intro pins s σ H Q I h;have ok:=CompOk.of (ho ▸ hok);rw[eval_ListComp];refine N7 (use:=none) rfl hs (ABV (OJ I ok)) ok.kind ok.loc (thn (hit pins s σ H _ I h) λxv s₁ h₁=>thn h₁ λitv s₂ h₂=>?_);obtain ⟨it,fp,tn,J,H2,rfl,I2,T,st2,f2,hq⟩:=h₂;refine thn (Ud (R:=Q) hc ok hfr hg hi he I2 T st2 f2 hq) λacc s₃ h₃=>thn h₃ λcenv s₄ h₄=>FG h₄ λr s' ⟨hr,v,rv,H',m,I',hn,fpo,q⟩=>?_;subst hr;exact ⟨m,hn,λh' sb=>⟨v,H',I'.sameBut fpo sb,rv,q⟩⟩
set_option tactic.hygienic true in
theorem Jv{i:Nat}{x:Str}{pos' spos:Pos}(osc:F0)(own fr:List Str)(ix:List Nat)(hN:X.N.Nodup)(hx:X.N[i]?=some x)(hl:Loc X.env.scope x)(hc:X.calm=true)(ho:X.env.scope=osc)(hok:compOk osc scope=true)(hfr:FreeAt X scope fr ix)(hit:PI X tg iter wi)
  (hg:∀fp s H,PG (cxComp X (own++fr) scope fp s H) tg g) (hi:∀fp s H,PIfs (cxComp X (own++fr) scope fp s H) ifs tc) (he:∀fp s H,PE (cxComp X (own++fr) scope fp s H) elt te)
  (hsw:MU (.ListComp elt [⟨tg,iter,ifs,0⟩] scope pos) (some (.Name x pos')) spos.line X.env=pure true:=by rfl) (hs:∀x,NH iter X.env x=pure x:=by intro _;rfl)
  (hf:X.fn x=true\/X.env.scope.names.lookup x=some .local:=by first | exact .inl rfl | exact .inr rfl | assumption) :
  PS X (.Assign [.Name x pos'] (.ListComp elt [⟨tg,iter,ifs,0⟩] scope pos) spos) (AFW (AEg own ix wi g tc te) (gName i)):=by
 intro pins s σ H D I h;have ok:=CompOk.of (ho ▸ hok);rw[exec_Assign_Name_used _ _ _ _ hsw];refine Ap (QH (Ap ?_));show wpAny _ X.A (do let _ <- comprehension (.ListComp elt [⟨tg,iter,ifs,0⟩] scope pos) scope X.env _ (Sm []) false (eval iter X.env) (some (N2 (.Name x pos') X.env))) _ _ s;refine Ap (EE (N7 (use:=some (N2 (.Name x pos') X.env)) (Q:=λ_ s'=>SP X pins D .next s') rfl hs (ABV (OJ I ok)) ok.kind ok.loc
  (thn (hit pins s σ H _ I h) λxv s₁ h₁=>thn h₁ λitv s₂ h₂=>?_)) (λ_ s' hq=>wpAny_pure (wpAny_pure hq)) λ_ _ e=>e)
 obtain ⟨it,fp,tn,J,H2,rfl,I2,T,st2,f2,hq⟩:=h₂;refine thn (Ud (R:=λv H'=>D.nx (σ.set i (some v)) H') hc ok hfr hg hi he I2 T st2 f2 hq) λacc s₃ h₃=>thn h₃ λcenv s₄ h₄=>FG h₄ λr s' ⟨hr,v,rv,H',m,I',hn,fpo,q⟩=>?_;subst hr;show wpAny _ X.A (N2 (.Name x pos') X.env acc) _ _ s';refine So (Ol I' hN hx hl rv (λs'' I'' hch=>?_) hf);obtain ⟨a,sb,ha⟩:=hch;have hCa:cenv.locals≠a:=by
  rcases ha with z | z
  ·rw[z];exact fpo.2.1
  ·exact λe=>fpo.2.2.2.2.1 x a z e.symm
 exact ⟨m,hn.sameBut sb hCa,λh' sb'=>⟨_,H',I''.sameBut fpo sb',q⟩⟩
end
section
variable{prog:AK}{w:AR}{A:B6}{E:Au->AA->Prop}{s:AA}
theorem Hx{it l:Addr}{i:Nat}{items}{x:Au}{Q:Au->AA->Prop}(hit:s.heap.IsTupleIter it l i)
  (hl:s.heap.IsTuple l items) (hx:items[i]?=some x)
  (hQ:∀h',h'.IsTupleIter it l (i+1)->ES it s.heap h'->Q x {s with heap:=h'}) :
  wpAny (AM prog w) A (Ix (.ref it)) Q E s:=by
 obtain ⟨o,ho,hc,hd⟩:=id hit;obtain ⟨ol,hol,_,nl,hdl⟩:=hl;unfold Ix;refine Ap (wpAny_callSpecial?_slot (name:=IJ "__next__") hit.typeIs HK
  (DI HK hit.typeIs M3 ?_ (ME _)))
 show wpAny _ _ (field (.ref it) 0 >>= _) _ _ s;refine Ap (Kx ho hd (x:=.ref l) rfl ?_);show wpAny _ _ (if (AV l==CY)=true then _ else _) _ _ s;rw[if_neg (show ¬ ((AV l==CY)=true) from BN)];show wpAny _ _ (field (.ref it) 1 >>= _) _ _ s;refine Ap (Kx ho hd (x:=.int i 0) rfl ?_);show wpAny _ _ (VC (.ref l) >>= _) _ _ s;refine Ap (J2 hol hdl ?_);simp only[CI,hx];refine Ap (IG ho hd (by simp) (wpAny_pure ⟨x,rfl,wpAny_pure (hQ _ ?_ (D7 ..))⟩));exact ⟨_,EH _ ho (J3 (E8 hd _)),(Lu ..).trans hc,by
  rw[E8 hd];simp[F4]⟩
theorem JC{it l:Addr}{i:Nat}{items}{Q:Au->AA->Prop}(hh:A.handled=none)
  (hit:s.heap.IsTupleIter it l i) (hl:s.heap.IsTuple l items) (hx:items[i]?=none)
  (hE:∀h' e,SS it s.heap h'->(∃o,h'.get? e=some o/\o.cls=.type "StopIteration")->E (.ref e) {s with heap:=h'}) :
  wpAny (AM prog w) A (Ix (.ref it)) Q E s:=by
 obtain ⟨o,ho,hc,hd⟩:=id hit;obtain ⟨ol,hol,_,nl,hdl⟩:=hl;unfold Ix;refine Ap (wpAny_callSpecial?_slot (name:=IJ "__next__") hit.typeIs HK
  (DI HK hit.typeIs M3 ?_ (ME _)))
 show wpAny _ _ (field (.ref it) 0 >>= _) _ _ s;refine Ap (Kx ho hd (x:=.ref l) rfl ?_);show wpAny _ _ (if (AV l==CY)=true then _ else _) _ _ s;rw[if_neg (show ¬ ((AV l==CY)=true) from BN)];show wpAny _ _ (field (.ref it) 1 >>= _) _ _ s;refine Ap (Kx ho hd (x:=.int i 0) rfl ?_);show wpAny _ _ (VC (.ref l) >>= _) _ _ s;refine Ap (J2 hol hdl ?_);simp only[CI,hx];refine Ap (Iy (Ap (IG ho hd (by simp) ?_)));show wpAny _ _ (RO (.type "StopIteration") [] >>= _) _ _ _;refine Ap ?_;simp only[RO,W8];refine Ap (C5 ?_ (by size_fits));refine Ap (m:=J4 _ _) (LL (a:=CY) (by first | rfl | (simp only[J4];rfl)) ?_);refine C5 ?_ (by size_fits);simp only[Th];refine Ap (QP ?_)
 first | rw[show A.in1.handled=none from hh] | rw[hh]
 refine Ap (wpAny_pure (SU ?_));exact hE _ _ (((D7 ..).extBut.push _).push _) ⟨_,AU _ rfl,rfl⟩
end
theorem Tz{prog:AK}{w:AR}{A:B6}(hh:A.handled=none)(it l:Addr)(hne:l≠it)(items:Array Au) :
  Draws prog w A it [it,l] items.size (λi v=>items[i]?=some v) (λi h=>h.IsTupleIter it l i/\h.IsTuple l items) where
 live:=λ_ _ st=>let ⟨o,ho,_⟩:=st.1;⟨o,ho⟩
 frame:=λ_ _ _ st hk=>⟨st.1.at λo e=>hk it (by simp) o e,st.2.at λo e=>hk l (by simp) o e⟩
 item:=λi s Q E hi st hQ=>by
  refine Hx st.1 st.2 (x:=items[i]) (by simp[hi]) λh' hit' hs'=>?_;exact hQ _ h' s.toks (by simp[hi]) ⟨hit',st.2.extBut hs'.extBut hne⟩ hs'
 done:=λs Q E st hE=>JC hh st.1 st.2 (by simp) hE
section
open AutoSeq1 (wpAny_loadPart')
set_option tactic.hygienic true in
theorem Gd(l:Addr)(items:Array Au)(n:Nat)(dct:Option Addr)(sl:Array (Option Au)) :
  Meets (Builtin.«enumerate.__new__» ⟨[.type "enumerate",.ref l],[]⟩) (λ_ R s=>s.heap.get? l=some {cls:=.type "tuple",dict:=dct,data:=.seq items n,slots:=sl} /\
   R (.ok (.ret (.ref (s.heap.push {cls:=.type "tuple_iterator",data:=.fields #[.ref l,.int 0 0]}).objs.size)))
    {s with heap:=(s.heap.push {cls:=.type "tuple_iterator",data:=.fields #[.ref l,.int 0 0]}).push {cls:=.type "enumerate",data:=.fields #[.none,.bool false,.ref s.heap.objs.size,F4 0,.none,.none]}}) :=
 .of_wp λprog w A R s h=>by
  obtain ⟨hp,g,d,tk,os⟩:=s;obtain ⟨hl,h⟩:=h;have hsub:=sub_enumerate;have hL:Heap.IsTuple (Shared.heap ⟨hp,g,d,tk,os⟩) l items:=⟨_,hl,rfl,n,rfl⟩
  wp_walk using wpAny_loadPart' hl
  refine wpAny_stack_any λst=>wpAny_pure ?_;split
  ·rename_i c _ _ _ _ _
   cases (c==DU "enumerate")
   ·wp_walk using wpAny_loadPart' hl,JA hL
    exact ⟨_,rfl,h⟩
   ·wp_walk using wpAny_loadPart' hl,JA hL
    exact ⟨_,rfl,h⟩
  ·wp_walk using wpAny_loadPart' hl,JA hL
   exact ⟨_,rfl,h⟩
end
theorem Fy{prog:AK}{w:AR}{A:B6}{E:Au->AA->Prop}{s:AA}{l:Addr}{items:Array Au}{Q:Au->AA->Prop}(hL:s.heap.IsTuple l items)
  (h:∀h',T7 h' (s.heap.objs.size+1) s.heap.objs.size 0 .none->h'.IsTupleIter s.heap.objs.size l 0->h'.objs.size=s.heap.objs.size+2 ->
   (∀b o,s.heap.get? b=some o->h'.get? b=some o)->Q (.ref (s.heap.objs.size+1)) {s with heap:=h'}) :
  wpAny (AM prog w) A (call (.type "enumerate") [.ref l]) Q E s:=by
 obtain ⟨⟨c,dct,dt,sl⟩,hl,hc,n,hd⟩:=hL
 replace hc:c=.type "tuple":=hc
 replace hd:dt=.seq items n:=hd
 subst hc hd;refine callType_new F.called_enumerate (by decide) (F.typeCall_enumerate_1 _) (F.newCall_enumerate_1 _) (λobj=>F.args_object_init_2 obj _) F.entry_enumerate_new
  (Gd l items n dct sl) ⟨hl,?_⟩
 have hz:(s.heap.push {cls:=.type "tuple_iterator",data:=.fields #[.ref l,.int 0 0]}).objs.size=s.heap.objs.size+1:=Fm ..;show _/\_;rw[hz];have he:T7 ((s.heap.push {cls:=.type "tuple_iterator",data:=.fields #[.ref l,.int 0 0]}).push
   {cls:=.type "enumerate",data:=.fields #[.none,.bool false,.ref s.heap.objs.size,F4 0,.none,.none]}) (s.heap.objs.size+1) s.heap.objs.size 0 .none:=by
  have:=AU (s.heap.push {cls:=.type "tuple_iterator",data:=.fields #[.ref l,.int 0 0]})
   (o:={cls:=.type "enumerate",data:=.fields #[.none,.bool false,.ref s.heap.objs.size,F4 0,.none,.none]}) rfl
  rw[hz] at this;exact this
 refine ⟨⟨_,he,rfl⟩,h _ he ⟨_,AH _ (AU _ rfl),rfl,rfl⟩ (by rw[Fm,hz]) λb o x=>AH _ (AH _ x)⟩
section
variable{X:Cx}{pins:List (Addr×Obj)}{σ:St}{H:Hp}{s:AA}{h':Heap}
theorem Inv.walked{t':Nat}{wr:List Addr}(I:Inv X pins σ H s)(k:∀b o,b∉wr->s.heap.get? b=some o->h'.get? b=some o)(hf:∀b∈wr,FpOk X pins H b):Inv X pins σ H {s with heap:=h',toks:=t'}:=by
 have nit:∀b u,H b=some u->b∉wr:=λb u e z=>by rw[(hf b z).1] at e;cases e
 refine I.step (g':=s.gens) (d':=s.drawn) (ch:=wr) (λb hb=>?_) (λb o _ _ hc e _=>k b o hc e) (λb o _ _ hc e _=>⟨o.slots,k b o hc e⟩) (λ_ _ _ _ n=>n)
  (λb o hc e=>⟨o,k b o hc e⟩) (λ_ _ e=>e) (λ_ _ _ e=>e) (λb ps e=>⟨#[],by rw[e];simp⟩) (λm hm=>?_) (λb u e=>?_) I.bare
 ·obtain ⟨f0,f1,f2,f3,f4,f5⟩:=hf b hb
  exact ⟨f3,f1,f4,f5⟩
 ·obtain ⟨o,es,ep,ho,r⟩:=hm
  exact ⟨o,es,ep,k _ o (λz=>(hf _ z).2.1 rfl) ho,r⟩
 ·refine (I.hok b u e).stay (λc v hc q=>k c v ?_ q) (λ_ q=>q) λ_ _ q=>q
  rcases hc with z | z
  ·rw[z];exact nit b u e
  ·exact nit c _ z
theorem Inv.track{a:Addr}{o:HO}(I:Inv X pins σ H s)(f:FpOk X pins H a)(new:ObjOk X.prog X.w (upd H a o) s.heap a o):Inv X pins σ (upd H a o) s:=by
 obtain ⟨f0,f1,f2,f3,f4,f5⟩:=f;have ne:∀b u,H b=some u->b≠a:=λb u e z=>by rw[z,f0] at e;cases e
 obtain ⟨hh,g,d,t,os⟩:=s;refine I.step (h':=hh) (g':=g) (d':=d) (t':=t) (ch:=[a]) (λb hb=>?_) (λb o _ _ _ e _=>e) (λb o _ _ _ e _=>⟨o.slots,e⟩) (λb o hc _ n=>?_) (λb o _ e=>⟨o,e⟩)
  (λb xs e=>?_) (λb u xs e=>?_) (λb ps e=>⟨#[],?_⟩) (λm hm=>hm) (λb u e=>?_) I.bare
 ·have e:b=a:=by simpa using hb
  subst e;exact ⟨f3,f1,f4,f5⟩
 ·rw[Af (λz=>hc (by simp[z]))];exact n
 ·rw[Af (ne b _ e)];exact e
 ·rw[Af (ne b _ e)];exact e
 ·rw[Af (ne b _ e),e];simp
 ·by_cases hb:b=a
  ·subst hb;rw[Ab] at e;cases e;exact new
  ·rw[Af hb] at e
   exact (I.hok b u e).stay (λ_ _ _ q=>q) (λc q=>by rw[Af (ne c _ q)];exact q) λc xs q=>by rw[Af (ne c _ q)];exact q
end
def Ien(S:Hp->List V->Prop):It :=
 ⟨λi H=>∃xs x,S H xs/\xs[i]?=some x,λi H v H'=>∃T x,v=.ref T/\H T=none/\H'=upd H T (.tup [.int i,x])/\∀xs,S H xs->xs[i]?=some x,λi H=>∃xs,S H xs/\xs.length=i⟩
theorem Ys{P:AK}{w:AR}{K:As}{elts:List Expr}{k:Nat}{tp:Pos}{S:Hp->List V->Prop}{e it l:Addr}{St0:Nat->Heap->Prop}
  (hei:e≠it)
  (obj:∀i h,St0 i h->∃o,h.get? it=some o/\∀v,o.data≠.cell v)
  (keep:∀i h h',St0 i h->(∀o,h.get? it=some o->h'.get? it=some o)->St0 i h')
  (drw:∀(X:Cx),X.prog=P->X.w=w->X.K=K->X.calm=true->∀(i:Nat) (pins:List (Addr×Obj)) (s:AA) (σ:St) (H:Hp) (xs:List V),Inv X pins σ H s->St0 i s.heap->(∃old,T7 s.heap e it i old)->S H xs ->
   ∃(its:List Au) (fp:List Addr) (St:Nat->Heap->Prop),Vals xs its/\Draws P w X.A.in1 it fp its.toArray.size (λi v=>its.toArray[i]?=some v) St/\St i s.heap/\e∉fp/\it∈fp/\(∀j h,St j h->St0 j h))
  (inj:∀(X:Cx),X.K=K->∀(pins:List (Addr×Obj)) (s:AA) (σ:St) (H:Hp) (xs ys:List V),Inv X pins σ H s->S H xs->S H ys->xs=ys) :
  Turn P w K (.Tuple elts k tp) (Ien S) [e,it] e (λi h=>(∃old,T7 h e it i old)/\St0 i h) where
 mem:=by simp
 obj:=λi h st b hb=>by
  obtain ⟨⟨old,he⟩,hs⟩:=st;rcases Be.mp hb with rfl | hb
  ·exact ⟨_,he,λv z=>by
    have z':SK _=U6 v:=z;cases z'⟩
  ·have e1:b=it:=by simpa using hb
   subst e1;exact obj i h hs
 keep:=λi h h' st k=>⟨let ⟨old,he⟩:=st.1;⟨old,k e (by simp) _ he⟩,keep i h h' st.2 λo q=>k it (by simp) o q⟩
 item:=by
  intro X hP hw hK hc i pins s σ H E I hf st hg;obtain ⟨xs,x,hq,hx⟩:=hg;obtain ⟨its,fp,St,rv,Dr,hst,hef,hif,hback⟩:=drw X hP hw hK hc i pins s σ H xs I st.2 st.1 hq;subst hP hw;obtain ⟨u,hu,ru⟩:=rv.get hx;have hi:i<its.toArray.size:=by rw[AZ];exact (AL.mp hu).1
  have hu':its.toArray[i]?=some u:=by simpa using hu
  have WT:=Sz Dr e hei hef hif;refine WT.item i s _ _ hi ⟨st.1,hst⟩ λT vals h' tk hPt hsz hT hmid hk=>⟨.ref T,rfl,?_⟩;obtain ⟨t,y,hy,rfl⟩:=hPt;have hTw:T∉[e,it]:=WT.apart i T _ hmid;rw[hu'] at hy;have hy':u=y:=BH hy;subst hy';have hwr:∀b∈[e,it],FpOk X pins H b:=hf;have I1:Inv X pins σ H {s with heap:=h',toks:=tk}:=I.walked hk hwr;have hTn:H T=none:=I.hok.fresh hsz;have I2:Inv X pins σ (upd H T (.tup [.int i,x])) {s with heap:=h',toks:=tk}:=by
   refine I1.track (I.fpOk hsz hTn) ⟨by show 2<=sizeLine;decide,[.int i t,u],.cons ⟨t,rfl⟩ (.cons ru .nil),?_⟩;exact hT
  have hwr2:∀b∈[e,it],FpOk X pins (upd H T (.tup [.int i,x])) b:=λb hb=>by
   obtain ⟨f0,fr⟩:=hf b hb;have ne:b≠T:=λz=>hTw (by rw[<- z];exact hb);exact ⟨by rw[Af ne];exact f0,fr⟩
  refine WT.go elts k tp i T _ _ _ hmid λh'' hst'' hk''=>?_;refine ⟨.ref T,_,I2.walked (t':=tk) hk'' hwr2,rfl,⟨T,x,rfl,hTn,rfl,λys hy=>by rw[inj X hK pins s σ H ys xs I hy hq];exact hx⟩,⟨hst''.1,hback _ _ hst''.2⟩,λb hb=>(hwr2 b hb).1⟩
 done:=by
  intro X hP hw hK hc i pins s σ H E I hf st hg;obtain ⟨xs,hq,hx⟩:=hg;obtain ⟨its,fp,St,rv,Dr,hst,hef,hif,hback⟩:=drw X hP hw hK hc i pins s σ H xs I st.2 st.1 hq;subst hP hw;have hl:=rv.length;have hi:i=its.toArray.size:=by rw[AZ];lia
  subst hi;exact (Sz Dr e hei hef hif).done s _ _ ⟨st.1,hst⟩ λh' tk hk=>⟨rfl,I.walked hk hf⟩
 self:=λA i s Q E st h=>by
  obtain ⟨⟨old,he⟩,_⟩:=st;exact SA he h
theorem AAQ{h:Heap}{a b:Addr}{o u:Obj}(ha:h.get? a=some o)(hb:h.get? b=some u)(hc:o.cls≠u.cls):a≠b:=λe=>by
 subst e;rw[ha] at hb;cases hb;exact hc rfl
theorem Vg{P:AK}{w:AR}{K:As}{elts:List Expr}{k:Nat}{tp:Pos}{e it a:Addr}(hei:e≠it) :
  Turn P w K (.Tuple elts k tp) (Ien λH xs=>SqT K H a xs) [e,it] e (λi h=>(∃old,T7 h e it i old)/\h.IsTupleIter it a i):=by
 refine Ys (l:=a) hei (λi h st=>?_) (λi h h' st k=>st.at k) (λX hP hw hK hc i pins s σ H xs I st he hq=>?_) (λX hK pins s σ H xs ys I h1 h2=>?_)
 ·obtain ⟨o,e,c,d⟩:=st
  exact ⟨o,e,λv z=>by rw[d] at z;cases z⟩
 ·subst hP hw hK
  obtain ⟨its,rv,p,hz⟩:=I.tuple hq;obtain ⟨old,he⟩:=he;obtain ⟨ol,hol,hcl,_⟩:=id p;obtain ⟨oi,hoi,hci,_⟩:=id st;have h1:a≠it:=AAQ hol hoi (by rw[hcl,hci];decide);have h2:e≠a:=AAQ he hol (by rw[hcl];show DU "enumerate"≠DU "tuple";decide);exact ⟨its,[it,a],_,rv,Tz (A:=X.A.in1) (I.ok.hd hc) it a h1 its.toArray,⟨st,p⟩,by simp[hei,h2],by simp,λj h z=>z.1⟩
 ·subst hK
  exact I.tuple_inj h1 h2
section
variable{X:Cx}{elts:List Expr}{k:Nat}{tp:Pos}
def AHE(K:As)(ta:TA):TI:=λσ H R=>ta σ H λvs H1=>∃a,vs=[.ref a]/\(∃xs,SqT K H1 a xs)/\R (Ien λH xs=>SqT K H a xs) H1
theorem Ks{l:Expr}{ta:TA}{p pos:Pos}(hg:Gl X "enumerate")(hm:X.mg "enumerate" = none)(ha:PA X [l] ta)(hs:Co [l] X.env=[(false,eval l X.env)]:=by rfl) :
  PI X (.Tuple elts k tp) (.Call (.Name "enumerate" p) [l] [] pos) (AHE X.K ta):=by
 intro pins s σ H R I h;refine Call_ (Ek I hg hm boot_enumerate (D9 (thn (ha pos pins s σ H _ I h) λus s1 ⟨vs,H1,I1,r1,q1⟩=>?_) hs rfl));obtain ⟨a,rfl,⟨xs,hq⟩,q⟩:=q1;obtain ⟨u,rfl,ru⟩:=r1.one;cases ru;obtain ⟨its,rv,pl,hz⟩:=I1.tuple hq;refine Fy pl λh' he hit hsz hk=>SA he ?_;have I2:Inv X pins σ H1 {s1 with heap:=h'}:=I1.kept (t':=s1.toks) hk;refine ⟨s1.heap.objs.size+1,[s1.heap.objs.size+1,s1.heap.objs.size],_,_,H1,rfl,I2,Vg (Nat.succ_ne_self _),⟨⟨_,he⟩,hit⟩,λb hb=>?_,q⟩;have e:s1.heap.objs.size<=b:=by
  rcases Be.mp hb with rfl | hb
  ·exact LI _
  ·rw[Bn.mp hb];exact AE _
 exact I1.fpOk e (I1.hok.fresh e)
end
theorem Hj{J:It}{D:Addr}{g:TG}{tc:TT}{te:TE}{R:Hp->Prop}{τ:St}{H:Hp}(n:Nat)(Pv:Nat->St->Hp->Prop)(h0:Pv 0 τ H)(hgo:∀i τ H,i<n->Pv i τ H->J.go i H)(hstop:∀τ H,Pv n τ H->J.stop n H)
  (hs:∀i τ H x H',i<n->Pv i τ H->J.yld i H x H'->g x τ H' λτ2 H2=>tc τ2 H2 λb H3=>if b=true then te τ2 H3 λv H4=>∃ys,H4 D=some (.lst ys)/\ys.length<sizeLine/\Pv (i+1) τ2 (upd H4 D (.lst (ys++[v]))) else Pv (i+1) τ2 H3)
  (hd:∀τ H,Pv n τ H->R H):Dd J D g tc te R τ H:=by
 refine ⟨λi m τ H=>m=n-i/\i<=n/\Pv i τ H,⟨n,by simp,A8 _,h0⟩,?_⟩;rintro i m τ H ⟨rfl,hi,p⟩;by_cases hlt:i<n
 ·exact .inr ⟨hgo i τ H hlt p,Pv (i+1),λτ' H' p'=>⟨n-(i+1),by lia,rfl,hlt,p'⟩,λx H' y=>hs i τ H x H' hlt p y⟩
 ·have e:i=n:=by lia
  subst e;exact .inl ⟨hstop τ H p,hd τ H p⟩
section
variable{prog:AK}{w:AR}{A:B6}{E:Au->AA->Prop}{s:AA}
theorem Mp{l:Addr}{vs:List Au}{Q:List Au->AA->Prop}(hl:s.heap.IsTuple l vs.toArray)
  (h:Q vs {s with heap:=(s.heap.push (EC "list" #[] 0)).update s.heap.objs.size (DV (·++vs.toArray))}) (hsz:vs.length<=sizeLine:=by size_fits) :
  wpAny (AM prog w) A (O8 (.ref l)) Q E s:=by
 obtain ⟨o,ho,hc,n,hd⟩:=id hl;unfold O8;refine Ap (MG (EW entry_proto_collect' ?_));show wpAny _ _ (do again (.builtin "list.__iadd__" ⟨[<- Sm [],.ref l],[]⟩)) _ _ s;refine Ap (No (wpAny_pure ⟨RR _ (by decide +kernel),EW entry_list_iadd' ?_⟩));show wpAny _ _ (EN (.ref s.heap.objs.size) (.ref l) (.ref s.heap.objs.size)) _ _ {s with heap:=s.heap.push (EC "list" #[] 0)};unfold EN;have ho':(s.heap.push (EC "list" #[] 0)).get? l=some o:=AH _ ho;refine Ap (KU (T:="tuple") ⟨o,ho',hc⟩ ?_);have ht:(DU "tuple" == DU "tuple")=true:=by rfl
 rw[if_pos (by rw[ht];simp)];refine Ap (N8 ho' hd ?_);refine Ap (N8 (xs:=#[]) (n:=0) (AU _ rfl) rfl ?_);rw[if_neg (by simp)];refine Ap (Nw (xs:=#[]) (n:=0) (AU _ rfl) rfl ?_ (A8 _) (by show (#[]++vs.toArray).size<=sizeLine+1;simp only[Array.size_append,AZ,F9];lia));refine wpAny_pure ?_;show wpAny (AM prog w) A (do
   let o <- load s.heap.objs.size
   match o.data with
   | .seq xs _=>pure xs.toList
   | _=>unsupported "internal:collect") Q E {s with heap:=(s.heap.push (EC "list" #[] 0)).update s.heap.objs.size (DV (·++vs.toArray))}
 refine Ap (PQ (get?_update_seq (AU _ rfl) _) ?_);show wpAny _ _ (pure ((#[]:Array Au)++vs.toArray).toList) Q E _;rw[show ((#[]:Array Au)++vs.toArray).toList=vs by simp];exact wpAny_pure h
theorem RJ{l:Addr}{vs:List Au}{ns:List Int}{Q:Au->AA->Prop}(hl:s.heap.IsTuple l vs.toArray)(hI:FS vs ns)(h64:vs.length<64)
  (h:∀(out:Array Au) (ns':List Int),FS out.toList ns'->ns'.Perm ns->ns'.Pairwise (·<=·)->Q (.ref (s.heap.objs.size+1)) {s with heap:=sortedAll s.heap vs out}) :
  wpAny (AM prog w) A (call (.builtin "sorted") [.ref l]) Q E s:=by
 refine KG kind_sorted plain_sorted entry_sorted (args_sorted1 _) ?_;unfold Tk;refine Ap (m:=checkCount "sorted" 1 1 _) (wpAny_pure ?_);refine Ap (Mp hl ?_ (by
                       have:(64:Nat)<=sizeLine:=by decide
                       lia))
 refine Ap (No ?_);have hsz:((s.heap.push (EC "list" #[] 0)).update s.heap.objs.size (DV (·++vs.toArray))).objs.size=s.heap.objs.size+1:=by
  rw[Heap.size_update,size_push']
 have hoL:(((s.heap.push (EC "list" #[] 0)).update s.heap.objs.size (DV (·++vs.toArray))).push (EC "list" vs.toArray 0)).get? (s.heap.objs.size+1)=some (EC "list" vs.toArray 0):=by
  rw[<- hsz];exact AU _ rfl
 show wpAny _ _ _ _ _ {s with heap:=((s.heap.push (EC "list" #[] 0)).update s.heap.objs.size (DV (·++vs.toArray))).push (EC "list" vs.toArray 0)};rw[hsz];refine Ap (D0 (DI UY ⟨_,hoL,rfl⟩ T8 (list_sort_tree hoL hI h64 λout ns' a1 a2 a3=>⟨_,rfl,?_⟩) (UZ _)));exact wpAny_pure ⟨_,rfl,h out ns' a1 a2 a3⟩
end
section
variable{X:Cx}
def AEc(K:As):List V->Hp->VK->Prop:=λxs H Q=>∃(p:Addr) (ns:List Int),xs=[.ref p]/\(SqL K H p (ns.map V.int)\/SqT K H p (ns.map V.int))/\ns.length<64/\∀(l:Addr) (ms:List Int),H l=none->ms.Perm ns->ms.Pairwise (·<=·)->Q (.ref l) (upd H l (.lst (ms.map V.int)))
theorem Hl:∀{us:List Au}{ns:List Int},FS us ns->Vals (ns.map V.int) us
 | _,_,.nil=>.nil
 | _,_,.cons n t r=>.cons ⟨t,rfl⟩ (Hl r)
theorem JR:CallR X (.builtin "sorted") (AEc X.K):=by
 intro pins s σ H xs us Q I r h;obtain ⟨p,ns,rfl,hq,h64,q⟩:=h;obtain ⟨u,rfl,ru⟩:=r.one;cases ru;have fin:∀(its:List Au) (out:Array Au) (ms:List Int),FS out.toList ms->ms.Perm ns->ms.Pairwise (·<=·)->EP X pins σ Q (.ref (s.heap.objs.size+1)) {s with heap:=sortedAll s.heap its out}:=λits out ms a1 a2 a3=>by
  obtain ⟨e,he⟩:=sortedAll_at s.heap its out;have hn:H (s.heap.objs.size+1)=none:=I.hok.fresh (LI _);have hv:=Hl a1;have hms:ms.length=ns.length:=a2.length_eq;refine ⟨.ref (s.heap.objs.size+1),_,I.laid (a:=s.heap.objs.size+1) (o:=.lst (ms.map V.int)) (t':=s.toks) (λb o=>sortedAll_old) (LI _) ⟨?_,out.toList,e,hv,?_⟩,rfl,q _ ms hn a2 a3⟩
  ·rw[AB,hms]
   exact BM (DC h64) (by decide)
  ·rw[P4]
   exact he
 rcases hq with hq | hq
 ·obtain ⟨its,rv,pl,hz⟩:=I.list hq
  have hl:=rv.length;rw[AB] at hl;exact sorted_ints pl.isList (intsAre_of rv) (by lia) λout ms a1 a2 a3=>fin its out ms a1 a2 a3
 ·obtain ⟨its,rv,pl,hz⟩:=I.tuple hq
  have hl:=rv.length;rw[AB] at hl;exact RJ pl (intsAre_of rv) (by lia) λout ms a1 a2 a3=>fin its out ms a1 a2 a3
end
abbrev Rep(α:Type):=Hp->α->V->Prop
def rInt:Rep Int:=λ_ i v=>v=.int i
def rTup(K:As){α:Type}(R:Rep α):Rep (List α):=λH as v=>∃p xs,v=.ref p/\SqT K H p xs/\A9 (R H) as xs
def rLst(K:As){α:Type}(R:Rep α):Rep (List α):=λH as v=>∃p xs,v=.ref p/\SqL K H p xs/\A9 (R H) as xs
theorem Paired.get{α β:Type}{F:α->β->Prop}:∀{l₁:List α}{l₂:List β}{i:Nat}{b:β},A9 F l₁ l₂->l₂[i]?=some b->∃a,l₁[i]?=some a/\F a b
 | _,_,_,_,.nil,e=>by simp at e
 | _,_,0,_,.cons r _,e=>by simp at e;subst e;exact ⟨_,rfl,r⟩
 | _,_,i+1,b,.cons _ t,e=>by
  obtain ⟨a,h1,h2⟩:=Paired.get (i:=i) (b:=b) t (by simpa using e);exact ⟨a,by simpa using h1,h2⟩
theorem Paired.getL{α β:Type}{F:α->β->Prop}:∀{l₁:List α}{l₂:List β}{i:Nat}{a:α},A9 F l₁ l₂->l₁[i]?=some a->∃b,l₂[i]?=some b/\F a b
 | _,_,_,_,.nil,e=>by simp at e
 | _,_,0,_,.cons r _,e=>by simp at e;subst e;exact ⟨_,rfl,r⟩
 | _,_,i+1,a,.cons _ t,e=>by
  obtain ⟨b,h1,h2⟩:=Paired.getL (i:=i) (a:=a) t (by simpa using e);exact ⟨b,by simpa using h1,h2⟩
theorem Paired.app{α β:Type}{F:α->β->Prop}:∀{l₁ m₁:List α}{l₂ m₂:List β},A9 F l₁ l₂->A9 F m₁ m₂->A9 F (l₁++m₁) (l₂++m₂)
 | _,_,_,_,.nil,s=>s
 | _,_,_,_,.cons r t,s=>.cons r (Paired.app t s)
theorem Paired.one{α β:Type}{F:α->β->Prop}{a:α}{b:β}(h:F a b):A9 F [a] [b]:=.cons h .nil
theorem Paired.uniq{α β:Type}{F:α->β->Prop}(fn:∀a a' b,F a b->F a' b->a=a'):∀{l₁ l₁':List α}{l₂:List β},A9 F l₁ l₂->A9 F l₁' l₂->l₁=l₁'
 | _,_,_,.nil,.nil=>rfl
 | _,_,_,.cons r t,.cons r' t'=>by rw[fn _ _ _ r r',Paired.uniq fn t t']
theorem paired_ints{H:Hp}:∀(ns:List Int),A9 (rInt H) ns (ns.map V.int)
 | []=>.nil
 | _::r=>.cons rfl (paired_ints r)
theorem Eo{H:Hp}:∀{ns:List Int}{xs:List V},A9 (rInt H) ns xs->xs=ns.map V.int
 | _,_,.nil=>rfl
 | _,_,.cons r t=>by rw[Cb,<- Eo t];exact congrArg (·::_) r
structure Dat(X:Cx){α:Type}[DecidableEq α](n:Nat)(R:Rep α):Prop where
 eq:∀(pins:List (Addr×Obj)) (s:AA) (σ:St) (H:Hp) (A:B6) (a b:α) (x y:V) (u v:Au),Inv X pins σ H s->A.units+n<CO->R H a x->R H b y->RelV x u->RelV y v->L6 A s u v (decide (a=b))
 fn:∀(pins:List (Addr×Obj)) (s:AA) (σ:St) (H:Hp) (a b:α) (x:V),Inv X pins σ H s->R H a x->R H b x->a=b
section
variable{X:Cx}{α:Type}[DecidableEq α]{n:Nat}{R:Rep α}
theorem Dy:Dat X 0 rInt where
 eq:=λpins s σ H A a b x y u v I hu ha hb ru rv=>by
  cases ha;cases hb;obtain ⟨t,rfl⟩:=ru;obtain ⟨t',rfl⟩:=rv;have e:=MZ (A:=A) (s:=s) a t b t';rw[Bool.beq_eq_decide_eq] at e;exact e
 fn:=λpins s σ H a b x I ha hb=>by
  cases ha;exact (V.int.inj hb)
theorem Gy{as bs:List α}{m k:Nat}(h1:as.length=m)(h2:bs.length=k):((AI (min m k)).all (λj=>decide (as[j]?=bs[j]?))&&m==k)=decide (as=bs):=by
 subst h1;subst h2;by_cases e:as=bs
 ·subst e
  simp
 ·rw[decide_eq_false e]
  cases q:((AI (min as.length bs.length)).all (λj=>decide (as[j]?=bs[j]?))&&as.length==bs.length) with
  | false=>rfl
  | true =>
   rw[DJ] at q;obtain ⟨q1,q2⟩:=q;have hl:as.length=bs.length:=by simpa using q2
   refine absurd (EV λj=>?_) e;by_cases hj:j<as.length
   ·exact of_decide_eq_true (FL.mp q1 j (AS.mpr (by lia)))
   ·rw[Ee (by lia),Ee (by lia)]
theorem Tg{as bs:List α}{m:Nat}(h1:as.length=m)(h2:bs.length=m):((AI m).all (λj=>decide (as[j]?=bs[j]?)))=decide (as=bs):=by
 have e:=Gy h1 h2;rw[Nat.min_self,beq_self_eq_true,Bool.and_true] at e;exact e
theorem Dat.place(D:Dat X n R){pins:List (Addr×Obj)}{s:AA}{σ:St}{H:Hp}{A:B6}(I:Inv X pins σ H s)(hu:A.units+n<CO){as bs:List α}{xs ys:List V}{its jts:List Au}
  (pa:A9 (R H) as xs) (pb:A9 (R H) bs ys) (ra:Vals xs its) (rb:Vals ys jts):∀(j:Nat) (h1:j<its.toArray.size) (h2:j<jts.toArray.size),L6 A s its.toArray[j] jts.toArray[j] (decide (as[j]?=bs[j]?)):=by
 intro j h1 h2;rw[AZ] at h1 h2;have hx:j<xs.length:=by rw[ra.length];exact h1
 have hy:j<ys.length:=by rw[rb.length];exact h2
 have ex:xs[j]?=some xs[j]:=AJ hx;have ey:ys[j]?=some ys[j]:=AJ hy;obtain ⟨u,hu1,ru⟩:=ra.get ex;obtain ⟨v,hv1,rv⟩:=rb.get ey;obtain ⟨a,ha,qa⟩:=Paired.get pa ex;obtain ⟨b,hb,qb⟩:=Paired.get pb ey;have e1:its.toArray[j]=u:=by
  rw[P5];rw[AJ h1] at hu1;exact BH hu1
 have e2:jts.toArray[j]=v:=by
  rw[P5];rw[AJ h2] at hv1;exact BH hv1
 rw[e1,e2,ha,hb];have e3:decide (some a=some b)=decide (a=b):=by simp
 rw[e3];exact D.eq pins s σ H A a b _ _ u v I hu qa qb ru rv
theorem Gj(D:Dat X n R):Dat X (n+1) (rTup X.K R) where
 eq:=λpins s σ H A as bs x y u v I hu ha hb ru rv=>by
  obtain ⟨p,xs,rfl,hp,pa⟩:=ha;obtain ⟨q,ys,rfl,hq,pb⟩:=hb;cases ru;cases rv;by_cases e:p=q
  ·subst e
   have exy:=I.tuple_inj hp hq;subst exy;have eab:as=bs:=Paired.uniq (λa a' b h1 h2=>D.fn pins s σ H a a' b I h1 h2) pa pb;subst eab;rw[decide_eq_true rfl];exact OH _
  ·obtain ⟨its,ra,ta,_⟩:=I.tuple hp
   obtain ⟨jts,rb,tb,_⟩:=I.tuple hq;have l1:as.length=its.toArray.size:=by rw[AZ,<- ra.length];exact AQ pa
   have l2:bs.length=jts.toArray.size:=by rw[AZ,<- rb.length];exact AQ pb
   have r:=SeqAt.RcAt.tuples (A:=A) (s:=s) (e:=λj=>decide (as[j]?=bs[j]?)) ta tb (by lia) (D.place (A:=A.in1) I (by show A.units+1+n<CO;lia) pa pb ra rb);rw[Gy l1 l2] at r;exact .of_refs e r
 fn:=λpins s σ H as bs x I ha hb=>by
  obtain ⟨p,xs,rfl,hp,pa⟩:=ha;obtain ⟨q,ys,e,hq,pb⟩:=hb;cases e;have exy:=I.tuple_inj hp hq;subst exy;exact Paired.uniq (λa a' b h1 h2=>D.fn pins s σ H a a' b I h1 h2) pa pb
theorem ABX(D:Dat X n R){pins:List (Addr×Obj)}{s:AA}{σ:St}{H:Hp}{A:B6}(I:Inv X pins σ H s)(hu:A.units+(n+1)<CO){p q:Addr}{as bs:List α}{xs ys:List V}
  (hp:SqL X.K H p xs) (hq:SqL X.K H q ys) (pa:A9 (R H) as xs) (pb:A9 (R H) bs ys):SeqAt.RcAt A s (.ref p) (.ref q) (decide (as=bs))/\SeqAt.RcNeAt A s (.ref p) (.ref q) (!decide (as=bs)):=by
 obtain ⟨its,ra,ta,_⟩:=I.list hp;obtain ⟨jts,rb,tb,_⟩:=I.list hq;have l1:as.length=its.toArray.size:=by rw[AZ,<- ra.length];exact AQ pa
 have l2:bs.length=jts.toArray.size:=by rw[AZ,<- rb.length];exact AQ pb
 by_cases hs:its.toArray.size=jts.toArray.size
 ·have r:=SeqAt.RcAt.lists (A:=A) (s:=s) (e:=λj=>decide (as[j]?=bs[j]?)) ta.isList tb.isList hs (by lia) (D.place (A:=A.in1) I (by show A.units+1+n<CO;lia) pa pb ra rb)
  have r':=YR (A:=A) (s:=s) (e:=λj=>decide (as[j]?=bs[j]?)) ta.isList tb.isList hs (by lia) (D.place (A:=A.in1) I (by show A.units+1+n<CO;lia) pa pb ra rb);rw[Tg l1 (l2.trans hs.symm)] at r r';exact ⟨r,r'⟩
 ·have hb:(its.toArray.size != jts.toArray.size)=true:=by simpa using hs
  have e:as≠bs:=λe=>hs (by rw[<- l1,<- l2,e]);rw[decide_eq_false e];exact ⟨SeqAt.RcAt.lists_lengths ta.isList tb.isList hb (by lia),VS ta.isList tb.isList hb (by lia)⟩
def rEqL(K:As){α:Type}[DecidableEq α](R:Rep α):R2:=λx y H Q=>∃as bs,rLst K R H as x/\rLst K R H bs y/\Q (.bl (decide (as=bs))) H
theorem Iv(D:Dat X n R)(hu:X.A.units+(n+1)<CO):OpR X (DZ .Eq) (rEqL X.K R):=by
 intro pins s σ H x y v u Q I rx ry h;obtain ⟨as,bs,⟨p,xs,rfl,hp,pa⟩,⟨q,ys,rfl,hq,pb⟩,h⟩:=h;cases rx;cases ry;exact (ABX D I hu hp hq pa pb).1 X.prog X.w _ _ ⟨.bl _,H,I,rfl,h⟩
open Classical in
noncomputable def isDat(R:Rep α)(H:Hp)(a:α)(u:Au):Bool:=decide (∃z,RelV z u/\R H a z)
theorem Ub(D:Dat X n R){pins:List (Addr×Obj)}{s:AA}{σ:St}{H:Hp}(I:Inv X pins σ H s){a b:α}{z:V}{u:Au}(rz:RelV z u)(hb:R H b z):isDat R H a u=decide (b=a):=by
 unfold isDat;by_cases e:b=a
 ·subst e
  rw[decide_eq_true rfl];exact @decide_eq_true _ (DB _) ⟨z,rz,hb⟩
 ·rw[decide_eq_false e]
  refine @decide_eq_false _ (DB _) ?_;rintro⟨z',rz',h'⟩;have ez:z'=z:=rz'.inj rz;subst ez;exact e (D.fn pins s σ H b a z' I hb h')
set_option tactic.hygienic true in
theorem Ht(D:Dat X n R){pins:List (Addr×Obj)}{s:AA}{σ:St}{H:Hp}(I:Inv X pins σ H s){a:α}:∀{as:List α}{xs:List V}{its:List Au},A9 (R H) as xs->Vals xs its->its.any (isDat R H a)=decide (a∈as)
 | _,_,_,.nil,.nil=>by simp
 | _,_,_,.cons (l₁:=as) r t,.cons rv tv=>by
  rw[Jn,Ub D I rv r,Ht D I t tv]
  rename_i b _ _ _ _
  by_cases e:b=a
  ·subst e;simp
  ·have e':¬ a=b:=λz=>e z.symm
   simp[e,e']
theorem HW(D:Dat X n R){pins:List (Addr×Obj)}{s:AA}{σ:St}{H:Hp}{A:B6}(I:Inv X pins σ H s)(hu:A.units+n<CO){a:α}{x:V}{v:Au}(rx:RelV x v)(ha:R H a x) :
  ∀{as:List α}{xs:List V}{its:List Au},A9 (R H) as xs->Vals xs its->∀u∈its,L6 A s u v (isDat R H a u)
 | _,_,_,.nil,.nil=>λu hm=>by cases hm
 | _,_,_,.cons r t,.cons rv tv=>λu hm=>by
  rcases Be.mp hm with rfl | hm
  ·rw[Ub D I rv r]
   exact D.eq pins s σ H A _ a _ x _ v I hu r ha rv rx
  ·exact HW D I hu rx ha t tv u hm
def rInL(K:As){α:Type}[DecidableEq α](R:Rep α)(neg:Bool):R2:=λx y H Q=>∃a as,R H a x/\(rLst K R H as y\/rTup K R H as y)/\Q (.bl (if neg then !decide (a∈as) else decide (a∈as))) H
theorem AFS(D:Dat X n R)(hu:X.A.units+(n+1)<CO):OpR X (DZ .In) (rInL X.K R false):=by
 intro pins s σ H x y v u Q I rx ry h;obtain ⟨a,as,ha,hs,h⟩:=h;have hu1:X.A.in1.units+n<CO:=by show X.A.units+1+n<CO;lia
 rcases hs with⟨p,xs,rfl,hp,pa⟩ | ⟨p,xs,rfl,hp,pa⟩
 ·cases ry
  obtain ⟨its,r,pl,_⟩:=I.list hp;refine TZ (isDat R H a) pl.isList (λw hw=>HW D I hu1 rx ha pa r w (by simpa using hw)) ⟨.bl _,H,I,rfl,?_⟩;rw[show its.toArray.any (isDat R H a)=its.any (isDat R H a) by simp,Ht D I pa r];exact h
 ·cases ry
  obtain ⟨its,r,pl,_⟩:=I.tuple hp;refine Ta (isDat R H a) pl (λw hw=>HW D I hu1 rx ha pa r w (by simpa using hw)) ⟨.bl _,H,I,rfl,?_⟩;rw[show its.toArray.any (isDat R H a)=its.any (isDat R H a) by simp,Ht D I pa r];exact h
theorem ZG(D:Dat X n R)(hu:X.A.units+(n+1)<CO):OpR X (DZ .NotIn) (rInL X.K R true):=by
 intro pins s σ H x y v u Q I rx ry h;obtain ⟨a,as,ha,hs,h⟩:=h;have hu1:X.A.in1.units+n<CO:=by show X.A.units+1+n<CO;lia
 rcases hs with⟨p,xs,rfl,hp,pa⟩ | ⟨p,xs,rfl,hp,pa⟩
 ·cases ry
  obtain ⟨its,r,pl,_⟩:=I.list hp;refine RI (isDat R H a) pl.isList (λw hw=>HW D I hu1 rx ha pa r w (by simpa using hw)) ⟨.bl _,H,I,rfl,?_⟩;rw[show its.toArray.any (isDat R H a)=its.any (isDat R H a) by simp,Ht D I pa r];exact h
 ·cases ry
  obtain ⟨its,r,pl,_⟩:=I.tuple hp;refine Q3 (isDat R H a) pl (λw hw=>HW D I hu1 rx ha pa r w (by simpa using hw)) ⟨.bl _,H,I,rfl,?_⟩;rw[show its.toArray.any (isDat R H a)=its.any (isDat R H a) by simp,Ht D I pa r];exact h
end
def TSm(H H':Hp):Prop:=∀b u,H b=some u->(∃xs,u=.tup xs\/∃o,u=.frz o (.tup xs))->H' b=some u
theorem TSm.trans{H H1 H2:Hp}(a:TSm H H1)(b:TSm H1 H2):TSm H H2:=λc u h t=>b c u (a c u h t) t
theorem Same.ts{H H':Hp}(e:Same H H'):TSm H H':=λb u h _=>e b u h
theorem TSm.lst{H:Hp}{l:Addr}{xs:List V}{o:HO}(h:H l=some (.lst xs)):TSm H (upd H l o):=λb u hb t=>by
 rw[Af ?_]
 ·exact hb
 ·rintro rfl
  rw[h] at hb;cases hb;obtain ⟨ys,e | ⟨o,e⟩⟩:=t
  ·cases e
  ·cases e
theorem TSm.new{H:Hp}{p:Addr}{o:HO}(h:H p=none):TSm H (upd H p o):=λb u hb _=>by rw[Af (Ae hb h)];exact hb
theorem TSm.seq{K:As}{H H':Hp}{a:Addr}{xs:List V}(e:TSm H H')(h:SqT K H a xs):SqT K H' a xs:=by
 rcases h with (h | ⟨o,h⟩) | h
 ·exact .inl (.inl (e _ _ h ⟨xs,.inl rfl⟩))
 ·exact .inl (.inr ⟨o,e _ _ h ⟨xs,.inr ⟨o,rfl⟩⟩⟩)
 ·exact .inr h
theorem Paired.imp{α β:Type}{F G:α->β->Prop}(f:∀a b,F a b->G a b):∀{l₁:List α}{l₂:List β},A9 F l₁ l₂->A9 G l₁ l₂
 | _,_,.nil=>.nil
 | _,_,.cons r t=>.cons (f _ _ r) (Paired.imp f t)
def TRep{α:Type}(R:Rep α):Prop:=∀H H' a x,TSm H H'->R H a x->R H' a x
theorem Am:TRep rInt:=λ_ _ _ _ _ h=>h
theorem Ak{K:As}{α:Type}{R:Rep α}(t:TRep R):TRep (rTup K R):=λH H' as x e h=>by
 obtain ⟨p,xs,rfl,hp,pa⟩:=h;exact ⟨p,xs,rfl,e.seq hp,Paired.imp (λa b=>t H H' a b e) pa⟩
theorem Gh{K:As}{α:Type}{R:Rep α}(t:TRep R){H H':Hp}{as:List α}{x:V}(e:Same H H')(h:rLst K R H as x):rLst K R H' as x:=by
 obtain ⟨p,xs,rfl,hp,pa⟩:=h;exact ⟨p,xs,rfl,e.seq hp,Paired.imp (λa b=>t H H' a b e.ts) pa⟩
theorem Same.new{H:Hp}{p:Addr}(h:H p=none)(o:HO):Same H (upd H p o):=λb u q=>by rw[Af (Ae q h)];exact q
abbrev rPair(K:As):Rep (List Int):=rTup K rInt
theorem Cj{K:As}{H:Hp}{p:Addr}{ns:List Int}(h:H p=some (.tup (ns.map V.int))):rPair K H ns (.ref p):=⟨p,_,rfl,SqT.of h,paired_ints ns⟩
theorem Bq{K:As}{H:Hp}{ns:List Int}{x:V}(h:rPair K H ns x):∃p,x=.ref p/\SqT K H p (ns.map V.int):=by
 obtain ⟨p,xs,rfl,hp,pa⟩:=h;rw[Eo pa] at hp;exact ⟨p,rfl,hp⟩
def rSeq(K:As):Rep (List Int):=λH t x=>rLst K rInt H t x\/rPair K H t x
theorem Tt{K:As}{H:Hp}{ns:List Int}{x:V}(h:rSeq K H ns x):∃p,x=.ref p/\(SqL K H p (ns.map V.int)\/SqT K H p (ns.map V.int)):=by
 rcases h with⟨p,xs,rfl,hp,pa⟩ | h
 ·rw[Eo pa] at hp
  exact ⟨p,rfl,.inl hp⟩
 ·obtain ⟨p,e,hp⟩:=Bq h
  exact ⟨p,e,.inr hp⟩
section
variable{K:As}{a D:Addr}{xs:List V}{g:TG}{tc:TT}{te:TE}{R:Hp->Prop}{τ:St}{H:Hp}
abbrev putD(D:Addr)(N:St->Hp->Prop)(te:TE)(τ2:St):Bool->Hp->Prop:=λb H3=>if b=true then te τ2 H3 λv H4=>∃ys,H4 D=some (.lst ys)/\ys.length<sizeLine/\N τ2 (upd H4 D (.lst (ys++[v]))) else N τ2 H3
theorem yesD{N:St->Hp->Prop}(h:te τ H λv H4=>∃ys,H4 D=some (.lst ys)/\ys.length<sizeLine/\N τ (upd H4 D (.lst (ys++[v])))):AFt τ H (putD D N te τ):=by
 show putD D N te τ true H;unfold putD;rw[if_pos rfl];exact h
theorem yesN{N:St->Hp->Prop}{i:Nat}{x:V}(h:te (τ.set i (some x)) H λv H4=>∃ys,H4 D=some (.lst ys)/\ys.length<sizeLine/\N (τ.set i (some x)) (upd H4 D (.lst (ys++[v])))):gName i x τ H λτ2 H2=>AFt τ2 H2 (putD D N te τ2):=yesD h
theorem Bl(Pv:Nat->St->Hp->Prop)(h0:Pv 0 τ H)(hl:∀i τ H,i<=xs.length->Pv i τ H->SqL K H a xs)
  (hs:∀i x τ H,xs[i]?=some x->Pv i τ H->g x τ H λτ2 H2=>tc τ2 H2 (putD D (Pv (i+1)) te τ2)) (hd:∀τ H,Pv xs.length τ H->R H):Dd (Itl K a) D g tc te R τ H:=by
 refine Hj xs.length Pv h0 (λi τ H hi p=>⟨xs,xs[i],hl i τ H (DC hi) p,by simp[hi]⟩) (λτ H p=>⟨xs,hl _ τ H (AE _) p,AE _⟩) (λi τ H x H' hi p y=>?_) hd;obtain ⟨e,y⟩:=y;subst e;exact hs i x τ _ (y xs (hl i τ _ (DC hi) p)) p
theorem JD(Pv:Nat->St->Hp->Prop)(h0:Pv 0 τ H)(hl:∀i τ H,i<=xs.length->Pv i τ H->SqT K H a xs)
  (hs:∀i x τ H,xs[i]?=some x->Pv i τ H->g x τ H λτ2 H2=>tc τ2 H2 (putD D (Pv (i+1)) te τ2)) (hd:∀τ H,Pv xs.length τ H->R H):Dd (Itt K a) D g tc te R τ H:=by
 refine Hj xs.length Pv h0 (λi τ H hi p=>⟨xs,xs[i],hl i τ H (DC hi) p,by simp[hi]⟩) (λτ H p=>⟨xs,hl _ τ H (AE _) p,AE _⟩) (λi τ H x H' hi p y=>?_) hd;obtain ⟨e,y⟩:=y;subst e;exact hs i x τ _ (y xs (hl i τ _ (DC hi) p)) p
theorem Dq{lo:Int}{n:Nat}(Pv:Nat->St->Hp->Prop)(h0:Pv 0 τ H)
  (hs:∀i τ H,i<n->Pv i τ H->g (.int (lo+i)) τ H λτ2 H2=>tc τ2 H2 (putD D (Pv (i+1)) te τ2)) (hd:∀τ H,Pv n τ H->R H):Dd (Itr lo n) D g tc te R τ H:=by
 refine Hj n Pv h0 (λi τ H hi p=>hi) (λτ H p=>AE _) (λi τ H x H' hi p y=>?_) hd;obtain ⟨e,y⟩:=y;subst e y;exact hs i τ _ hi p
theorem Gz{S:Hp->List V->Prop}(Pv:Nat->St->Hp->Prop)(h0:Pv 0 τ H)(hl:∀i τ H,i<=xs.length->Pv i τ H->S H xs)
  (hs:∀i x τ H T,xs[i]?=some x->H T=none->Pv i τ H->g (.ref T) τ (upd H T (.tup [.int i,x])) λτ2 H2=>tc τ2 H2 (putD D (Pv (i+1)) te τ2)) (hd:∀τ H,Pv xs.length τ H->R H):Dd (Ien S) D g tc te R τ H:=by
 refine Hj xs.length Pv h0 (λi τ H hi p=>⟨xs,xs[i],hl i τ H (DC hi) p,by simp[hi]⟩) (λτ H p=>⟨xs,hl _ τ H (AE _) p,rfl⟩) (λi τ H x H' hi p y=>?_) hd;obtain ⟨T,z,rfl,hT,rfl,y⟩:=y;exact hs i z τ H T (y xs (hl i τ _ (DC hi) p)) hT p
end
theorem Cg{A:B6}{k n:Nat}(hr:Room k A)(h:n<=64:=by decide):A.units+n<CO:=E7 (Nat.add_le_add_left h _) hr.units
section
variable{X:Cx}{K:As}{pos:Pos}
theorem Fl(hK:X.K=K){es:List Expr}{k:Nat}{t:TGs}{n:Nat}(hc:X.calm=true)(h:PGs X es t)
  (hn:(J8 es X.env).length=n:=by rfl) (hst:(J8 es X.env).findIdx? (·.1)=none:=by rfl):PG X (.Tuple es k pos) (gTup K n t):=by subst hK;exact AFe hc h hn hst
theorem Ei(hK:X.K=K):OpR X (DZ .In) (rIn K false):=by subst hK;exact Nk
theorem Ma(hK:X.K=K):OpR X (DZ .NotIn) (rIn K true):=by subst hK;exact Qk
theorem ABQ(hK:X.K=K):IxR X (rIxL K):=by subst hK;exact Bk
theorem Qf(hK:X.K=K):IxR X (rIxT K):=by subst hK;exact Bj
end
theorem Ef(x:Int):∀(tie:List Int),inV (.int x) (tie.map V.int)=decide (x∈tie)
 | []=>rfl
 | z::r=>by
  have ih:=Ef x r;unfold inV at ih ⊢;rw[Cb,Jn,ih];show ((z==x)||decide (x∈r))=decide (x∈z::r);by_cases e:z=x
  ·subst e;simp
  ·have e':¬ x=z:=λq=>e q.symm
   simp[e,e']
theorem iteNN{c A B:Prop}{inst:Decidable c}(hc:¬ c)(h:A):if (!decide c)=true then A else B:=by
 rw[decide_eq_false hc];exact iteT h
theorem iteNP{c A B:Prop}{inst:Decidable c}(hc:c)(h:B):if (!decide c)=true then A else B:=by
 rw[decide_eq_true hc];exact iteF h
theorem iteN{c A B:Prop}{inst:Decidable c}(hc:¬ c)(h:B):if decide c=true then A else B:=by
 rw[decide_eq_false hc];exact iteF h
theorem iteP{c A B:Prop}{inst:Decidable c}(hc:c)(h:A):if decide c=true then A else B:=by
 rw[decide_eq_true hc];exact iteT h
theorem ABv{ns:List Int}{k:Int}(h0:0<=k)(h:k<(ns.length:Int)):∃v:Int,atI (ns.map V.int) k=some (.int v):=by
 have hk:k.toNat<ns.length:=by lia
 have ek:k=((k.toNat:Nat):Int):=by lia
 have q:atI (ns.map V.int) ((k.toNat:Nat):Int)=some (.int ns[k.toNat]):=Bm (by rw[A2,AJ hk]<;>rfl);rw[<- ek] at q;exact ⟨_,q⟩
theorem small{n:Nat}(h:n<=1000):n<=sizeLine:=DC (Ar h)
def srt:List Int->List Int
 | [a,b]=>if b<a then [b,a] else [a,b]
 | t=>t
theorem Dt(a b:Int):srt [a,b]=if b<a then [b,a] else [a,b]:=rfl
theorem Yl{a b:Int}{ms:List Int}(h:ms.Perm [a,b])(s:ms.Pairwise (·<=·)):ms=srt [a,b]:=by
 have hl:=h.length_eq
 match ms,hl,h,s with
 | [x,y],_,h,s =>
  have hxy:x<=y:=by simpa using s
  have hx:x∈[a,b]:=h.mem_iff.mp (by simp);have hy:y∈[a,b]:=h.mem_iff.mp (by simp);have ha:a∈[x,y]:=h.mem_iff.mpr (by simp);have hb:b∈[x,y]:=h.mem_iff.mpr (by simp);simp only[Be,LU,or_false] at hx hy ha hb;rw[Dt];split
  ·have e1:x=b:=by lia
   have e2:y=a:=by lia
   rw[e1,e2]
  ·have e1:x=a:=by lia
   have e2:y=b:=by lia
   rw[e1,e2]
def OkTie(m:Int)(t:List Int):Prop:=∃a b,t=[a,b]/\0<=a/\a<m/\0<=b/\b<m/\a≠b
structure OkTies(m:Int)(as:List (List Int)):Prop where
 ok:∀t∈as,OkTie m t
 nd:(as.map srt).Nodup
theorem OkTies.take_new{m:Int}{as:List (List Int)}{i:Nat}{t:List Int}(h:OkTies m as)(ht:as[i]?=some t):srt t∉(as.take i).map srt:=by
 intro hm;obtain ⟨u,hu,e⟩:=AY.mp hm;obtain ⟨j,hj,ej⟩:=C0.mp hu;have hji:j<i:=by rw[BQ] at hj;lia
 have hi:i<as.length:=(AL.mp ht).1;have et:as[i]=t:=(AL.mp ht).2;have eu:as[j]'(by lia)=u:=by rw[<- ej,J0]
 have hnd:=h.nd;have:=(S4 (h₀:=by rw[AB];lia) (h₁:=by rw[AB];lia) hnd (i:=j) (j:=i)).mp (by rw[Tl,Tl,et,eu,e]);lia
def BL(p:Int):Nat->List (List Int)->List Int
 | _,[]=>[]
 | k,t::r=>if p∈t then (k:Int)::BL p (k+1) r else BL p (k+1) r
theorem Mz(p:Int)(t:List Int):∀(k:Nat) (as:List (List Int)),BL p k (as++[t])=BL p k as++(if p∈t then [((k+as.length:Nat):Int)] else [])
 | k,[]=>by
  show (if p∈t then (k:Int)::BL p (k+1) [] else BL p (k+1) [])=_;split<;>simp[BL]
 | k,u::r=>by
  have ih:=Mz p t (k+1) r;have e:k+1+r.length=k+(u::r).length:=by simp;lia
  rw[e] at ih;show (if p∈u then (k:Int)::BL p (k+1) (r++[t]) else BL p (k+1) (r++[t]))=(if p∈u then (k:Int)::BL p (k+1) r else BL p (k+1) r)++_;rw[ih];split<;>rfl
abbrev hits(p:Int)(as:List (List Int)):List Int:=BL p 0 as
theorem PB{p:Int}{as:List (List Int)}{i:Nat}{t:List Int}(h:as[i]?=some t):hits p (as.take (i+1))=hits p (as.take i)++(if p∈t then [(i:Int)] else []):=by
 have hi:i<as.length:=(AL.mp h).1;have e:as.take (i+1)=as.take i++[t]:=by rw[DM,h];rfl
 rw[e,hits,Mz];have:0+(as.take i).length=i:=by rw[BQ];lia
 rw[this]
theorem Ls(p:Int):∀(k:Nat) (as:List (List Int)),(BL p k as).length<=as.length
 | _,[]=>AE _
 | k,t::r=>by
  have ih:=Ls p (k+1) r;show (if p∈t then (k:Int)::BL p (k+1) r else BL p (k+1) r).length<=r.length+1;split
  ·simp;exact ih
  ·lia
section
variable{X:Cx}{K:As}
theorem max_list(hc:X.calm=true):CallR X (.builtin "max") (λxs H Q=>∃(p:Addr) (ns:List Int),xs=[.ref p]/\SqL X.K H p (ns.map V.int)/\0<ns.length/\∀m,m∈ns->(∀a∈ns,a<=m)->Q (.int m) H):=by
 intro pins s σ H xs us Q I r h;obtain ⟨p,ns,rfl,hq,hne,q⟩:=h;obtain ⟨u0,rfl,ru⟩:=r.one;cases ru;obtain ⟨its,rv,pl,hz⟩:=I.list hq;have hi:=intsAre_of rv;have hl:=pl.isList;obtain ⟨ys,e⟩:=hi.allInts.items;have hns:ns=ys.toList.map (·.1):=by rw[<- hi.numsOf,<- nums_intItems,<- e]
 have hsz:0<ys.size:=by
  rw[hns,AB,AX] at hne;exact hne
 rw[e] at hl;refine max_intList (I.ok.hd hc) hl hsz λv h' tk hv hk=>?_;obtain ⟨t,rfl⟩:=intItems_at hv;obtain ⟨h1,h2⟩:=argBest_gt (P6 ys) (ys.size-1);refine ⟨.int (P6 ys (argBest (λi j=>decide (P6 ys i>P6 ys j)) (ys.size-1))),H,I.kept hk,⟨t,rfl⟩,q _ ?_ λa ha=>?_⟩
 ·rw[hns,To]
  exact getD_mem (by rw[AB,AX];lia)
 ·rw[hns] at ha
  obtain ⟨j,hj,rfl⟩:=mem_getD ha;rw[AB,AX] at hj;rw[<- To];exact h2 j (by lia)
end
def upTo(n:Nat)(f:Int->Bool):List Int:=((AI n).map λ(i:Nat)=>(i:Int)).filter f
theorem Pg(n:Nat)(f:Int->Bool):upTo (n+1) f=upTo n f++(if f n=true then [(n:Int)] else []):=by
 unfold upTo;rw[EX,BU,Cc,M4]
 congr 1
 rw[Da];split<;>rfl
theorem ACs(n:Nat)(f:Int->Bool):(upTo n f).length<=n:=by
 unfold upTo;refine BM (Cs _ _) ?_;simp
def lies(ns:List Int)(k:Int):Bool:=match ns with
 | []=>false
 | a::r=>decide (a<k)&&decide (k<=(a::r).getLast (by simp))
set_option tactic.hygienic true in
theorem IV{p x:Int}:∀{k:Nat}{as:List (List Int)},x∈BL p k as↔∃i:Nat,∃t,as[i]?=some t/\p∈t/\x=((k+i:Nat):Int)
 | k,[]=>by simp[BL]
 | k,u::r=>by
  have ih:=@IV p x (k+1) r;have e:BL p k (u::r)=if p∈u then (k:Int)::BL p (k+1) r else BL p (k+1) r:=rfl
  rw[e];constructor
  ·intro h
   split at h
   ·rename_i hu
    rcases Be.mp h with h | h
    ·exact ⟨0,u,rfl,hu,by simpa using h⟩
    ·obtain ⟨i,t,h1,h2,h3⟩:=ih.mp h
     exact ⟨i+1,t,by simpa using h1,h2,by rw[h3];congr 1;lia⟩
   ·obtain ⟨i,t,h1,h2,h3⟩:=ih.mp h
    exact ⟨i+1,t,by simpa using h1,h2,by rw[h3];congr 1;lia⟩
  ·rintro⟨i,t,h1,h2,h3⟩
   cases i with
   | zero =>
    have:u=t:=by simpa using h1
    subst this;rw[if_pos h2];exact Be.mpr (.inl (by simpa using h3))
   | succ i =>
    have hm:x∈BL p (k+1) r:=ih.mpr ⟨i,t,by simpa using h1,h2,by rw[h3];congr 1;lia⟩;split
    ·exact AG _ hm
    ·exact hm
theorem Il(p:Int):∀(k:Nat) (as:List (List Int)),(BL p k as).Pairwise (· < ·)
 | _,[]=>Lm
 | k,u::r=>by
  have ih:=Il p (k+1) r;have e:BL p k (u::r)=if p∈u then (k:Int)::BL p (k+1) r else BL p (k+1) r:=rfl
  rw[e];split
  ·refine RU (λx hx=>?_) ih
   obtain ⟨i,t,_,_,h3⟩:=IV.mp hx;rw[h3];lia
  ·exact ih
theorem Qs:∀{ns:List Int} (h:ns≠[]),ns.Pairwise (· < ·)->∀x∈ns,x<=ns.getLast h
 | [],h,_,_,_=>absurd rfl h
 | [a],_,_,x,hx=>by
  have:x=a:=by simpa using hx
  subst this;exact JS _
 | a::b::r,_,pw,x,hx=>by
  have h2:=Cf.mp pw;have e:(a::b::r).getLast (by simp)=(b::r).getLast (by simp):=by simp
  rw[e];have l:=Qs (ns:=b::r) (by simp) h2.2;rcases Be.mp hx with hx | hx
  ·subst hx
   have h3:=h2.1 b (by simp);have h4:=l b (by simp);lia
  ·exact l x hx
section
variable{X:Cx}{pins:List (Addr×Obj)}{σ:St}{H:Hp}{s:AA}{tg elt iter:Expr}{ifs:List Expr}{scope:F0}{pos:Pos}{own fr:List Str}{ix:List Nat}{g:TG}{tc:TT}{te:TE}{it:Addr}{fp:List Addr}
 {tn:Nat->Heap->Prop}{J:It}
end
end L2
end
section
namespace L2
def Cl(S:Int->Prop)(es:List (List Int)):Prop:=∀e∈es,∀x∈e,∀y∈e,S x->S y
def gh(h:List Int)(p:Int):Int:=h.getD p.toNat 0
abbrev below(n:Nat):List Int:=(AI n).map λ(i:Nat)=>(i:Int)
def under(n:Nat)(h:List Int)(x:Int):List Int:=upTo n λp=>decide (gh h p=x)
def usd(es:List (List Int))(fs:List Int):Nat:=(es.filter λe=>e.all λx=>decide (x∈fs)).length
def Pass(es:List (List Int))(f0:List Int)(j:Nat)(f:List Int):Prop :=
 (f=f0/\Cl (·∈f0) (es.take j))\/(usd es f0+1<=usd es f/\¬ Cl (·∈f0) es)
def pick(as:List (List Int))(ms:List Int):List (List Int):=ms.map λk=>as.getD k.toNat []
def sel(as:List (List Int))(ms:List Int):Nat->List (List Int)
 | 0=>[]
 | i+1=>sel as ms i++(if (i:Int)∈ms then [as.getD i []] else [])
end L2
end
section
namespace L2
open PySem PySem.Spec PyProof.Rows
theorem Ji:∀{xs:List V}{us:List Au},xs.length=us.length->(∀(i:Nat) (x:V) (u:Au),xs[i]?=some x->us[i]?=some u->RelV x u)->Vals xs us
 | [],[],_,_=>.nil
 | [],_::_,h,_=>by simp at h
 | _::_,[],h,_=>by simp at h
 | x::xs,u::us,h,f=>.cons (f 0 x u rfl rfl) (Ji (by simpa using h) λi y v h1 h2=>f (i+1) y v (by simpa using h1) (by simpa using h2))
section
variable{X:Cx}
theorem Fx:CallR X (.type "range") (λxs H Q=>∃j,xs=[.int j]/\∀r,H r=none->Q (.ref r) (upd H r (.rng 0 j))):=by
 intro pins s σ H xs us Q I r h;obtain ⟨j,rfl,q⟩:=h;obtain ⟨u,rfl,t,rfl⟩:=r.one;refine call_range_1 ?_;have hn:H s.heap.objs.size=none:=I.hok.fresh (AE _);exact ⟨.ref s.heap.objs.size,_,I.laid (a:=s.heap.objs.size) (o:=.rng 0 j) (λb u e=>AH _ e) (AE _) ⟨_,_,_,AU _ rfl⟩,rfl,q _ hn⟩
theorem Ml(hc:X.calm=true):CallR X (.type "list") (λxs H Q=>∃r j,xs=[.ref r]/\H r=some (.rng 0 j)/\0<=j/\j<=1000/\∀l,H l=none->Q (.ref l) (upd H l (.lst ((below j.toNat).map V.int)))):=by
 intro pins s σ H xs us Q I rr h;obtain ⟨r,j,rfl,hr,j0,j1,q⟩:=h;obtain ⟨u,rfl,ru⟩:=rr.one;cases ru;obtain ⟨t1,t2,t3,e⟩:=I.hok r _ hr;have hn:H s.heap.objs.size=none:=I.hok.fresh (AE _);refine call_list_range (n:=j.toNat) (I.ok.hd hc) e (U7 (by lia) (by lia) (by lia) (by lia)) (by rw[QI];split<;>lia) (by lia) λh' tk acc' c' hk hS' hacc=>?_;refine ⟨.ref s.heap.objs.size,_,I.laid (a:=s.heap.objs.size) (o:=.lst ((below j.toNat).map V.int)) hk (AE _) ⟨?_,acc'.toList,c',?_,by simpa using hS'⟩,rfl,q _ hn⟩
 ·rw[AB,AB,BD]
  exact small (by lia)
 ·refine Ji (by simp[hacc.1]) λi x u h1 h2=>?_
  have h2':acc'[i]?=some u:=by simpa using h2
  obtain ⟨t,rfl⟩:=hacc.2 i u h2';have hi:i<j.toNat:=by
   have:=(C9.mp h2').1;rw[hacc.1] at this;exact this
  rw[A2,A2,D8 hi] at h1;have ex:x=.int (i:Int):=(BH h1).symm;subst ex;exact ⟨t,by rw[SL,W9]⟩
end
end L2
end
section
namespace PySem
def Ctx0(o:Obj):Prop:=∃vs,o.data=.fields vs/\vs[2]?=some .none
def Ctx2(h:Heap)(e:Addr):Prop:=∃o,h.get? e=some o/\Ctx0 o
end PySem
end
section
namespace L2
open PySem PySem.Spec PyProof.Rows
structure Fly(P:AK)(w:AR)(outer:List Env)(H H':Hp)(s s':AA)(a:Addr)(cls:Au):Prop where
 os:s'.os=s.os
 bare:K6 s'.gens
 un:Un (frs outer) [] H H' s.heap s'.heap
 new:H' a=none
 ctx:Ctx2 s'.heap a
 fly:∃B a0,Heap.FlyingW B outer a cls a0 s'.heap/\HOk P w H' B/\∀b o',(∃o,s.heap.get? b=some o)->s'.heap.get? b=some o'->b∉frs outer->B.get? b=some o'
def CXF(P:AK)(w:AR):CXT:=λouter H s E e s'=>∃a cls H',e=.ref a/\Fly P w outer H H' s s' a cls/\E cls none H'
def sx(X:Cx)(a:Addr)(oe:Obj):Cx:={X with A:=X.A.mark (some (.ref a)),calm:=false,pn:=X.pn++[(a,oe)],xe:=λ_ _=>False}
def XP(X:Cx)(pins:List (Addr×Obj))(σ:St)(E:XK)(x:Au)(s2:AA):Prop:=∃H1 s1,Inv X pins σ H1 s1/\CXF X.prog X.w X.stack H1 s1 E x s2
section
variable{X:Cx}{tg:Expr}
def AHC(K:As)(tl:TE):TI:=λσ H R=>tl σ H λx H1=>∃a,x=.ref a/\(((∃xs,SqL K H1 a xs)/\R (Itl K a) H1)\/((∃xs,SqT K H1 a xs)/\R (Itt K a) H1))
theorem WR{l:Expr}{tl:TE}(hl:PE X l tl):PI X tg l (AHC X.K tl):=by
 intro pins s σ H R I h;refine thn (hl pins s σ H _ I h) λv s1 ⟨x,H1,I1,r1,q1⟩=>?_;obtain ⟨a,e,q1⟩:=q1;subst e;cases r1;rcases q1 with⟨⟨xs,hq⟩,q⟩ | ⟨⟨xs,hq⟩,q⟩
 ·obtain ⟨its,rv,p,hz⟩:=I1.list hq
  refine NG p.isList ?_;refine ⟨s1.heap.objs.size,[s1.heap.objs.size],_,_,H1,rfl,I1.kept (t':=s1.toks) λb o e=>AH _ e,Od a _,⟨_,AU _ rfl,rfl,rfl⟩,λb hb=>?_,q⟩;have e:b=s1.heap.objs.size:=by simpa using hb
  subst e;exact I1.fpOk (AE _) (I1.hok.fresh (AE _))
 ·obtain ⟨its,rv,p,hz⟩:=I1.tuple hq
  refine JA (show s1.heap.IsTuple a its.toArray from p) ?_;refine ⟨s1.heap.objs.size,[s1.heap.objs.size],_,_,H1,rfl,I1.kept (t':=s1.toks) λb o e=>AH _ e,Kr a _,⟨_,AU _ rfl,rfl,rfl⟩,λb hb=>?_,q⟩;have e:b=s1.heap.objs.size:=by simpa using hb
  subst e;exact I1.fpOk (AE _) (I1.hok.fresh (AE _))
theorem AFZ{K:As}{H:Hp}{a:Addr}{xs:List V}{R:It->Hp->Prop}(hS:SqL K H a xs\/SqT K H a xs)(h1:SqL K H a xs->R (Itl K a) H)(h2:SqT K H a xs->R (Itt K a) H) :
  ((∃xs,SqL K H a xs)/\R (Itl K a) H)\/((∃xs,SqT K H a xs)/\R (Itt K a) H):=hS.elim (λz=>.inl ⟨⟨_,z⟩,h1 z⟩) λz=>.inr ⟨⟨_,z⟩,h2 z⟩
end
end L2
end
section
namespace L2
open PySem PySem.Spec PyProof.Rows PySem.W
end L2
namespace L2
open PySem PySem.Spec PyProof.Rows
abbrev loopR(g:TG)(tb:TS)(D:Ends)(σ:St)(J:It)(H1:Hp):Prop:=∃W:Nat->Nat->St->Hp->Prop,(∃m,W 0 m σ H1)/\∀i m σ H,W i m σ H ->
 (J.stop i H/\D.nx σ H)\/(J.go i H/\∃N:St->Hp->Prop,(∀σ' H',N σ' H'->∃m',m'<m/\W (i+1) m' σ' H')/\∀x H',J.yld i H x H'->g x σ H' λσ2 H2=>tb {D with nx:=N,ct:=N,bk:=D.nx} σ2 H2)
theorem Xm{K:As}{a:Addr}{xs:List V}{g:TG}{tb:TS}{D:Ends}{σ:St}{H0 H:Hp}(hS:SqL K H0 a xs\/SqT K H0 a xs)(Pv:Nat->St->Hp->Prop)(h0:Pv 0 σ H)(hl:∀i σ H',i<=xs.length->Pv i σ H'->Same H0 H')
  (hs:∀i x σ H,xs[i]?=some x->Pv i σ H->g x σ H λσ2 H2=>tb {D with nx:=Pv (i+1),ct:=Pv (i+1),bk:=D.nx} σ2 H2) (hd:∀σ H,Pv xs.length σ H->D.nx σ H) :
  ((∃xs,SqL K H a xs)/\loopR g tb D σ (Itl K a) H)\/((∃xs,SqT K H a xs)/\loopR g tb D σ (Itt K a) H) :=
 hS.elim (λz=>.inl ⟨⟨_,(hl 0 σ H (A8 _) h0).seq z⟩,Ec Pv h0 (λi σ H2 hi p=>(hl i σ H2 hi p).seq z) hs hd⟩) λz=>.inr ⟨⟨_,(hl 0 σ H (A8 _) h0).ts.seq z⟩,ADk Pv h0 (λi σ H2 hi p=>(hl i σ H2 hi p).ts.seq z) hs hd⟩
theorem Pj{K:As}{a D:Addr}{xs:List V}{g:TG}{tc:TT}{te:TE}{R:Hp->Prop}{τ:St}{H0 H:Hp}(hS:SqL K H0 a xs\/SqT K H0 a xs)(Pv:Nat->St->Hp->Prop)(h0:Pv 0 τ H)(hl:∀i τ H',i<=xs.length->Pv i τ H'->Same H0 H')
  (hs:∀i x τ H,xs[i]?=some x->Pv i τ H->g x τ H λτ2 H2=>tc τ2 H2 (putD D (Pv (i+1)) te τ2)) (hd:∀τ H,Pv xs.length τ H->R H) :
  (SqL K H0 a xs->Dd (Itl K a) D g tc te R τ H)/\(SqT K H0 a xs->Dd (Itt K a) D g tc te R τ H) :=
 ⟨λz=>Bl Pv h0 (λi σ H2 hi p=>(hl i σ H2 hi p).seq z) hs hd,λz=>JD Pv h0 (λi σ H2 hi p=>(hl i σ H2 hi p).ts.seq z) hs hd⟩
section
variable{X:Cx}{st:Stmt}{rest:List Stmt}{t u:TS}
def AGt(t u:TS):TS:=λD σ H=>∃M:St->Hp->Prop,t {D with nx:=M} σ H/\∀σ' H',M σ' H'->u D σ' H'
theorem Js(h1:PS X st t)(h2:PSs X rest u):PSs X (st::rest) (AGt t u):=by
 intro pins s σ H D I h;obtain ⟨M,ha,hb⟩:=h;refine N1 (thn (h1 pins s σ H {D with nx:=M} I ha) λf s1 q=>?_);cases f with
 | next =>
  obtain ⟨σ',H',I',q⟩:=q;exact h2 pins s1 σ' H' D I' (hb _ _ q)
 | ret v=>exact q
 | brk=>exact q
 | cont=>exact q
theorem Ln{K:As}(hK:X.K=K):CallR X (.type "tuple") (λxs H Q=>∃p ys,xs=[.ref p]/\((SqL K H p ys/\∀l,H l=none->Q (.ref l) (upd H l (.tup ys)))\/(SqT K H p ys/\Q (.ref p) H))):=by subst hK;exact Bc
end
theorem Yv{K:As}{a:Addr}{xs:List V}{g:TG}{tc:TT}{te:TE}{R:Addr->Hp->Prop}{τ:St}{H:Hp}(hS:SqL K H a xs\/SqT K H a xs)
  (h:∀D,H D=none->∃Pv:Nat->St->Hp->Prop,Pv 0 τ (upd H D (.lst []))/\(∀i τ H',i<=xs.length->Pv i τ H'->Same H H') /\
   (∀i x τ H,xs[i]?=some x->Pv i τ H->g x τ H λτ2 H2=>tc τ2 H2 (putD D (Pv (i+1)) te τ2))/\(∀τ H,Pv xs.length τ H->R D H)) :
  ((∃xs,SqL K H a xs)/\∀D,H D=none->Dd (Itl K a) D g tc te (R D) τ (upd H D (.lst [])))\/((∃xs,SqT K H a xs)/\∀D,H D=none->Dd (Itt K a) D g tc te (R D) τ (upd H D (.lst []))) :=
 AFZ (R:=λJ H=>∀D,H D=none->Dd J D g tc te (R D) τ (upd H D (.lst []))) hS
  (λz D hD=>by obtain ⟨Pv,a,b,c,d⟩:=h D hD;exact (Pj hS Pv a b c d).1 z)
  (λz D hD=>by obtain ⟨Pv,a,b,c,d⟩:=h D hD;exact (Pj hS Pv a b c d).2 z)
end L2
end
section
namespace L2
open PySem PySem.Spec PyProof.Rows PySem.W
section
variable{X:Cx}
theorem Vals.app{xs ys:List V}{us vs:List Au}(h:Vals xs us)(k:Vals ys vs):Vals (xs++ys) (us++vs):=by
 induction h with
 | nil=>exact k
 | cons r t ih=>exact .cons r ih
def rAddL(K:As):R2:=λx y H Q=>∃a b xs ys,x=.ref a/\y=.ref b/\SqL K H a xs/\SqL K H b ys/\xs.length+ys.length<=sizeLine/\∀p,H p=none->Q (.ref p) (upd H p (.lst (xs++ys)))
theorem Xk:OpR X (F5 .Add) (rAddL X.K):=by
 intro pins s σ H x y v u Q I rx ry h;obtain ⟨a,b,xs,ys,rfl,rfl,ha,hb,hz,q⟩:=h;cases rx;cases ry;obtain ⟨vs,r1,p1,_⟩:=I.list ha;obtain ⟨ws,r2,p2,_⟩:=I.list hb;have hl:=p1.isList;have hb':=p2.isList;obtain ⟨⟨cls,dd,data,sl⟩,ho,hc,n,hd⟩:=id hl;obtain ⟨⟨cls2,dd2,Wp,sl2⟩,ho2,hc2,n2,hd2⟩:=id hb';simp only at hc hd hc2 hd2;subst hc hd hc2 hd2;have e:vs.toArray++ws.toArray=(vs++ws).toArray:=by simp
 have l1:=r1.length;have l2:=r2.length;refine N4 ⟨_,ho,rfl⟩ ⟨_,ho2,rfl⟩ noFill_list_add seq_list_add PySem.F.slot_list_add PySem.F.entry_list_add (PySem.F.args_list_add_2 _ _) (list_addW a b vs.toArray ws.toArray n n2 dd dd2 sl sl2 (by rw[AZ,AZ];lia)) ⟨ho,ho2,?_⟩;rw[e];refine ⟨.ref s.heap.objs.size,_,I.laid (t':=s.toks) (o:=.lst (xs++ys)) (λb ob q=>AH _ q) (AE _) ?_,rfl,q _ (I.hok.fresh (AE _))⟩;exact ⟨by rw[AT];exact hz,_,0,Vals.app r1 r2,AU _ rfl⟩
structure Own(K:Frag)(C:Addr):Prop where
 ha:findIn K (.ref C) "__class__" = some (some (.builtin "object.__class__"))
 hn:specialIn K (.builtin "object.__class__") "__get__" = some (some (.builtin "getset_descriptor.__get__"))
 tk:takesIn K (.builtin "object.__class__")=some true
 hm:mroIn K C (.type "object")=some true
 is:kitOne K (.ref C) (.ref C)=some true
end
end L2
end
section
namespace L2
open PySem PySem.Spec PyProof.Rows
open PySem.W
section
variable{X:Cx}{C:Addr}{x:Str}{p pos:Pos}
def AGm(C:Addr):TE:=λ_ H Q=>∀y dx,H y=none->H dx=none->dx≠y->Q (.ref y) (upd (upd H dx (.own y)) y (.ins C dx []))
theorem AEX(mk:makesIn X.K C=true)(hi:findIn X.K (.ref C) "__init__" = some (some (.builtin "object.__init__")))(kp:keepIn X.K (.ref C)=true)(hg:Gl X x)(hm:X.mg x=some (.ref C))
  (hdb:(x==("__debug__" : Str))=false:=by decide):PE X (.Call (.Name x p) [] [] pos) (AGm C):=by
 intro pins s σ H Q I h;refine EM (Jl I hg hm ?_ hdb);refine Q0 I.kIn kp (PV ?_);have hq:=h (s.heap.objs.size+1) s.heap.objs.size (I.hok.fresh (LI _)) (I.hok.fresh (AE _)) (Cn (D2 _));have I2:=Inv.made (C:=C) I;refine ZR I.kIn mk hi (λself=>VT (oi_bind self)) ?_;have Y:=makes_of (M:=AM X.prog X.w) I.kIn mk;have e2:((s.heap.push EG).push (FD C s.heap.objs.size)).get? (s.heap.objs.size+1)=some (FD C s.heap.objs.size):=by
  have:=AU (s.heap.push EG) (o:=FD C s.heap.objs.size) rfl
  rwa [Fm] at this
 have t1:Looks (AM X.prog X.w) ((s.heap.push EG).push (FD C s.heap.objs.size)) (W4 (.ref (s.heap.objs.size+1))) (.ref C):=(Xs e2).andThen .now;have t2:Looks (AM X.prog X.w) ((s.heap.push EG).push (FD C s.heap.objs.size)) (P7 (.ref (s.heap.objs.size+1)) (.type "object")) true:=t1.andThen (Y.top.keeps λb o e=>AH _ (AH _ e));refine P8 oi_plain entry_oi (@check_slot (AM X.prog X.w) _ _ _ "object.__init__" "object" "__init__" (.ref (s.heap.objs.size+1)) [] [] _ oi_kind oi_split t2 (oi_args (.ref (s.heap.objs.size+1))) ?_);rw[oi_run];exact wpAny_pure (And.intro rfl ⟨.ref (s.heap.objs.size+1),_,I2,rfl,hq⟩)
end
end L2
end
section
namespace L2
open PySem PySem.Spec PyProof.Rows
section
variable{κ:Type}[DecidableEq κ]
def valV(kvs:List (κ×V))(k:κ):Option V:=(kvs.find? λkv=>decide (kv.1=k)).map (·.2)
def putK(kvs:List (κ×V))(k:κ)(v:V):List (κ×V) :=
 if (kvs.any λkv=>decide (kv.1=k))=true then kvs.map (λkv=>if kv.1=k then (kv.1,v) else kv) else kvs++[(k,v)]
theorem CN{p:κ×V}{r:List (κ×V)}{k:κ}(e:p.1=k):valV (p::r) k=some p.2:=by simp[valV,Go,e]
theorem CQ{p:κ×V}{r:List (κ×V)}{k:κ}(e:¬ p.1=k):valV (p::r) k=valV r k:=by simp[valV,Go,e]
theorem Ga(k:κ):∀kvs:List (κ×V),(kvs.any λkv=>decide (kv.1=k))=(valV kvs k).isSome
 | []=>rfl
 | p::r=>by
  rw[Jn];by_cases e:p.1=k
  ·simp only[CN e,decide_eq_true e,Bool.true_or,Option.isSome_some]
  ·rw[CQ e,decide_eq_false e,Bool.false_or];exact Ga k r
theorem Te(k j:κ)(y:V):∀kvs:List (κ×V),valV (kvs.map λkv=>if kv.1=k then (kv.1,y) else kv) j=(valV kvs j).map λx=>if j=k then y else x
 | []=>rfl
 | p::r=>by
  have ih:=Te k j y r;rw[Cb];by_cases h:p.1=k
  ·rw[if_pos h]
   by_cases e:p.1=j
   ·rw[CN (p:=(p.1,y)) e,CN e,L7,if_pos (e.symm.trans h)]
   ·rw[CQ (p:=(p.1,y)) e,CQ e,ih]
  ·rw[if_neg h]
   by_cases e:p.1=j
   ·rw[CN (p:=p) e,CN e,L7,if_neg (λz=>h (e.trans z))]
   ·rw[CQ (p:=p) e,CQ e,ih]
theorem Mw(k j:κ)(y:V):∀kvs:List (κ×V),valV kvs k=none->valV (kvs++[(k,y)]) j=if j=k then some y else valV kvs j
 | [],_=>by
  by_cases e:k=j
  ·rw[if_pos e.symm];exact CN (p:=(k,y)) e
  ·rw[if_neg (λz=>e z.symm)];exact CQ (p:=(k,y)) e
 | p::r,hn=>by
  rw[N9];have hk:¬ p.1=k:=λz=>by rw[CN z] at hn;cases hn
  rw[CQ hk] at hn;have ih:=Mw k j y r hn;by_cases e:p.1=j
  ·rw[CN e,CN e,if_neg (λz=>hk (e.trans z))]
  ·rw[CQ e,CQ e,ih]
theorem Ed(kvs:List (κ×V))(k j:κ)(y:V):valV (putK kvs k y) j=if j=k then some y else valV kvs j:=by
 unfold putK;by_cases a:(kvs.any λkv=>decide (kv.1=k))=true
 ·rw[if_pos a,Te]
  rw[Ga] at a;by_cases e:j=k
  ·obtain ⟨x,hx⟩:=F7.mp a
   rw[if_pos e,e,hx,L7,if_pos rfl]
  ·rw[if_neg e]
   cases valV kvs j with
   | none=>rfl
   | some x=>rw[L7,if_neg e]
 ·rw[if_neg a]
  refine Mw k j y kvs ?_;rw[Ga] at a;cases q:valV kvs k with
  | none=>rfl
  | some x=>rw[q] at a;exact (a rfl).elim
theorem CV(kvs:List (κ×V))(k:κ)(v:V):(putK kvs k v).length<=kvs.length+1:=by
 unfold putK;split
 ·rw[AB];lia
 ·rw[AT,CM,F9];lia
theorem Ie{kvs:List (κ×V)}{k:κ}(v:V)(h:valV kvs k=none):putK kvs k v=kvs++[(k,v)]:=by
 unfold putK;rw[Ga,h];exact if_neg (by decide)
theorem RelO.isSome_eq{o:Option V}{u:Option Au}(r:RelO o u):o.isSome=u.isSome:=by
 cases o with
 | none=>cases u with
  | none=>rfl
  | some _=>exact (show False from r).elim
 | some _=>cases u with
  | none=>exact (show False from r).elim
  | some _=>rfl
theorem RelO.getD{o:Option V}{u:Option Au}{d:V}{d':Au}(r:RelO o u)(rd:RelV d d'):RelV (o.getD d) (u.getD d'):=by
 cases o with
 | none=>cases u with
  | none=>exact rd
  | some _=>exact (show False from r).elim
 | some _=>cases u with
  | none=>exact (show False from r).elim
  | some _=>exact r
theorem KV.val{kvs:List (κ×V)}{vs:List (κ×Au)}(r:KV kvs vs)(k:κ):RelO (valV kvs k) (N0 vs k):=by
 unfold KV at r
 induction r with
 | nil=>exact HZ
 | @cons p q ps qs h t ih =>
  obtain ⟨h1,h2⟩:=h;by_cases e:p.1=k
  ·have e':q.1=k:=h1.symm.trans e
   have b:N0 (q::qs) k=some q.2:=by simp[N0,Go,e']
   rw[CN e,b];exact h2
  ·have e':¬ q.1=k:=λz=>e (h1.trans z)
   have b:N0 (q::qs) k=N0 qs k:=by simp[N0,Go,e']
   rw[CQ e,b];exact ih
theorem KV.any{kvs:List (κ×V)}{vs:List (κ×Au)}(r:KV kvs vs)(k:κ):(kvs.any λkv=>decide (kv.1=k))=vs.any λkv=>decide (kv.1=k):=by
 unfold KV at r
 induction r with
 | nil=>rfl
 | cons h t ih=>rw[Jn,Jn,ih,h.1]
theorem KV.repl{kvs:List (κ×V)}{vs:List (κ×Au)}(r:KV kvs vs)(k:κ){y:V}{u:Au}(ry:RelV y u) :
  KV (kvs.map λkv=>if kv.1=k then (kv.1,y) else kv) (vs.map λkv=>if kv.1=k then (kv.1,u) else kv):=by
 unfold KV at r ⊢
 induction r with
 | nil=>exact .nil
 | @cons p q ps qs h t ih =>
  rw[Cb,Cb];refine .cons ?_ ih;obtain ⟨h1,h2⟩:=h;by_cases e:p.1=k
  ·rw[if_pos e,if_pos (h1.symm.trans e)];exact ⟨h1,ry⟩
  ·rw[if_neg e,if_neg (λz=>e (h1.trans z))];exact ⟨h1,h2⟩
theorem KV.put{kvs:List (κ×V)}{vs:List (κ×Au)}(r:KV kvs vs)(k:κ){y:V}{u:Au}(ry:RelV y u):KV (putK kvs k y) (stored vs k u):=by
 unfold putK stored;rw[r.any k];by_cases e:(vs.any λkv=>decide (kv.1=k))=true
 ·rw[if_pos e,if_pos e];exact r.repl k ry
 ·rw[if_neg e,if_neg e];exact SV r ⟨rfl,ry⟩
theorem KV.length{kvs:List (κ×V)}{vs:List (κ×Au)}(r:KV kvs vs):kvs.length=vs.length:=AQ r
end
theorem Nj{P:AK}{w:AR}{k:Key}{u:Au}(r:RelV (kV k) u):(Bu P w).is k u=true:=by
 cases k with
 | inl i=>obtain ⟨t,e⟩:=(show ∃t,u=KP i t from r);subst e;exact Ss P w i t
 | inr x=>obtain ⟨t,e⟩:=(show ∃t,u=Q8 x t from r);subst e;exact Rb P w x t
theorem Mt{P:AK}{w:AR}:∀{ks:List Key}{us:List Au},Vals (ks.map kV) us->ItemsAre (Bu P w) ks us
 | [],_,r=>by rw[KW] at r;cases r;exact .nil
 | k::ks,_,r=>by
  rw[Cb] at r;cases r with
  | cons h t=>exact .cons (Nj h) (Mt t)
abbrev KT(H:Hp):List (List Key×V)->List (List Key×Addr×Au)->Prop:=A9 λp q=>p.1=q.1/\H q.2.1=some (.tup (p.1.map kV))/\RelV p.2 q.2.2
theorem KT.val{H:Hp}{kvs:List (List Key×V)}{xs:List (List Key×Addr×Au)}(r:KT H kvs xs)(k:List Key):RelO (valV kvs k) ((JJ xs k).map (·.2)):=by
 induction r with
 | nil=>exact HZ
 | @cons p q ps qs h t ih =>
  obtain ⟨h1,_,h2⟩:=h;by_cases e:p.1=k
  ·have e':q.1=k:=h1.symm.trans e
   have b:JJ (q::qs) k=some q.2:=by simp[JJ,Go,e']
   rw[CN e,b];exact h2
  ·have e':¬ q.1=k:=λz=>e (h1.trans z)
   have b:JJ (q::qs) k=JJ qs k:=by simp[JJ,Go,e']
   rw[CQ e,b];exact ih
theorem KT.repl{H:Hp}{kvs:List (List Key×V)}{xs:List (List Key×Addr×Au)}(r:KT H kvs xs)(k:List Key){y:V}{u:Au}(ry:RelV y u) :
  KT H (kvs.map λkv=>if kv.1=k then (kv.1,y) else kv) (xs.map (putAt k u)):=by
 induction r with
 | nil=>exact .nil
 | @cons p q ps qs h t ih =>
  rw[Cb,Cb];refine .cons ?_ ih;obtain ⟨h1,h2,h3⟩:=h;unfold putAt;by_cases e:p.1=k
  ·rw[if_pos e,if_pos (h1.symm.trans e)];exact ⟨h1,h2,ry⟩
  ·rw[if_neg e,if_neg (λz=>e (h1.trans z))];exact ⟨h1,h2,h3⟩
theorem KT.put{H:Hp}{kvs:List (List Key×V)}{xs:List (List Key×Addr×Au)}(r:KT H kvs xs)(k:List Key){b:Addr}{y:V}{u:Au}(hb:H b=some (.tup (k.map kV)))(ry:RelV y u) :
  KT H (putK kvs k y) (Sn xs k b u):=by
 have e:(kvs.any λkv=>decide (kv.1=k))=(JJ xs k).isSome:=by
  rw[Ga,(r.val k).isSome_eq,Lv]
 unfold putK Sn;rw[e];by_cases q:(JJ xs k).isSome=true
 ·rw[if_pos q,if_pos q];exact r.repl k ry
 ·rw[if_neg q,if_neg q];exact SV r ⟨rfl,hb,ry⟩
theorem KT.keeps{H H':Hp}{kvs:List (List Key×V)}{xs:List (List Key×Addr×Au)}(r:KT H kvs xs)(ht:∀b ys,H b=some (.tup ys)->H' b=some (.tup ys)):KT H' kvs xs :=
 Paired.mapP r λ_ _ z=>⟨z.1,ht _ _ z.2.1,z.2.2⟩
section
variable{P:AK}{w:AR}{H:Hp}{h:Heap}{a:Addr}
theorem AEr{u:HO}(ok:HOk P w H h)(e:Rd H a u):ObjOk P w H h a u:=e.ok ok
theorem OD{kvs:List (Key×V)}(ok:HOk P w H h)(e:Rd H a (.dK kvs)):kvs.length<=sizeLine/\(a==D6)=false/\∃vs,KV kvs vs/\h.DictOf (Bu P w) a vs :=
 show ObjOk P w H h a (.dK kvs) from AEr ok e
theorem AEf{kvs:List (Key×V)}(ok:HOk P w H h)(e:H a=some (.dK kvs)):kvs.length<=sizeLine/\(a==D6)=false/\∃vs,KV kvs vs/\h.DictOf (Bu P w) a vs:=OD ok (.inl e)
theorem Ly{ks:List Key}(ok:HOk P w H h)(e:H a=some (.tup (ks.map kV))):(MT (Bu P w)).is h ks a:=by
 obtain ⟨_,its,r,o,h1,h2,n,h3⟩:=(show ObjOk P w H h a (.tup (ks.map kV)) from ok a _ e);exact ⟨o,its.toArray,n,h1,h2,h3,by simpa using Mt r⟩
theorem Og{kvs:List (List Key×V)}(ok:HOk P w H h)(e:Rd H a (.dT kvs)):kvs.length<=sizeLine/\(a==D6)=false /\
  ∃xs,KT H kvs xs/\h.DictOfH (MT (Bu P w)) a xs:=by
 obtain ⟨z,y,xs,r,o,es,ep,h1,h2,h3,h4,h5⟩:=(show ObjOk P w H h a (.dT kvs) from AEr ok e);refine ⟨z,y,xs,r,o,es,ep,h1,h2,h3,h4,λx hx=>?_,h5⟩;have all:∀{l:List (List Key×V)}{m:List (List Key×Addr×Au)},KT H l m->∀x∈m,(MT (Bu P w)).is h x.1 x.2.1:=by
  intro l m q
  induction q with
  | nil=>intro x hx;exact nomatch hx
  | @cons p q ps qs hq t ih =>
   intro x hx;rcases Be.mp hx with e | hx
   ·subst e
    exact Ly ok (by rw[<- hq.1];exact hq.2.1)
   ·exact ih x hx
 exact all r x hx
theorem AGP{kvs:List (List Key×V)}(ok:HOk P w H h)(e:H a=some (.dT kvs)):kvs.length<=sizeLine/\(a==D6)=false /\
  ∃xs,KT H kvs xs/\h.DictOfH (MT (Bu P w)) a xs:=Og ok (.inl e)
end
def DGet(H:Hp)(a:Addr)(y:V)(r:Option V):Prop :=
 (∃kvs k,Rd H a (.dK kvs)/\y=kV k/\r=valV kvs k)\/∃kvs k b,Rd H a (.dT kvs)/\y=.ref b/\H b=some (.tup (k.map kV))/\r=valV kvs k
def DPut(H:Hp)(a:Addr)(y v:V)(H':Hp):Prop :=
 (∃kvs k,H a=some (.dK kvs)/\y=kV k/\kvs.length<sizeLine/\H'=upd H a (.dK (putK kvs k v))) \/
 ∃kvs k b,H a=some (.dT kvs)/\y=.ref b/\H b=some (.tup (k.map kV))/\kvs.length<sizeLine/\H'=upd H a (.dT (putK kvs k v))
theorem DGet.k{H:Hp}{a:Addr}{kvs:List (Key×V)}{k:Key}(e:H a=some (.dK kvs)):DGet H a (kV k) (valV kvs k):=.inl ⟨kvs,k,.inl e,rfl,rfl⟩
theorem DGet.t{H:Hp}{a b:Addr}{kvs:List (List Key×V)}{k:List Key}(e:H a=some (.dT kvs))(eb:H b=some (.tup (k.map kV))):DGet H a (.ref b) (valV kvs k):=.inr ⟨kvs,k,b,.inl e,rfl,eb,rfl⟩
section
variable{X:Cx}{pins:List (Addr×Obj)}{σ:St}{H:Hp}{s:AA}{a:Addr}{y v:V}{u r:Au}{o:Option V}{A:B6}{E:Au->AA->Prop}
theorem Inv.big(I:Inv X pins σ H s):D6<s.heap.objs.size:=by
 have h:Do<s.heap.objs.size:=(I.mod.glob.keeps I.bk).lt;exact Xt (by decide) h
theorem Yd{Q:Au->AA->Prop}(hu:A.units+1<CO)(I:Inv X pins σ H s)(g:DGet H a y (some v))(ry:RelV y u)(h:∀w' s',Inv X pins σ H s'->RelV v w'->Q w' s') :
  wpAny (AM X.prog X.w) A (LW (.ref a) u) Q E s:=by
 rcases g with⟨kvs,k,e,ey,l⟩ | ⟨kvs,k,b,e,ey,eb,l⟩
 ·subst ey
  obtain ⟨z,hd,vs,rel,dd⟩:=OD I.hok e;obtain ⟨w',hw,rw'⟩:=RelO.some_of (v:=v) (o:=N0 vs k) (by rw[l];exact rel.val k);exact wpAny_getItem_of (Nj ry) dd.mapOf hw (h w' _ (I.tok _) rw')
 ·subst ey
  cases (show u=AV b from ry);obtain ⟨z,hd,xs,rel,dd⟩:=Og I.hok e;obtain ⟨w',hw,rw'⟩:=RelO.some_of (v:=v) (o:=(JJ xs k).map (·.2)) (by rw[l];exact rel.val k);obtain ⟨p,hp,hp2⟩:=OY.mp hw;refine RY (K0 hu) (Ly I.hok eb) dd hp ?_;rw[hp2];exact h w' _ (I.tok _) rw'
theorem AHG{Q:Au->AA->Prop}(hu:A.units+1<CO)(I:Inv X pins σ H s)(g:DGet H a y o)(ry:RelV y u)(h:∀s',Inv X pins σ H s'->Q (.bool o.isSome) s') :
  wpAny (AM X.prog X.w) A (DZ .In u (.ref a)) Q E s:=by
 rcases g with⟨kvs,k,e,ey,l⟩ | ⟨kvs,k,b,e,ey,eb,l⟩
 ·subst ey
  obtain ⟨z,hd,vs,rel,dd⟩:=OD I.hok e;refine wpAny_in_of (Nj ry) hd dd.mapOf ?_;rw[<- (rel.val k).isSome_eq,<- l];exact h _ (I.tok _)
 ·subst ey
  cases (show u=AV b from ry);obtain ⟨z,hd,xs,rel,dd⟩:=Og I.hok e;refine wpAny_in_heap (K0 hu) (Ly I.hok eb) hd dd ?_;have q:=(rel.val k).isSome_eq;rw[Lv] at q;rw[<- q,<- l];exact h _ (I.tok _)
theorem Jr{h':Heap}{t':Nat}{ob:HO}(I:Inv X pins σ H s)(mu:Mut (H a))(hs:ES a s.heap h')(he:∃q,h'.get? a=some q)(new:ObjOk X.prog X.w (upd H a ob) h' a ob) :
  Inv X pins σ (upd H a ob) {s with heap:=h',toks:=t'} :=
 I.write (x:=a) (e:=a) mu (.inl rfl) (λb q hb z=>(hs.2 b hb).trans z) he new
theorem ACT{P:AK}{w:AR}{H':Hp}{h':Heap}{kvs:List (Key×V)}{vs:List (Key×Au)}(z:kvs.length<=sizeLine)(hd:(a==D6)=false)(rel:KV kvs vs)(dd:h'.DictOf (Bu P w) a vs) :
  ObjOk P w H' h' a (.dK kvs):=⟨z,hd,vs,rel,dd⟩
theorem Zn{H':Hp}{Q:Unit->AA->Prop}(hu:A.units+1<CO)(I:Inv X pins σ H s)(g:DPut H a y v H')(ry:RelV y u)(rv:RelV v r)(h:∀s',Inv X pins σ H' s'->Q () s') :
  wpAny (AM X.prog X.w) A (US (.ref a) u r) Q E s:=by
 rcases g with⟨kvs,k,e,ey,l,eH⟩ | ⟨kvs,k,b,e,ey,eb,l,eH⟩
 ·subst ey eH
  obtain ⟨z,hd,vs,rel,dd⟩:=AEf I.hok e;have hz:vs.length<=sizeLine:=by rw[<- rel.length];exact z
  have hl:(putK kvs k v).length<=sizeLine:=by have:=CV kvs k v;lia
  refine wpAny_setItem_pairs (hsz:=hz) (Nj ry) dd λh' dd' hs=>h _ ?_;have he:∃q,h'.get? a=some q:=let ⟨q,_,_,hq,_⟩:=dd';⟨q,hq⟩
  exact Jr I (by rw[e];exact HZ) hs he (ACT hl hd (rel.put k rv) dd')
 ·subst ey eH
  cases (show u=AV b from ry);obtain ⟨z,hd,xs,rel,dd⟩:=AGP I.hok e;have hz:xs.length<=sizeLine:=by rw[<- AQ rel];exact z
  have hl:(putK kvs k v).length<=sizeLine:=by have:=CV kvs k v;lia
  refine R0 (hsz:=hz) (K0 hu) (Ly I.hok eb) dd λh' dd' hs=>h _ ?_;obtain ⟨q,es,ep,hq,h2,h3,h4,_,h5⟩:=dd';refine Jr I (by rw[e];exact HZ) hs ⟨q,hq⟩ ⟨hl,hd,_,(rel.put k eb rv).keeps λc ys ec=>?_,q,es,ep,hq,h2,h3,h4,h5⟩;rw[Af (Cq ec e (λz=>nomatch z))];exact ec
end
def NoSl(i:Expr):Prop:=∀ov iv,OV i false ov iv=operate [ov,iv] (LW ov iv)
theorem XQ{prog:AK}{w:AR}{A:B6}{E:Au->AA->Prop}{s:AA}{env:Env}{value slice:Expr}{pos:Pos}{T id:String}{Q:Au->AA->Prop}
  (hl:typeLookup (.type T) "__getitem__" = pure (some (.builtin id))) (hs:NoSl slice)
  (h:wpAny (AM prog w) A (eval value env) (λo s₁=>wpAny (AM prog w) A (eval slice env) (λi s₂=>s₂.TypeIs o T/\wpAny (AM prog w) A (LW o i) Q E s₂) E s₁) E s) :
  wpAny (AM prog w) A (eval (.Subscript value slice pos) env) Q E s:=by
 refine TW (EE h (λo s₁ h₁=>EE h₁ (λi s₂ h₂=>?_) λ_ _ x=>x) λ_ _ x=>x);obtain ⟨hT,h₂⟩:=h₂;unfold QO;refine Ap ?_;rw[getitemInPython_of_ne hT.not_modules];refine Ap (HG hT hl ?_);have fin:wpAny (AM prog w) A (OV slice false o i) (λr s₃=>wpAny (AM prog w) A (letTemporaryGo value o r >>= λ_=>pure r) Q E s₃) E s₂:=by
  rw[hs o i];exact wpAny_operating (EE h₂ (λr s₃ h₃=>Ap (wpAny_letTemporaryGo (wpAny_pure h₃))) λ_ _ x=>x)
 first
  | exact wpAny_pure (Ap fin)
  | exact Ap (wpAny_pure (Ap fin))
  | exact Ap fin
theorem Rx{X:Cx}{pins:List (Addr×Obj)}{σ:St}{H:Hp}{s:AA}{a:Addr}{y:V}{o:Option V}(I:Inv X pins σ H s)(g:DGet H a y o):s.TypeIs (.ref a) "dict":=by
 rcases g with⟨kvs,k,e,_,_⟩ | ⟨kvs,k,b,e,_,_,_⟩
 ·obtain ⟨_,_,vs,_,dd⟩:=OD I.hok e
  exact dd.typeIs
 ·obtain ⟨_,_,xs,_,dd⟩:=Og I.hok e
  exact dd.typeIs
def AGR(td ty:TE):TE:=λσ H Q=>td σ H λx H1=>ty σ H1 λy H2=>∃a v,x=.ref a/\DGet H2 a y (some v)/\Q v H2
def AGx(ty td:TE):TE:=λσ H Q=>ty σ H λy H1=>td σ H1 λx H2=>∃a o,x=.ref a/\DGet H2 a y o/\Q (.bl o.isSome) H2
def AGT(td ty tv:TE):TS:=λD σ H=>tv σ H λv H1=>td σ H1 λx H2=>ty σ H2 λy H3=>∃a H4,x=.ref a/\DPut H3 a y v H4/\D.nx σ H4
section
variable{X:Cx}{o i e value:Expr}{pos pos' tpos:Pos}{td ty tv:TE}
theorem QG(hu:X.A.units+1<CO)(ho:PE X o td)(hi:PE X i ty)(hs:NoSl i):PE X (.Subscript o i pos) (AGR td ty):=by
 intro pins s σ H Q I h;refine XQ NO.lookup hs (thn (ho pins s σ H _ I h) λu s1 ⟨x,H1,I1,rx,q1⟩=>thn (hi pins s1 σ H1 _ I1 q1) λiv s2 ⟨y,H2,I2,ry,a,v,ex,g,q2⟩=>?_);subst ex;obtain rfl:u=AV a:=rx;exact ⟨Rx I2 g,Yd hu I2 g ry λw' s3 I3 rw'=>⟨v,H2,I3,rw',q2⟩⟩
theorem ABJ(hu:X.A.units+1<CO)(hi:PE X i ty)(ho:PE X o td):PC X .In i o (AGx ty td):=by
 intro pins s σ H Q I h;refine thn (hi pins s σ H _ I h) λiv s1 ⟨y,H1,I1,ry,q1⟩=>thn (ho pins s1 σ H1 _ I1 q1) λu s2 ⟨x,H2,I2,rx,a,ov,ex,g,q2⟩=>?_;subst ex;obtain rfl:u=AV a:=rx;exact AHG hu I2 g ry λs3 I3=>⟨.bl ov.isSome,H2,I3,rfl,q2⟩
theorem Jk(hu:X.A.units+1<CO)(ho:PE X o td)(hi:PE X i ty)(hv:PE X value tv)(hs:MU value (some (.Subscript o i pos')) pos.line X.env=pure false) :
  PS X (.Assign [.Subscript o i pos'] value pos) (AGT td ty tv):=by
 intro pins s σ H D I h;refine OZ (thn (hv pins s σ H _ I h) λr s1 ⟨v,H1,I1,rv,q1⟩=>thn (ho pins s1 σ H1 _ I1 q1) λu s2 ⟨x,H2,I2,rx,q2⟩=>thn (hi pins s2 σ H2 _ I2 q2) λiv s3 ⟨y,H3,I3,ry,a,H4,ex,g,q3⟩=>?_) hs;subst ex;obtain rfl:u=AV a:=rx;exact Zn hu I3 g ry rv λs4 I4=>⟨σ,H4,I4,q3⟩
end
theorem AAf{P:AK}{w:AR}{H:Hp}(h:Heap)(hb:D6<h.objs.size):ObjOk P w H (h.push {cls:=.type "dict",data:=.dict #[]}) h.objs.size (.dK []) :=
 ⟨A8 _,beq_eq_false_iff_ne.mpr (DF (Cn hb)),[],.nil,Y6 h⟩
theorem ABP{P:AK}{w:AR}{H:Hp}(h:Heap)(hb:D6<h.objs.size):ObjOk P w H (h.push {cls:=.type "dict",data:=.dict #[]}) h.objs.size (.dT []) :=
 ⟨A8 _,beq_eq_false_iff_ne.mpr (DF (Cn hb)),[],.nil,_,#[],0,AU _ rfl,⟨rfl,rfl,rfl⟩,rfl,rfl,K7⟩
def AFf:TE:=λ_ H Q=>∀p,H p=none->Q (.ref p) (upd H p (.dT []))
section
variable{X:Cx}{pos:Pos}
theorem AAp:PE X (.Dict [] [] pos) AFf:=λpins s σ H Q I h =>
 wpAny_Dict_empty ⟨.ref s.heap.objs.size,_,I.laid (a:=s.heap.objs.size) (o:=.dT []) (t':=s.toks) (λ_ _ q=>AH _ q) (AE _) (ABP s.heap I.big),rfl,h _ (I.hok.fresh (AE _))⟩
end
def Wk:List (TE×TE)->St->Hp->(List (V×V)->Hp->Prop)->Prop
 | [],_,H,Q=>Q [] H
 | (tk,tv)::r,σ,H,Q=>tk σ H λx H1=>tv σ H1 λy H2=>Wk r σ H2 λps H3=>Q ((x,y)::ps) H3
abbrev VV:List (V×V)->List (Au×Au)->Prop:=A9 λp q=>RelV p.1 q.1/\RelV p.2 q.2
def PPs(X:Cx)(pos:Pos)(keys:List (Option Expr))(values:List Expr)(trs:List (TE×TE)):Prop :=
 ∀(pins:List (Addr×Obj)) (s:AA) (σ:St) (H:Hp) (Q:List (V×V)->Hp->Prop),Inv X pins σ H s->Wk trs σ H Q ->
  wpAny (AM X.prog X.w) X.A (evalPairs (pairTrees keys values X.env pos)) (λvs s'=>∃ps H',Inv X pins σ H' s'/\VV ps vs/\Q ps H') X.xe s
theorem YJ{X:Cx}{pos:Pos}:PPs X pos [] [] []:=λpins s σ H Q I h=>pairTrees_nil_walk ⟨[],H,I,.nil,h⟩
theorem KJ{X:Cx}{pos:Pos}{k v:Expr}{ks:List (Option Expr)}{vs:List Expr}{tk tv:TE}{trs:List (TE×TE)}(hk:PE X k tk)(hv:PE X v tv)(hr:PPs X pos ks vs trs) :
  PPs X pos (some k::ks) (v::vs) ((tk,tv)::trs):=λpins s σ H Q I h =>
 pairTrees_cons_walk (thn (hk pins s σ H _ I h) λu s1 ⟨x,H1,I1,rx,q1⟩=>thn (hv pins s1 σ H1 _ I1 q1) λw2 s2 ⟨y,H2,I2,ry,q2⟩ =>
  thn (hr pins s2 σ H2 _ I2 q2) λws s3 ⟨ps,H3,I3,rel,q3⟩=>⟨(x,y)::ps,H3,I3,.cons ⟨rx,ry⟩ rel,q3⟩)
def mergeK(kvs more:List (Key×V)):List (Key×V):=more.foldl (λacc kv=>putK acc kv.1 kv.2) kvs
theorem KV.merge:∀{more:List (Key×V)}{rs:List (Key×Au)}{kvs:List (Key×V)}{vs:List (Key×Au)},KV more rs->KV kvs vs->KV (mergeK kvs more) (merged vs rs):=by
 intro more rs kvs vs r;unfold KV at r
 induction r generalizing kvs vs with
 | nil=>intro q;exact q
 | @cons p q ps qs h t ih =>
  intro r0;have e:KV (putK kvs p.1 p.2) (stored vs q.1 q.2):=by
   have:=r0.put p.1 h.2;rw[<- h.1];exact this
  exact ih e
theorem Gs:∀(more kvs:List (Key×V)),(mergeK kvs more).length<=kvs.length+more.length
 | [],kvs=>by show kvs.length<=kvs.length+0;lia
 | p::r,kvs=>by
  have h1:=Gs r (putK kvs p.1 p.2);have h2:=CV kvs p.1 p.2;show (mergeK (putK kvs p.1 p.2) r).length<=_;rw[CM];lia
theorem Le{P:AK}{w:AR}:∀{kvs:List (Key×V)}{ws:List (Au×Au)},VV (kvs.map λkv=>(kV kv.1,kv.2)) ws->∃rs,Carries (Bu P w) ws rs/\KV kvs rs
 | [],_,r=>by rw[KW] at r;cases r;exact ⟨[],HZ,.nil⟩
 | p::kvs,_,r=>by
  rw[Cb] at r;cases r with
  | @cons a b as bs h t =>
   obtain ⟨rs,c,q⟩:=Le (P:=P) (w:=w) t;obtain ⟨b1,b2⟩:=b;exact ⟨(p.1,b2)::rs,⟨Nj h.1,rfl,c⟩,.cons ⟨rfl,h.2⟩ q⟩
def AGl(trs:List (TE×TE)):TE:=λσ H Q=>∀p,H p=none->Wk trs σ (upd H p (.dK [])) λps H2=>H2 p=some (.dK [])/\∃kvs:List (Key×V),ps=kvs.map (λkv=>(kV kv.1,kv.2))/\kvs.length<=15/\Q (.ref p) (upd H2 p (.dK (mergeK [] kvs)))
theorem Wx{X:Cx}{pos:Pos}{keys:List (Option Expr)}{values:List Expr}{trs:List (TE×TE)}(h:PPs X pos keys values trs)(hall:keys.all (·.isSome)=true)(hl:keys.length=values.length)(h0:keys≠[])
  (h15:keys.length<=15):PE X (.Dict keys values pos) (AGl trs):=by
 intro pins s σ H Q I q;have hn:=I.hok.fresh (AE s.heap.objs.size);have I1:=I.laid (a:=s.heap.objs.size) (o:=.dK []) (h':=s.heap.push {cls:=.type "dict",data:=.dict #[]}) (t':=s.toks) (λ_ _ q=>AH _ q) (AE _) (AAf s.heap I.big);refine wpAny_Dict_walk (knd:=Bu X.prog X.w) hall hl h0 h15 (thn (h pins _ σ _ _ I1 (q _ hn)) λws s2 ⟨ps,H2,I2,rel,e,kvs,ep,lk,q2⟩=>?_);subst ep;obtain ⟨rs,c,rk⟩:=Le (P:=X.prog) (w:=X.w) rel;obtain ⟨z,hd,vs0,r0,dd⟩:=AEf I2.hok e;cases r0;refine ⟨rs,c,dd,λh' dd' hs=>⟨.ref s.heap.objs.size,_,?_,rfl,q2⟩⟩;have hz:(mergeK [] kvs).length<=sizeLine:=by
  have h1:=Gs kvs [];rw[F9] at h1;rw[FX];lia
 have he:∃q,h'.get? s.heap.objs.size=some q:=let ⟨q,_,_,hq,_⟩:=dd';⟨q,hq⟩
 exact Jr I2 (by rw[e];exact HZ) hs he (ACT hz hd (rk.merge .nil) dd')
structure M1(X:Cx)(o:Expr)(m:Str)(apos:Pos)(e:Expr)(cpos:Pos):Prop where
 base:LO o m X.env (eval o X.env)=eval o X.env
 few:((F3 cpos (Co [e] X.env)).all (λx=>!x.1)&&(PY cpos (MS [] X.env)).all (λx=>x.1.isSome)
  && decide (([e]:List Expr).length+([]:List O7).length+(if ([]:List O7).isEmpty then 0 else 1)<30))=true
 line:(apos.endLine==cpos.line)=true
 trees:F3 cpos (Co [e] X.env)=[(false,eval e X.env)]
structure M2(X:Cx)(o:Expr)(m:Str)(apos:Pos)(e f:Expr)(cpos:Pos):Prop where
 base:LO o m X.env (eval o X.env)=eval o X.env
 few:((F3 cpos (Co [e,f] X.env)).all (λx=>!x.1)&&(PY cpos (MS [] X.env)).all (λx=>x.1.isSome)
  && decide (([e,f]:List Expr).length+([]:List O7).length+(if ([]:List O7).isEmpty then 0 else 1)<30))=true
 line:(apos.endLine==cpos.line)=true
 trees:F3 cpos (Co [e,f] X.env)=[(false,eval e X.env),(false,eval f X.env)]
def IsD(H:Hp)(a:Addr):Prop:=(∃kvs,Rd H a (.dK kvs))\/∃kvs,Rd H a (.dT kvs)
theorem AEv{X:Cx}{pins:List (Addr×Obj)}{σ:St}{H:Hp}{s:AA}{a:Addr}(I:Inv X pins σ H s)(d:IsD H a) :
  s.TypeIs (.ref a) "dict"/\(∀b,AV a=.ref b->∃ob,s.heap.get? b=some ob/\ob.dict=none)/\(a==D6)=false:=by
 rcases d with⟨kvs,e⟩ | ⟨kvs,e⟩
 ·obtain ⟨_,hd,vs,_,dd⟩:=OD I.hok e
  refine ⟨dd.typeIs,λb q=>?_,hd⟩;cases q;obtain ⟨ob,_,_,h1,h2,_⟩:=dd;exact ⟨ob,h1,h2.2.1⟩
 ·obtain ⟨_,hd,xs,_,dd⟩:=Og I.hok e
  refine ⟨dd.typeIs,λb q=>?_,hd⟩;cases q;obtain ⟨ob,_,_,h1,h2,_⟩:=dd;exact ⟨ob,h1,h2.2.1⟩
section
variable{X:Cx}{pins:List (Addr×Obj)}{σ:St}{H:Hp}{s:AA}{a:Addr}{y d:V}{u r:Au}{o:Option V}{A:B6}{E:Au->AA->Prop}
theorem AFw{Q:Au->AA->Prop}(hu:A.units+1<CO)(I:Inv X pins σ H s)(g:DGet H a y o)(ry:RelV y u)(rd:RelV d r)(h:∀w' s',Inv X pins σ H s'->RelV (o.getD d) w'->Q w' s') :
  wpAny (AM X.prog X.w) A (call (.builtin "dict.get") [.ref a,u,r]) Q E s:=by
 rcases g with⟨kvs,k,e,ey,l⟩ | ⟨kvs,k,b,e,ey,eb,l⟩
 ·subst ey
  obtain ⟨z,hd,vs,rel,dd⟩:=OD I.hok e;refine R6 LX dd.typeIs O0 (OB _ _ _) (meets_dict_get_default (Bu X.prog X.w) a (Nj ry) hd r) ⟨_,dd.mapOf,h _ _ (I.tok _) ?_⟩;rw[l];exact (rel.val k).getD rd
 ·subst ey
  cases (show u=AV b from ry);obtain ⟨z,hd,xs,rel,dd⟩:=Og I.hok e;refine R6 LX dd.typeIs O0 (OB _ _ _) (meetsH_dict_get_default (MT (Bu X.prog X.w)) a b hd r) ⟨K0 hu,k,xs,Ly I.hok eb,dd,h _ _ (I.tok _) ?_⟩;rw[l];exact (rel.val k).getD rd
end
def AFy(td ty tx:TE):TE:=λσ H Q=>td σ H λx H1=>∃a,x=.ref a/\IsD H1 a/\ty σ H1 λy H2=>tx σ H2 λz H3=>∃o,DGet H3 a y o/\Q (o.getD z) H3
section
variable{X:Cx}{o e f:Expr}{apos cpos:Pos}{td ty tx:TE}
theorem AAL(hu:X.A.units+1<CO)(ho:PE X o td)(he:PE X e ty)(hf:PE X f tx)(m:M2 X o "get" apos e f cpos):PE X (.Call (.Attribute o "get" apos) [e,f] [] cpos) (AFy td ty tx):=by
 intro pins s σ H Q I h;refine wpAny_Call_method m.base m.few m.line PySem.F.plainAttrs_dict LX PySem.F.type_dict_get (thn (ho pins s σ H _ I h) λu s1 ⟨x,H1,I1,rx,a,ex,d,q1⟩=>?_);subst ex;obtain rfl:u=AV a:=rx;obtain ⟨t1,t2,_⟩:=AEv I1 d;refine ⟨t1,t2,?_⟩;rw[m.trees];refine OX rfl (P3 (FR (thn (he pins s1 σ H1 _ I1 q1) λiv s2 ⟨y,H2,I2,ry,q2⟩ =>
  FR (thn (hf pins s2 σ H2 _ I2 q2) λfv s3 ⟨z,H3,I3,rz,ov,g,q3⟩=>HP ?_))))
 exact AFw hu I3 g ry rz λw' s4 I4 rw'=>⟨_,H3,I4,rw',q3⟩
end
end L2
end
section
namespace L2
open PySem PySem.Spec PyProof.Rows
open Sem (wp)
section
variable{prog:AK}{w:AR}{A:B6}{E:Au->AA->Prop}{s:AA}
theorem Zr{d:Addr}{o:Obj}{es:Array M0}{ep:Nat}{Q:Au->AA->Prop}(hd:(d==D6)=false)(hT:s.TypeIs (.ref d) "dict")(ho:s.heap.get? d=some o)(hdat:o.data=.dict es ep)
  (hQ:Q (.ref s.heap.objs.size) {s with heap:=s.heap.push {cls:=.type "dict_keyiterator",data:=.fields #[.ref d,.int 0 0,.int es.size 0,.int ep 0]}}) :
  wpAny (AM prog w) A (O3 (.ref d)) Q E s:=by
 refine NJ hT Ts (DI Ts hT F.entry_dict_iter ?_ (F.args_dict_iter_1 _));unfold Builtin.«dict.__iter__»;refine Ap ?_;unfold WB;refine Ap (wpAny_notOrdered_dict hT ?_);show wpAny _ _ (pure (AV d)) _ _ s;refine wpAny_pure ?_;show wpAny _ _ (O9 d >>= _) _ _ s;unfold O9;rw[if_neg (by rw[hd];exact BN)];refine Ap (wpAny_pure ?_);refine Ap (LD ho hdat ?_);refine Ap (OK ho hdat ?_);refine Ap (C5 (wpAny_pure ⟨_,rfl, "dict_keyiterator",_,⟨_,AU _ rfl,rfl⟩,Fn.lookup,?_⟩));simpa [F4] using hQ
theorem AAT{it d:Addr}{i ep:Nat}{es:Array M0}{od:Obj}{Q:Option Au->AA->Prop}(hit:s.heap.IsKeyIter it d i es.size ep)
  (hod:s.heap.get? d=some od) (hdd:od.data=.dict es ep) (hlt':i<es.size)
  (hQ:∀h',h'.IsKeyIter it d (i+1) es.size ep->ES it s.heap h'->Q (some es[i].key) {s with heap:=h'}) :
  wpAny (AM prog w) A (LH (.ref it)) Q E s:=by
 obtain ⟨o,ho,hc,hd⟩:=id hit;unfold LH;refine Ap (NA (wpAny_callSpecial?_slot (name:=IJ "__next__") hit.typeIs Fn
  (DI Fn hit.typeIs Mo ?_ (L8 _))))
 refine Ap (wpAny_pure ?_);refine Ap ?_;refine Ap ?_
 first | refine Ap (G5 hit.typeIs (wpAny_pure ?_)) | refine Ap (IL hit.typeIs (wpAny_pure ?_))
 refine Ap (Pc ho hd ?_);have hown:MH "dict_keyiterator" = false:=by decide
 simp only[hown,A7,if_false];show wpAny _ _ (if (AV d==CY)=true then _ else _) _ _ s;rw[if_neg (show ¬ ((AV d==CY)=true) from BN)];refine Ap (wpAny_pure ?_);refine Ap (LD hod hdd ?_);rw[if_neg (by simp)];refine Ap (wpAny_pure ?_);refine Ap (OK hod hdd ?_);rw[if_neg (by simp)];refine wpAny_pure ?_;simp only[show ¬ ((i:Int)<0) from by lia,if_false,CI,Bz hlt'];refine Ap ?_
 first | refine Ap (G5 hit.typeIs (wpAny_pure ?_)) | refine Ap (IL hit.typeIs (wpAny_pure ?_))
 refine Ap (Pd hit.typeIs ?_);show wpAny _ _ (P9 (.ref it) 1 (F4 ((i:Int)+1)) >>= _) _ _ s;refine Ap (IG ho hd (by simp) ?_);have hit':(s.heap.update it (NB (·.setIfInBounds 1 (F4 ((i:Int)+1))))).IsKeyIter it d (i+1) es.size ep :=
  ⟨_,EH _ ho (J3 (E8 hd _)),(Lu ..).trans hc,by rw[E8 hd];simp[F4]⟩
 refine Ap (D0 ?_);refine Ap (Pd (s:={s with heap:=s.heap.update it (NB (·.setIfInBounds 1 (F4 ((i:Int)+1))))}) hit'.typeIs ?_);show wpAny _ _ (pure es[i].key) _ _ _;exact wpAny_pure (wpAny_pure ⟨_,rfl,wpAny_pure (hQ _ hit' (D7 ..))⟩)
theorem ZW{it d:Addr}{i ep:Nat}{es:Array M0}{od:Obj}{Q:Option Au->AA->Prop}(hh:A.handled=none)(hit:s.heap.IsKeyIter it d i es.size ep)
  (hod:s.heap.get? d=some od) (hdd:od.data=.dict es ep) (hge:es.size<=i)
  (hQ:∀h',SS it s.heap h'->Q none {s with heap:=h'}):wpAny (AM prog w) A (LH (.ref it)) Q E s:=by
 obtain ⟨o,ho,hc,hd⟩:=id hit;unfold LH;refine Ap (NA (wpAny_callSpecial?_slot (name:=IJ "__next__") hit.typeIs Fn
  (DI Fn hit.typeIs Mo ?_ (L8 _))))
 refine Ap (wpAny_pure ?_);refine Ap ?_;refine Ap ?_
 first | refine Ap (G5 hit.typeIs (wpAny_pure ?_)) | refine Ap (IL hit.typeIs (wpAny_pure ?_))
 refine Ap (Pc ho hd ?_);have hown:MH "dict_keyiterator" = false:=by decide
 simp only[hown,A7,if_false];show wpAny _ _ (if (AV d==CY)=true then _ else _) _ _ s;rw[if_neg (show ¬ ((AV d==CY)=true) from BN)];refine Ap (wpAny_pure ?_);refine Ap (LD hod hdd ?_);rw[if_neg (by simp)];refine Ap (wpAny_pure ?_);refine Ap (OK hod hdd ?_);rw[if_neg (by simp)];refine wpAny_pure ?_;simp only[show ¬ ((i:Int)<0) from by lia,if_false,CI,Hc hge];refine Ap ?_
 first | refine Ap (G5 hit.typeIs (wpAny_pure ?_)) | refine Ap (IL hit.typeIs (wpAny_pure ?_))
 show wpAny _ _ (P9 (.ref it) 0 .none >>= _) _ _ s;refine Ap (IG ho hd (by simp) ?_);show wpAny _ _ (RO (.type "StopIteration") [] >>= _) _ _ _;refine Ap ?_;simp only[RO,W8];refine Ap (C5 ?_ (by size_fits));refine Ap (m:=J4 _ _) (LL (a:=CY) (by first | rfl | (simp only[J4];rfl)) ?_);refine C5 ?_ (by size_fits);simp only[Th];refine Ap (QP ?_);rw[show A.in1.handled=none from hh];refine Ap (wpAny_pure (SU ?_));refine Ap (IM (T:="StopIteration") (b:=true) ⟨_,AU _ rfl,rfl⟩ U0 ?_);exact wpAny_pure (hQ _ (((D7 ..).extBut.push _).push _))
end
end L2
end
section
namespace L2
open PySem PySem.Spec PyProof.Rows
section
variable{prog:AK}{w:AR}{A:B6}{E:Au->AA->Prop}{s:AA}{d:Addr}{o:Obj}{es:Array M0}{ep:Nat}
theorem Vq(hh:A.handled=none)(I:Addr)(hne:d≠I)(hd:o.data=.dict es ep) :
  Walks prog w A I [I,d] [I] es.size (λi v=>∃e,es[i]?=some e/\v=e.key) (λi h=>h.IsKeyIter I d i es.size ep/\h.get? d=some o) where
 sub:=λb hb=>by simp at hb;simp[hb]
 frame:=λ_ _ _ st hk=>⟨st.1.at λo e=>hk I (by simp) o e,hk d (by simp) o st.2⟩
 item:=λi s Q E hi st hQ=>by
  refine AAT st.1 st.2 hd hi λh' hit' hs'=>?_;exact hQ _ h' s.toks ⟨es[i],by simp[hi],rfl⟩ ⟨hit',hs'.extBut d o hne st.2⟩ λb o hb e=>hs'.extBut b o (λh=>hb (by simp[h])) e
 done:=λs Q E st hQ=>ZW hh st.1 st.2 hd (AE _) λh' he'=>hQ h' s.toks λb o hb e=>he' b o (λh=>hb (by simp[h])) e
 self:=λ_ _ _ _ st hQ=>wpAny_pyIter_keyiter st.1 hQ
theorem ACc(lo:(d==D6)=false)(hx:o.ExactDict)(hd:o.data=.dict es ep) :
  PySem.W.KdlSrc prog w "dict" d d es.size (λi v=>∃e,es[i]?=some e/\v=e.key) (λh=>h.get? d=some o) where
 type:=λ_ hm=>⟨o,hm,hx.1⟩
 there:=λ_ hm=>⟨BE hm,BE hm⟩
 keep:=λ_ _ hm hk=>hk d (.inl rfl) o hm
 notList:=by decide
 notTuple:=by decide
 hint:=λ_ _ _ _ hm hq=>PySem.W.kdl_hint_dict ⟨o,hm,hx.1⟩ hq
 iter:=λ_ _ hh hm=>⟨_,_,(λ_ _ hq=>Zr lo ⟨o,hm,hx.1⟩ hm hd hq),Vq hh _ (Cn (BE hm)) hd,⟨⟨_,AU _ rfl,rfl,rfl⟩,AH _ hm⟩⟩
end
def KeyL(H:Hp):List (List Key×V)->List V->Prop:=A9 λkv y=>∃b,y=.ref b/\H b=some (.tup (kv.1.map kV))
section
variable{X:Cx}
theorem Xp{H:Hp}:∀{kvs:List (List Key×V)}{xs:List (List Key×Addr×Au)},KT H kvs xs->KeyL H kvs (xs.map λx=>.ref x.2.1)
 | _,_,.nil=>.nil
 | _,_,.cons h t=>.cons ⟨_,rfl,h.2.1⟩ (Xp t)
theorem Qi(hc:X.calm=true):CallR X (.type "list") (λxs H Q=>∃p kvs,xs=[.ref p]/\H p=some (.dT kvs)/\∀l ys,H l=none->KeyL H kvs ys->Q (.ref l) (upd H l (.lst ys))):=by
 intro pins s σ H xs us Q I rr h;obtain ⟨p,kvs,rfl,hp,q⟩:=h;obtain ⟨u,rfl,ru⟩:=rr.one;cases ru;obtain ⟨z,lo,ts,kt,o,es,ep,h1,h2,h3,h4,h5⟩:=(show ObjOk X.prog X.w H s.heap p (.dT kvs) from I.hok p _ hp);have hl:es.size=kvs.length:=by
  rw[<- AX,h4,AB];exact (AQ kt).symm
 refine PySem.W.kdl_call (ACc lo h2 h3) (I.ok.hd hc) h1 (by rw[hl];exact z) λh' tk acc' c' hk hS hacc=>?_;have hn:H s.heap.objs.size=none:=I.hok.fresh (AE _);refine ⟨.ref s.heap.objs.size,_,I.laid (a:=s.heap.objs.size) (o:=.lst (ts.map λx=>V.ref x.2.1)) (t':=tk) hk (AE _) ⟨?_,acc'.toList,c',?_,?_⟩,rfl,q _ _ hn (Xp kt)⟩
 ·rw[AB,<- AQ kt];exact z
 ·refine Ji (by rw[AB];exact (AQ kt).symm.trans (hl.symm.trans (hacc.1.symm.trans (AX).symm))) λi x u e1 e2=>?_
  have e2':acc'[i]?=some u:=by simpa using e2
  obtain ⟨e,e3,rfl⟩:=hacc.2 i u e2';rw[<- B8,h4,A2] at e3;rw[A2] at e1;cases g:ts[i]? with
  | none=>rw[g] at e1;cases e1
  | some t =>
   rw[g] at e1 e3;cases e1;cases e3;rfl
 ·simpa using hS
end
end L2
end
section
namespace L2
open PySem PySem.Spec PyProof.Rows
open Sem (wp)
end L2
end
section
namespace L2
open PySem PySem.Spec PyProof.Rows
end L2
end
section
namespace L2
open PySem PySem.Spec PyProof.Rows
open Sem (wp)
end L2
end
section
namespace L2
open PySem PySem.Spec PyProof.Rows
theorem HJ:∀ns:List Int,HT.lexLt ns ns=false
 | []=>rfl
 | x::xs=>by rw[HT.CW,if_pos rfl];exact HJ xs
section
variable{X:Cx}
def rAddT(K:As):R2:=λx y H Q=>∃a b xs ys,x=.ref a/\y=.ref b/\SqT K H a xs/\SqT K H b ys/\xs.length+ys.length<=sizeLine /\
 (xs=[]->Q (.ref b) H)/\(xs≠[]->ys=[]->Q (.ref a) H)/\(xs≠[]->ys≠[]->∀p,H p=none->Q (.ref p) (upd H p (.tup (xs++ys))))
theorem ADH:OpR X (F5 .Add) (rAddT X.K):=by
 intro pins s σ H x y v u Q I rx ry h;obtain ⟨a,b,xs,ys,rfl,rfl,ha,hb,hz,q0,q1,q2⟩:=h;by_cases e:xs=[]
 ·cases rx;cases ry
  obtain ⟨its,r1,p1,_⟩:=I.tuple ha;obtain ⟨its2,r2,p2,_⟩:=I.tuple hb;subst e;cases r1;obtain ⟨⟨cls,dd,data,sl⟩,ho,hc,n,hd⟩:=id p1;obtain ⟨⟨cls2,dd2,Wp,sl2⟩,ho2,hc2,n2,hd2⟩:=id p2;simp only at hc hd hc2 hd2;subst hc hd hc2 hd2;exact N4 ⟨_,ho,rfl⟩ ⟨_,ho2,rfl⟩ N5 QN LJ K9 (KS _ _)
   (tuple_addW0 a b #[] its2.toArray n n2 dd dd2 sl sl2 rfl) ⟨ho,ho2,⟨.ref b,H,I,rfl,q0 rfl⟩⟩
 ·exact ACu pins s σ H _ _ v u Q I rx ry ⟨a,b,xs,ys,rfl,rfl,ha,hb,e,hz,q1 e,q2 e⟩
end
end L2
end
section
namespace NW
open PySem L2
end NW
end
section
namespace L2
open PySem PySem.Spec PyProof.Rows
open AutoSeq1 (wpAny_loadPart')
section
variable{prog:AK}{w:AR}{A:B6}{E:Au->AA->Prop}{s:AA}
theorem MP{Q:List Au->AA->Prop}{r:Addr}{a b c:Int}{t u v:Tok}{n:Nat}(hh:A.handled=none)(hr:IsRange s.heap r a b c t u v)(hsmall:KB a b c=true)
  (hn:Fu a b c=n) (hlen:n<=2 ^ 24)
  (hQ:∀h' tk acc,(∀b o,s.heap.get? b=some o->h'.get? b=some o)->ItemsOf (λi v=>∃t,v=.int (a+i*c) t) acc n->Q acc.toList {s with heap:=h',toks:=tk}) :
  wpAny (AM prog w) A (O8 (.ref r)) Q E s:=by
 unfold O8;refine Ap (MG (EW M5 ?_));rw[Fs M6 _];show wpAny _ A.in1 (Sm [] >>= λl=>again (.builtin "list.__iadd__" ⟨[l,.ref r],[]⟩)) _ _ s;refine Ap (C5 ?_);refine wpAny_pure ⟨LP IU _,EW OC ?_⟩;rw[Fs IU _];have hS:(s.heap.push {cls:=.type "list",data:=.seq ([]:List Au).toArray}).get? s.heap.objs.size=some {cls:=.type "list",data:=.seq #[] 0}:=AU _ rfl;show wpAny _ A.in1 (EN (.ref s.heap.objs.size) (.ref r) (.ref s.heap.objs.size)) _ _ _;have fin':∀(h':Heap) (tk:Nat) (acc':Array Au) (c':Nat),(∀b o,b≠s.heap.objs.size->(s.heap.push {cls:=.type "list",data:=.seq ([]:List Au).toArray}).get? b=some o->h'.get? b=some o)->h'.get? s.heap.objs.size=some {cls:=.type "list",dict:=none,data:=.seq acc' c',slots:=#[]} ->
   ItemsOf (λi v=>∃t,v=.int (a+i*c) t) acc' n->wpAny (AM prog w) A (match AV s.heap.objs.size with
   | AV a=>do
    match (<- load a).data with
     | W6 xs _=>pure xs.toList
     | _=>unsupported "internal:collect"
   | _=>unsupported "internal:collect") Q E {s with heap:=h',toks:=tk}:=λh' tk acc' c' hk hS' hacc=>by
  show wpAny _ A (load s.heap.objs.size >>= _) _ _ _;refine Ap (PQ hS' ?_);refine wpAny_pure ?_;exact hQ h' tk acc' (λb o e=>hk b o (Cn (BE e)) (AH _ e)) hacc
 refine EE (wpAny_extend_range (A:=A) (R:=λr s'=>∃h' tk acc' c',r=.ok (.ret (.ref s.heap.objs.size))/\s'={s with heap:=h',toks:=tk}/\(∀b o,b≠s.heap.objs.size->(s.heap.push {cls:=.type "list",data:=.seq ([]:List Au).toArray}).get? b=some o->h'.get? b=some o)/\h'.get? s.heap.objs.size=some {cls:=.type "list",dict:=none,data:=.seq acc' c',slots:=#[]}/\ItemsOf (λi v=>∃t,v=.int (a+i*c) t) acc' n)
  (s:={s with heap:=s.heap.push {cls:=.type "list",data:=.seq ([]:List Au).toArray}}) hh (AH _ hr) hsmall hn hlen s.heap.objs.size (.ref s.heap.objs.size) 0 hS λh' tk acc' c' hk hS' hacc=>⟨h',tk,acc',c',rfl,rfl,hk,hS',hacc⟩) (λfin s' h=>?_) (λe s' h=>?_)
 ·cases fin with
  | done f =>
   obtain ⟨h',tk,acc',c',e,rfl,hk,hS',hacc⟩:=h;cases e;exact fin' h' tk acc' c' hk hS' hacc
  | again c'=>exact ⟨h.1,FG h.2 λr s'' hr=>by obtain ⟨h',tk,acc',c',rfl,rfl,hk,hS',hacc⟩:=hr;exact fin' h' tk acc' c' hk hS' hacc⟩
 ·obtain ⟨_,_,_,_,e,_⟩:=h
  cases e
end
theorem meets_tuple_range(r:Addr)(a b c:Int)(t u v:Tok)(n:Nat)(hsmall:KB a b c=true)(hn:Fu a b c=n)(hlen:n<=1000) :
  Meets (Builtin.«tuple.__new__» ⟨[.type "tuple",.ref r],[]⟩)
   (λA R s=>A.handled=none/\IsRange s.heap r a b c t u v/\∀(h':Heap) (tk:Nat) (acc:Array Au),(∀b o',s.heap.get? b=some o'->h'.get? b=some o')->ItemsOf (λi v=>∃t,v=.int (a+i*c) t) acc n ->
    R (.ok (.ret (.ref h'.objs.size))) {s with heap:=h'.push {cls:=.type "tuple",data:=.seq acc},toks:=tk}) :=
 .of_wp λprog w A R s h=>by
  obtain ⟨hp,g,d,tk,os⟩:=s;obtain ⟨hh,ht,h⟩:=h;have hsub:=sub_tuple_self;have hinit:=init_tuple_lookup;have hmh:=madeHere_tuple;have hT:VU ⟨hp,g,d,tk,os⟩ (.ref r) "range":=⟨_,ht,rfl⟩
  wp_walk using wpAny_loadPart' ht,KU hT,MP (A:=A.in1) hh ht hsmall hn (by lia)
  intro h' tk' acc hk hacc;show wpAny _ _ (E6 acc.toList.toArray >>= λv=>ret v) _ _ _;unfold E6;refine Ap (C5 ?_ (by show acc.toList.toArray.size<=sizeLine;rw[P4,hacc.1];exact small hlen));refine wpAny_pure ⟨_,rfl,?_⟩;have e:acc.toList.toArray=acc:=by simp
  rw[e];exact h h' tk' acc hk hacc
section
variable{X:Cx}
theorem GJ(hc:X.calm=true):CallR X (.type "tuple") (λxs H Q=>∃r j,xs=[.ref r]/\H r=some (.rng 0 j)/\0<=j/\j<=1000/\∀l,H l=none->Q (.ref l) (upd H l (.tup ((below j.toNat).map V.int)))):=by
 intro pins s σ H xs us Q I rr h;obtain ⟨r,j,rfl,hr,j0,j1,q⟩:=h;obtain ⟨u,rfl,ru⟩:=rr.one;cases ru;obtain ⟨t1,t2,t3,e⟩:=I.hok r _ hr;refine callType_new PySem.F.called_tuple (by decide) (PySem.F.typeCall_tuple_1 _) (PySem.F.newCall_tuple_1 _) (λobj=>PySem.F.args_object_init_2 obj _) PySem.F.entry_tuple_new
  (meets_tuple_range r 0 j 1 t1 t2 t3 j.toNat (U7 (by lia) (by lia) (by lia) (by lia)) (by rw[QI];split<;>lia) (by lia)) ⟨I.ok.hd hc,e,λh' tk acc hk hacc=>⟨⟨_,AU _ rfl,rfl⟩,?_⟩⟩
 have I1:Inv X pins σ H {s with heap:=h',toks:=tk}:=I.kept hk;have hn:H h'.objs.size=none:=I1.hok.fresh (AE _);refine ⟨.ref h'.objs.size,_,I1.laid (a:=h'.objs.size) (o:=.tup ((below j.toNat).map V.int)) (t':=tk) (λb o e=>AH _ e) (AE _) ⟨?_,acc.toList,?_,⟨_,AU _ rfl,rfl,0,by simp⟩⟩,rfl,q _ hn⟩
 ·rw[AB,AB,BD]
  exact small (by lia)
 ·refine Ji (by simp[hacc.1]) λi x u h1 h2=>?_
  have h2':acc[i]?=some u:=by simpa using h2
  obtain ⟨t,rfl⟩:=hacc.2 i u h2';have hi:i<j.toNat:=by
   have:=(C9.mp h2').1;rw[hacc.1] at this;exact this
  rw[A2,A2,D8 hi] at h1;have ex:x=.int (i:Int):=(BH h1).symm;subst ex;exact ⟨t,by rw[SL,W9]⟩
end
end L2
end
section
namespace ST
open PySem PySem.SetTable
theorem Br:∀{l₁ l₂:List Nat},l₁.Nodup->(∀x∈l₁,x∈l₂)->l₁.length<=l₂.length
 | [],_,_,_=>A8 _
 | a::t,l₂,nd,hs=>by
  obtain ⟨n1,n2⟩:=CU.mp nd;have ha:a∈l₂:=hs a AC;have hl:(l₂.erase a).length=l₂.length-1:=E9 ha;have ih:=Br (l₂:=l₂.erase a) n2 λx hx=>(IA (λ(e:x=a)=>n1 (by rw[<- e];exact hx))).mpr (hs x (AG _ hx));have:0<l₂.length:=EU ha;simp;lia
namespace F
end F
end ST
end
section
namespace ST
open PySem PySem.W PyProof.Rows
end ST
end
section
namespace L2
open PySem PySem.Spec PyProof.Rows
theorem Sx{prog:AK}{w:AR}:∀{ns:List Int}{us:List Au},Vals (ns.map V.int) us->ItemsAre (K5 prog w) ns us
 | [],_,.nil=>.nil
 | n::ns,_,.cons ⟨t,e⟩ r=>by
  subst e;exact .cons (intKind_is prog w n t) (Sx r)
end L2
end
section
namespace ST
open PySem PySem.W PyProof.Rows
end ST
end
section
namespace L2
open PySem PySem.Spec PyProof.Rows
end L2
end
section
namespace SI
open PySem PySem.SetTable ST PyProof.Rows
section
variable{prog:AK}{w:AR}{A:B6}{E:Au->AA->Prop}{s:AA}{S:Addr}{es:Array (Int×Au)}{t:C7}{ks:List Int}
def Added(ks:List Int)(k:Int)(ks':List Int):Prop:=(k∈ks/\ks'=ks)\/(k∉ks/\ks'.Perm (k::ks))
end
end SI
end
section
namespace SI
open PySem PySem.SetTable ST
open PyProof.Rows (IntsAre)
end SI
end
section
namespace SI
open PySem PySem.SetTable ST PyProof.Rows
end SI
end
section
namespace L2
open PySem PySem.Spec PyProof.Rows
end L2
end
section
namespace SI
open PySem PySem.SetTable ST PyProof.Rows
end SI
end
section
namespace L2
open PySem PySem.Spec PyProof.Rows
section
variable{X:Cx}{K:As}
theorem min_list(hc:X.calm=true):CallR X (.builtin "min") (λxs H Q=>∃(p:Addr) (ns:List Int),xs=[.ref p]/\SqL X.K H p (ns.map V.int)/\0<ns.length/\∀m,m∈ns->(∀a∈ns,m<=a)->Q (.int m) H):=by
 intro pins s σ H xs us Q I r h;obtain ⟨p,ns,rfl,hq,hne,q⟩:=h;obtain ⟨u0,rfl,ru⟩:=r.one;cases ru;obtain ⟨its,rv,pl,hz⟩:=I.list hq;have hi:=intsAre_of rv;have hl:=pl.isList;obtain ⟨ys,e⟩:=hi.allInts.items;have hns:ns=ys.toList.map (·.1):=by rw[<- hi.numsOf,<- nums_intItems,<- e]
 have hsz:0<ys.size:=by
  rw[hns,AB,AX] at hne;exact hne
 rw[e] at hl;refine min_intList (I.ok.hd hc) hl hsz λv h' tk hv hk=>?_;obtain ⟨t,rfl⟩:=intItems_at hv;obtain ⟨h1,h2⟩:=argBest_lt (P6 ys) (ys.size-1);refine ⟨.int (P6 ys (argBest (λi j=>decide (P6 ys i<P6 ys j)) (ys.size-1))),H,I.kept hk,⟨t,rfl⟩,q _ ?_ λa ha=>?_⟩
 ·rw[hns,To]
  exact getD_mem (by rw[AB,AX];lia)
 ·rw[hns] at ha
  obtain ⟨j,hj,rfl⟩:=mem_getD ha;rw[AB,AX] at hj;rw[<- To];exact h2 j (by lia)
def rNeT(K:As){α:Type}[DecidableEq α](R:Rep α):R2:=λx y H Q=>∃as bs,rTup K R H as x/\rTup K R H bs y/\Q (.bl (!decide (as=bs))) H
theorem AFs{α:Type}[DecidableEq α]{n:Nat}{R:Rep α}(D:Dat X n R)(hu:X.A.units+(n+1)<CO):OpR X (DZ .NotEq) (rNeT X.K R):=by
 intro pins s σ H x y v u Q I rx ry h;obtain ⟨as,bs,⟨p,xs,rfl,hp,pa⟩,⟨q,ys,rfl,hq,pb⟩,h⟩:=h;cases rx;cases ry;obtain ⟨its,ra,ta,_⟩:=I.tuple hp;obtain ⟨jts,rb,tb,_⟩:=I.tuple hq;have l1:as.length=its.toArray.size:=by rw[AZ,<- ra.length];exact AQ pa
 have l2:bs.length=jts.toArray.size:=by rw[AZ,<- rb.length];exact AQ pb
 refine YE (e:=λj=>decide (as[j]?=bs[j]?)) ta tb (by lia) (D.place (A:=X.A.in1) I (by show X.A.units+1+n<CO;lia) pa pb ra rb) X.prog X.w _ _ ?_;rw[Gy l1 l2];exact ⟨.bl _,H,I,rfl,h⟩
theorem AEM{α:Type}[DecidableEq α]{n:Nat}{R:Rep α}(D:Dat X n R)(hu:X.A.units+(n+1)<CO)(hK:X.K=K):OpR X (DZ .NotEq) (rNeT K R):=by subst hK;exact AFs D hu
theorem ADK(hK:X.K=K):SlR X (rSlT K):=by subst hK;exact AFU
theorem Zg(hK:X.K=K)(hc:X.calm=true):CallR X (.builtin "min") (λxs H Q=>∃(p:Addr) (ns:List Int),xs=[.ref p]/\SqL K H p (ns.map V.int)/\0<ns.length/\∀m,m∈ns->(∀a∈ns,m<=a)->Q (.int m) H):=by subst hK;exact min_list hc
end
def eD(a b:Int×List (List Int)×Int)(j:Nat):Bool:=if j=0 then decide (a.1=b.1) else if j=1 then decide (a.2.1=b.2.1) else decide (a.2.2=b.2.2)
end L2
end
section
namespace HT
open PySem PyProof.Rows
end HT
end
section
namespace ST
open PySem PySem.W PyProof.Rows
end ST
end
section
namespace L2
open PySem PySem.Spec PyProof.Rows
end L2
end
section
namespace ST
open PySem PySem.SetTable
end ST
namespace L2
open PySem PySem.Spec PyProof.Rows
end L2
end
section
namespace NK
open PySem
section
variable{P:AK}{w:AR}{κ:Type}[DecidableEq κ](kd:KeyKind P w κ)
def IsP(g:Heap)(p:κ×List κ)(x:Addr):Prop:=∃ob its c v b,g.get? x=some ob/\ob.cls=.type "tuple"/\ob.data=.seq its c/\its.toList=[v,.ref b]/\kd.is p.1 v=true/\T9 kd g p.2 b
def hashP(p:κ×List κ):Int:=Qb (KI [kd.hash p.1,L9 kd p.2])
variable{kd}
theorem IsP.ty{s:AA}{p:κ×List κ}{x:Addr}(h:IsP kd s.heap p x):s.TypeIs (.ref x) "tuple":=by
 obtain ⟨ob,_,_,_,_,e,c,_⟩:=h;exact ⟨ob,e,c⟩
theorem IsP.one{g:Heap}{p q:κ×List κ}{x:Addr}(h:IsP kd g p x)(h':IsP kd g q x):p=q:=by
 obtain ⟨ob,its,c,v,b,e,_,d,l,k,t⟩:=h;obtain ⟨ob',its',c',v',b',e',_,d',l',k',t'⟩:=h';obtain rfl:ob=ob':=BH (e.symm.trans e');rw[d] at d';obtain ⟨rfl,rfl⟩:its=its'/\c=c':=by cases d';exact ⟨rfl,rfl⟩
 rw[l] at l';injection l' with z1 z2
 injection z2 with z2 _
 injection z2 with z2
 subst z1;subst z2;exact Kb (kd.inj _ _ _ k k') (t.inj t')
theorem IsP.stays{g g':Heap}{p:κ×List κ}{x y:Addr}{ob:Obj}{es ep}(h:IsP kd g p x)(e:g.get? y=some ob)(d:ob.data=.dict es ep)(sb:ES y g g'):IsP kd g' p x:=by
 obtain ⟨o1,its,c,v,b,e1,c1,d1,l,k,t⟩:=h;have ne:x≠y:=λz=>by
  rw[z,e] at e1;cases e1;rw[d] at d1;cases d1
 exact ⟨o1,its,c,v,b,(sb.2 x ne).trans e1,c1,d1,l,k,t.keeps e d sb⟩
variable{A:B6}{E:Au->AA->Prop}{s:AA}
theorem Zv{p:κ×List κ}{x:Addr}{R:Int->AA->Prop}(hu:A.units+1<CO)(h:IsP kd s.heap p x)(q:R (hashP kd p) {s with toks:=s.toks+(p.2.length+3)}):wpAny (AM P w) A (pyHash (.ref x)) R E s:=by
 have ty:=h.ty;obtain ⟨ob,its,c,v,b,e,_,d,l,k,t⟩:=h;unfold pyHash
 first | unfold pyHashByItsType | skip
 first | refine Ap (wpAny_cRoomFor_or (.inr (by lia)) ?_) | skip
 refine Ap (HG ty IX.lookup ?_);show wpAny _ _ (if (some (Value.builtin "tuple.__hash__")==some CY)=true then _ else _) _ _ _;rw[if_neg (by rw[Tu];exact BN)];refine Ap (HG ty IX.lookup ?_);show wpAny _ _ (callSpecialIfBoundUnlessNone? (.ref x) "__hash__" _ >>= _) _ _ _;refine Ap (wpAny_callSpecialIfBoundUnlessNone?_slot ty IX (DI IX ty PySem.F.entry_tuple_hash ?_ (PySem.F.args_tuple_hash_1 _)));show wpAny _ _ (Nl (.ref x) >>= _) _ _ _;refine Ap (M7 e d (Ap ?_));rw[<- JO,l];refine FK _ (λrest (z:Array Int) s'=>(rest=[v,.ref b]/\z=#[]/\s'=s)\/(rest=[.ref b]/\z=#[kd.hash p.1]/\s'={s with toks:=s.toks+1})\/(rest=[]/\z=#[kd.hash p.1,L9 kd p.2]/\s'={s with toks:=s.toks+1+(p.2.length+1)}))
  _ ?_ ?_ _ _ (.inl ⟨rfl,rfl,rfl⟩)
 ·rintro y rest z s' (⟨er,rfl,rfl⟩ | ⟨er,rfl,rfl⟩ | ⟨er,_⟩)
  ·cases er
   refine Ap (kd.pyHash k ?_)
   first
    | exact wpAny_pure (.inr (.inl ⟨rfl,rfl,rfl⟩))
    | exact Ap (wpAny_pure (wpAny_pure (.inr (.inl ⟨rfl,rfl,rfl⟩))))
  ·cases er
   refine Ap (R7 (by show A.units+1<CO;exact hu) t ?_)
   first
    | exact wpAny_pure (.inr (.inr ⟨rfl,rfl,rfl⟩))
    | exact Ap (wpAny_pure (wpAny_pure (.inr (.inr ⟨rfl,rfl,rfl⟩))))
  ·cases er
 ·rintro z s' (⟨er,_⟩ | ⟨er,_⟩ | ⟨_,rfl,rfl⟩)
  ·cases er
  ·cases er
  ·have et:{s with toks:=s.toks+1+(p.2.length+1)+1}={s with toks:=s.toks+(p.2.length+3)}:=by
    congr 1
    lia
   show wpAny _ _ (retInt (KI [kd.hash p.1,L9 kd p.2])) _ _ _;refine Uf ?_;unfold hashP Qb at q;generalize KI [kd.hash p.1,L9 kd p.2]=hv at q;show wpAny _ _ (if (decide (-(2:Int) ^ 63<=hv)&&decide (hv<2 ^ 63))=true then _ else _) _ _ _;by_cases c0:(decide (-(2:Int) ^ 63<=hv)&&decide (hv<2 ^ 63))=true
   ·rw[if_pos c0] at q ⊢
    refine wpAny_pure ?_;rw[<- et] at q;exact q
   ·rw[if_neg c0] at q ⊢
    refine Ap (Iy (wpAny_pure ?_));rw[<- et] at q;exact q
theorem ACw{p q:κ×List κ}{x y:Addr}{R:Fin->AA->Prop}(hu:A.units<CO)(h:IsP kd s.heap p x)(h':IsP kd s.heap q y)(r:R (.done (.ret (.bool (decide (p=q))))) s) :
  wpAny (AM P w) A (Builtin.«tuple.__eq__» ⟨[.ref x,.ref y],[]⟩) R E s:=by
 have ty:=h'.ty;obtain ⟨o1,i1,c1,v1,b1,e1,_,d1,l1,k1,t1⟩:=h;obtain ⟨o2,i2,c2,v2,b2,e2,_,d2,l2,k2,t2⟩:=h';show wpAny _ _ (P7 (.ref y) (.type "tuple") >>= _) _ _ _;refine Ap (IM ty LY ?_);simp only[Ev,A7,if_false];refine Ap (M7 e1 d1 (Ap (M7 e2 d2 (Ap ?_))));have sz:(i1.size==i2.size)=true:=by
  have z1:i1.size=2:=by rw[<- AX,l1];rfl
  have z2:i2.size=2:=by rw[<- AX,l2];rfl
  rw[z1,z2];rfl
 rw[l1,l2];refine FK _ (λrest z s'=>z.1=none/\s'=s/\(rest=[(v1,v2),(.ref b1,.ref b2)]\/(rest=[(.ref b1,.ref b2)]/\p.1=q.1)\/(rest=[]/\p=q))) _ ?_ ?_ _ _ ⟨rfl,rfl,.inl rfl⟩
 ·rintro⟨u,v⟩ rest z s' ⟨hz,rfl,er | ⟨er,pq⟩ | ⟨er,_⟩⟩
  ·cases er
   refine Ap (kd.eqBool (a:=p.1) (b:=q.1) k1 k2 ?_);by_cases c:p.1=q.1
   ·rw[decide_eq_true c]
    simp only[Ev,A7,if_false];exact wpAny_pure ⟨rfl,rfl,.inr (.inl ⟨trivial,c⟩)⟩
   ·rw[decide_eq_false c]
    simp only[ML,if_true];rw[decide_eq_false (λz=>c (by rw[z]))] at r;exact Ap (wpAny_pure (wpAny_pure (wpAny_pure r)))
  ·cases er
   refine Ap (R8 hu t1 t2 ?_);by_cases c:p.2=q.2
   ·rw[decide_eq_true c]
    simp only[Ev,A7,if_false];exact wpAny_pure ⟨rfl,rfl,.inr (.inr ⟨trivial,Kb pq c⟩)⟩
   ·rw[decide_eq_false c]
    simp only[ML,if_true];rw[decide_eq_false (λz=>c (by rw[z]))] at r;exact Ap (wpAny_pure (wpAny_pure (wpAny_pure r)))
  ·cases er
 ·rintro⟨z1,z2⟩ s' ⟨hz,rfl,er | ⟨er,_⟩ | ⟨_,pq⟩⟩
  ·cases er
  ·cases er
  ·dsimp only at hz
   subst hz;refine wpAny_pure ?_;rw[decide_eq_true pq] at r;show R (.done (.ret (.bool (i1.size==i2.size)))) s';rw[sz];exact r
theorem ADS{p q:κ×List κ}{x y:Addr}{R:Bool->AA->Prop}(hu:A.units+1<CO)(h:IsP kd s.heap p x)(h':IsP kd s.heap q y)(r:R (decide (p=q)) s):wpAny (AM P w) A (eqBool (.ref x) (.ref y)) R E s:=by
 unfold eqBool
 try with_reducible refine D0 ?_
 show wpAny _ _ (if (AV x==AV y)=true then _ else _) _ _ _;by_cases c:(AV x==AV y)=true
 ·rw[if_pos c]
  obtain rfl:x=y:=by have z:=eq_of_beq c;injection z
  obtain rfl:=h.one h';rw[decide_eq_true rfl] at r;exact Ap (Iy (wpAny_pure r))
 ·rw[if_neg c]
  refine Ap (wpAny_richCompare_same_room (op:=.Eq) h.ty h'.ty J5 (DI J5 h.ty PySem.F.entry_tuple_eq (ACw ?_ h h' ⟨_,rfl,(λe=>nomatch e),HM r⟩) (PySem.F.args_tuple_eq_2 _ _)) (by lia));show A.units+1<CO;exact hu
theorem Ru{ks:List κ}{x:Addr}{n:Nat}{R:Bool->AA->Prop}(h:T9 kd s.heap ks x)(r:R true s):wpAny (AM P w) A (R9 (n+1) (.ref x)) R E s:=by
 have ty:=h.typeIs;obtain ⟨ob,its,c,e,_,d,ia⟩:=h;unfold R9;refine Ap (HG ty J5.lookup ?_);show wpAny _ _ (P7 (.ref x) (.type "tuple") >>= _) _ _ _;refine Ap (IM ty LY ?_);simp only[Ev,A7,if_false];refine Ap (J2 e d (Ap ?_));show wpAny _ _ (forIn its _ _) _ _ _;rw[<- JO];refine FK _ (λrest z s'=>z.1=none/\s'=s/\∀v∈rest,U1 v=true) _ (λv rest z s' ⟨hz,es,al⟩=>?_) (λz s' ⟨hz,es,_⟩=>?_) _ _ ⟨rfl,rfl,ia.byValue⟩
 ·subst es
  rw[SC _ (al v AC)];refine Ap (wpAny_pure ?_);simp only[Ev,A7,if_false];exact wpAny_pure ⟨rfl,rfl,λu h=>al u (AG _ h)⟩
 ·subst es
  obtain ⟨z1,z2⟩:=z;dsimp only at hz;subst hz;exact wpAny_pure r
theorem WX{p:κ×List κ}{x:Addr}{R:Bool->AA->Prop}(h:IsP kd s.heap p x)(r:R true s):wpAny (AM P w) A (R9 8 (.ref x)) R E s:=by
 have ty:=h.ty;obtain ⟨ob,its,c,v,b,e,_,d,l,k,t⟩:=h;unfold R9;refine Ap (HG ty J5.lookup ?_);show wpAny _ _ (P7 (.ref x) (.type "tuple") >>= _) _ _ _;refine Ap (IM ty LY ?_);simp only[Ev,A7,if_false];refine Ap (J2 e d (Ap ?_));show wpAny _ _ (forIn its _ _) _ _ _;rw[<- JO,l];refine FK _ (λrest z s'=>z.1=none/\s'=s/\(rest=[v,.ref b]\/rest=[.ref b]\/rest=[])) _ (λu rest z s' ⟨hz,es,er⟩=>?_) (λz s' ⟨hz,es,_⟩=>?_) _ _ ⟨rfl,rfl,.inl rfl⟩
 ·subst es
  rcases er with er | er | er
  ·cases er
   rw[SC _ (kd.byValue _ _ k)];refine Ap (wpAny_pure ?_);simp only[Ev,A7,if_false];exact wpAny_pure ⟨rfl,rfl,.inr (.inl trivial)⟩
  ·cases er
   refine Ap (Ru t ?_);simp only[Ev,A7,if_false];exact wpAny_pure ⟨rfl,rfl,.inr (.inr trivial)⟩
  ·cases er
 ·subst es
  obtain ⟨z1,z2⟩:=z;dsimp only at hz;subst hz;exact wpAny_pure r
end
def Ds{P:AK}{w:AR}{κ:Type}[DecidableEq κ](kd:KeyKind P w κ):HeapKind P w (κ×List κ) where
 is:=IsP kd
 hash:=hashP kd
 draws:=λp=>p.2.length+3
 room:=λA=>A.units+1<CO
 inj:=λa b=>a.one b
 keeps:=λa b c d=>a.stays b c d
 pyHash:=λa b c=>Zv a b c
 eqBool:=λa b c d=>ADS a b c d
 quiet:=λa b=>WX a b
end NK
end
section
namespace L2
open PySem
abbrev PKey:=Key×List Key
def dN(P:AK)(w:AR)(a:Addr)(xs:List (PKey×Addr×Au)):HO:=.ext λg=>∃o es ep,g.get? a=some o/\o.ExactDict/\o.data=.dict es ep/\es.toList=xs.map (TK (NK.Ds (Bu P w)))/\(xs.map (·.1)).Nodup
def NKey(H:Hp)(p:PKey)(x:Addr):Prop:=∃b,H x=some (.tup [kV p.1,.ref b])/\H b=some (.tup (p.2.map kV))
abbrev KN(H:Hp):List (PKey×V)->List (PKey×Addr×Au)->Prop:=A9 λp q=>p.1=q.1/\NKey H p.1 q.2.1/\RelV p.2 q.2.2
def DN(P:AK)(w:AR)(H:Hp)(a:Addr)(kvs:List (PKey×V)):Prop:=kvs.length<=sizeLine/\(a==D6)=false/\∃xs,H a=some (dN P w a xs)/\KN H kvs xs
end L2
end
section
namespace RT
open PySem
end RT
namespace L2
open PySem
end L2
end
section
namespace NK
open PySem
def oIs:Option Int->Au->Bool
 | some i,v=>MR i v
 | none,v=>match v with
  | .none=>true
  | _=>false
def oHash:Option Int->Int
 | some i=>hashInt i
 | none=>Qb 0xFCA86420
theorem Cm:∀{k:Option Int}{v:Au},oIs k v=true->(∃i t,k=some i/\v=KP i t)\/(k=none/\v=CY)
 | some i,v,h=>by
  obtain ⟨t,e⟩:=G3 (k:=i) (v:=v) h;exact .inl ⟨i,t,rfl,e⟩
 | none,v,h=>by
  cases v<;>first | exact .inr ⟨rfl,rfl⟩ | cases h
theorem hash_none{P:AK}{w:AR}{A:B6}{E:Au->AA->Prop}{s:AA}{Q:Int->AA->Prop}(h:Q (Qb 0xFCA86420) {s with toks:=s.toks+1}):wpAny (AM P w) A (pyHash .none) Q E s :=
 PySem.W.pyHash_slot (T:="NoneType") rfl PySem.F.slot_NoneType_hash PySem.F.entry_NoneType_hash (PySem.F.args_NoneType_hash_1 _) (Tu _) (.inl rfl) (Ap (wpAny_pure (Ap (wpAny_mkInt (wpAny_pure ⟨_,_,rfl,h⟩)))))
def optKind(P:AK)(w:AR):KeyKind P w (Option Int) where
 is:=oIs
 hash:=oHash
 inj:=λv a b ha hb=>by
  rcases Cm ha with⟨i,t,rfl,rfl⟩ | ⟨rfl,rfl⟩
  ·rcases Cm hb with⟨j,u,rfl,e⟩ | ⟨rfl,e⟩
   ·injection e with e1 _;rw[e1]
   ·cases e
  ·rcases Cm hb with⟨j,u,rfl,e⟩ | ⟨rfl,e⟩
   ·cases e
   ·rfl
 byValue:=λk v h=>by
  rcases Cm h with⟨i,t,rfl,rfl⟩ | ⟨rfl,rfl⟩<;>rfl
 pyHash:=λhv h=>by
  rcases Cm hv with⟨i,t,rfl,rfl⟩ | ⟨rfl,rfl⟩
  ·exact SY h
  ·exact hash_none h
 eqBool:=λhu hv h=>by
  rcases Cm hu with⟨i,t,rfl,rfl⟩ | ⟨rfl,rfl⟩
  ·rcases Cm hv with⟨j,u,rfl,rfl⟩ | ⟨rfl,rfl⟩
   ·have e:decide ((some i:Option Int)=some j)=(i==j):=by
     by_cases c:i=j
     ·subst c;simp
     ·rw[decide_eq_false (λz=>c (BH z))]
      exact (beq_eq_false_iff_ne.mpr c).symm
    rw[e] at h;exact SZ h
   ·exact Q2 i t _ _ _ _ h
  ·rcases Cm hv with⟨j,u,rfl,rfl⟩ | ⟨rfl,rfl⟩
   ·exact Q1 j u _ _ _ _ h
   ·exact OH .none _ _ _ _ h
 «strs»:=λk x t v h=>by
  rcases Cm h with⟨i,u,rfl,e⟩ | ⟨rfl,e⟩
  ·cases e
  ·cases e
end NK
end
section
namespace L2
open PySem
def oV:Option Int->V
 | some i=>.int i
 | none=>.non
theorem AEo{P:AK}{w:AR}{k:Option Int}{u:Au}(r:RelV (oV k) u):(NK.optKind P w).is k u=true:=by
 cases k with
 | some i =>
  obtain ⟨t,rfl⟩:=r;show MR i (.int i t)=true;simp[MR]
 | none =>
  cases r;rfl
theorem oV_items{P:AK}{w:AR}:∀{ks:List (Option Int)}{us:List Au},Vals (ks.map oV) us->ItemsAre (NK.optKind P w) ks us
 | [],_,r=>by rw[KW] at r;cases r;exact .nil
 | k::ks,_,r=>by
  rw[Cb] at r;cases r with
  | cons h t=>exact .cons (AEo h) (oV_items t)
abbrev OKey:=Option Int×List (Option Int)
def dO(P:AK)(w:AR)(a:Addr)(xs:List (OKey×Addr×Au)):HO:=.ext λg=>∃o es ep,g.get? a=some o/\o.ExactDict/\o.data=.dict es ep/\es.toList=xs.map (TK (NK.Ds (NK.optKind P w)))/\(xs.map (·.1)).Nodup
def OAt(K:As)(H:Hp)(p:OKey)(x:Addr):Prop:=∃b,H x=some (.tup [oV p.1,.ref b])/\SqT K H b (p.2.map oV)
theorem OAt.ts{K:As}{H H':Hp}{p:OKey}{x:Addr}(h:OAt K H p x)(t:TSm H H'):OAt K H' p x:=let ⟨b,e1,e2⟩:=h;⟨b,t _ _ e1 ⟨_,.inl rfl⟩,t.seq e2⟩
abbrev KO(K:As)(H:Hp):List (OKey×V)->List (OKey×Addr×Au)->Prop:=A9 λp q=>p.1=q.1/\OAt K H p.1 q.2.1/\RelV p.2 q.2.2
def DO(K:As)(P:AK)(w:AR)(H:Hp)(a:Addr)(kvs:List (OKey×V)):Prop:=kvs.length<=sizeLine/\(a==D6)=false/\∃xs,H a=some (dO P w a xs)/\KO K H kvs xs
theorem DO.keep{K:As}{P:AK}{w:AR}{H H':Hp}{a:Addr}{kvs:List (OKey×V)}(h:DO K P w H a kvs)(e:∀o,H a=some o->H' a=some o)(t:TSm H H'):DO K P w H' a kvs:=by
 obtain ⟨z,y,xs,e1,r⟩:=h;exact ⟨z,y,xs,e _ e1,Paired.imp (λ_ _ q=>⟨q.1,q.2.1.ts t,q.2.2⟩) r⟩
theorem KO.val{K:As}{H:Hp}{kvs:List (OKey×V)}{xs:List (OKey×Addr×Au)}(r:KO K H kvs xs)(k:OKey):RelO (valV kvs k) ((JJ xs k).map (·.2)):=by
 induction r with
 | nil=>exact HZ
 | @cons p q ps qs h t ih =>
  by_cases e:p.1=k
  ·have b:JJ (q::qs) k=some q.2:=by simp[JJ,Go,h.1.symm.trans e]
   rw[CN e,b];exact h.2.2
  ·have b:JJ (q::qs) k=JJ qs k:=by simp[JJ,Go,show ¬ q.1=k from λz=>e (h.1.trans z)]
   rw[CQ e,b];exact ih
theorem KO.put{K:As}{H:Hp}{kvs:List (OKey×V)}{xs:List (OKey×Addr×Au)}(r:KO K H kvs xs){k:OKey}{b:Addr}{y:V}{u:Au}(hb:OAt K H k b)(ry:RelV y u)(new:valV kvs k=none):KO K H (putK kvs k y) (Sn xs k b u):=by
 have e:JJ xs k=none:=by
  have z:=(r.val k).isSome_eq;rw[new,Lv] at z;cases g:JJ xs k with
  | none=>rfl
  | some q=>rw[g] at z;cases z
 rw[Ie y new,storedH_new e];exact SV r ⟨rfl,hb,ry⟩
section
variable{X:Cx}{pins:List (Addr×Obj)}{σ:St}{H:Hp}{s:AA}{a:Addr}
theorem Hf{p:OKey}{x:Addr}(I:Inv X pins σ H s)(e:OAt X.K H p x):(NK.Ds (NK.optKind X.prog X.w)).is s.heap p x:=by
 obtain ⟨b,e1,e2⟩:=e;obtain ⟨_,its,r,o,h1,h2,n,h3⟩:=(show ObjOk X.prog X.w H s.heap x (.tup [oV p.1,.ref b]) from I.hok x _ e1);obtain ⟨us,ru,⟨o2,g1,g2,n2,g3⟩,_⟩:=I.tuple e2;cases r with
 | @cons _ v _ _ r1 r =>
  cases r with
  | @cons _ v2 _ _ r2 r =>
   cases r;cases r2;exact ⟨o,_,n,v,b,h1,h2,h3,rfl,AEo r1,o2,us.toArray,n2,g1,g2,g3,by simpa using oV_items ru⟩
theorem XR{kvs:List (OKey×V)}(I:Inv X pins σ H s)(d:DO X.K X.prog X.w H a kvs):kvs.length<=sizeLine/\(a==D6)=false/\∃xs,H a=some (dO X.prog X.w a xs)/\KO X.K H kvs xs/\s.heap.DictOfH (NK.Ds (NK.optKind X.prog X.w)) a xs:=by
 obtain ⟨z,y,xs,e,r⟩:=d;obtain ⟨⟨o,es,ep,h1,h2,h3,h4,h5⟩,_⟩:=(show ObjOk X.prog X.w H s.heap a (dO X.prog X.w a xs) from I.hok a _ e);refine ⟨z,y,xs,e,r,o,es,ep,h1,h2,h3,h4,λx hx=>?_,h5⟩;obtain ⟨i,hi⟩:=DA.mp hx;obtain ⟨p,_,e1,e2,_⟩:=Paired.get r hi;rw[<- e1];exact Hf I e2
end
section
variable{P:AK}{w:AR}{H:Hp}{h:Heap}{a:Addr}
theorem ABw{xs:List (OKey×Addr×Au)}{H':Hp}(d:h.DictOfH (NK.Ds (NK.optKind P w)) a xs):ObjOk P w H' h a (dO P w a xs):=by
 obtain ⟨o,es,ep,h1,h2,h3,h4,_,h5⟩:=d;refine ⟨⟨o,es,ep,h1,h2,h3,h4,h5⟩,⟨o,h1⟩,λg1 g2 ⟨o',es',ep',z1,z2⟩ st=>⟨o',es',ep',st _ z1,z2⟩⟩
end
section
variable{X:Cx}{pins:List (Addr×Obj)}{σ:St}{H:Hp}{s:AA}{a:Addr}{A:B6}{E:Au->AA->Prop}
def OGet(K:As)(P:AK)(w:AR)(H:Hp)(a:Addr)(y:V)(r:Option V):Prop:=∃kvs p x,DO K P w H a kvs/\y=.ref x/\OAt K H p x/\valV kvs p=r
theorem AFR{y:V}{r:Option V}(I:Inv X pins σ H s)(g:OGet X.K X.prog X.w H a y r):s.TypeIs (.ref a) "dict":=by
 obtain ⟨kvs,p,x,d,_⟩:=g;obtain ⟨_,_,xs,_,_,dd⟩:=XR I d;exact dd.typeIs
theorem Zx{y v:V}{u:Au}{Q:Au->AA->Prop}(hu:A.units+2<CO)(I:Inv X pins σ H s)(g:OGet X.K X.prog X.w H a y (some v))(ry:RelV y u)(q:∀w' s',Inv X pins σ H s'->RelV v w'->Q w' s'):wpAny (AM X.prog X.w) A (LW (.ref a) u) Q E s:=by
 obtain ⟨kvs,p,x,d,rfl,k,l⟩:=g;cases (show u=AV x from ry);obtain ⟨z,hd,xs,e,rel,dd⟩:=XR I d;obtain ⟨w',hw,rw'⟩:=RelO.some_of (v:=v) (o:=(JJ xs p).map (·.2)) (by rw[<- l];exact rel.val p);obtain ⟨pv,hp,hp2⟩:=OY.mp hw;refine RY (knd:=NK.Ds (NK.optKind X.prog X.w)) (k:=p) (by show A.units+1+1<CO;lia) (Hf I k) dd hp ?_;rw[hp2];exact q w' _ (I.tok _) rw'
theorem ADT{y:V}{r:Option V}{u:Au}{Q:Au->AA->Prop}(hu:A.units+2<CO)(I:Inv X pins σ H s)(g:OGet X.K X.prog X.w H a y r)(ry:RelV y u)(q:∀s',Inv X pins σ H s'->Q (.bool (!r.isSome)) s'):wpAny (AM X.prog X.w) A (DZ .NotIn u (.ref a)) Q E s:=by
 obtain ⟨kvs,p,x,d,rfl,k,l⟩:=g;cases (show u=AV x from ry);obtain ⟨z,hd,xs,e,rel,dd⟩:=XR I d;refine UQ (knd:=NK.Ds (NK.optKind X.prog X.w)) (k:=p) (by show A.units+1+1<CO;lia) (Hf I k) hd dd ?_;have c:=(rel.val p).isSome_eq;rw[Lv] at c;rw[<- c,l];exact q _ (I.tok _)
theorem Zo{y v:V}{u r:Au}{kvs:List (OKey×V)}{p:OKey}{x:Addr}{Q:Unit->AA->Prop}(hu:A.units+2<CO)(I:Inv X pins σ H s)(d:DO X.K X.prog X.w H a kvs)(ey:y=.ref x)(k:OAt X.K H p x)(new:valV kvs p=none)(hl:kvs.length<sizeLine)(ry:RelV y u)(rv:RelV v r)
  (q:∀(H':Hp) s',(∀b,b≠a->H' b=H b)->DO X.K X.prog X.w H' a (putK kvs p v)->Inv X pins σ H' s'->Q () s'):wpAny (AM X.prog X.w) A (US (.ref a) u r) Q E s:=by
 subst ey;cases (show u=AV x from ry);obtain ⟨z,hd,xs,e,rel,dd⟩:=XR I d;have hz:xs.length<=sizeLine:=by rw[<- AQ rel];exact z
 refine R0 (hsz:=hz) (knd:=NK.Ds (NK.optKind X.prog X.w)) (k:=p) (by show A.units+1+1<CO;lia) (Hf I k) dd λh' dd' hs=>?_;have he:∃o,h'.get? a=some o:=let ⟨o,_,_,ho,_⟩:=dd';⟨o,ho⟩
 have tE:TSm H (upd H a (dO X.prog X.w a (Sn xs p x r))):=λb u hb t=>by
  rw[Af (λz=>by
   rw[z,e] at hb;cases hb;obtain ⟨ys,e | ⟨o,e⟩⟩:=t
   ·cases e
   ·cases e)]
  exact hb
 refine q (upd H a (dO X.prog X.w a (Sn xs p x r))) _ (λb hb=>Af hb) ⟨?_,hd,_,Ab,Paired.imp (λ_ _ c=>⟨c.1,c.2.1.ts tE,c.2.2⟩) (KO.put rel k rv new)⟩ (Jr I (by rw[e];exact HZ) hs he (ABw dd'));rw[Ie v new,AT,Dx];lia
end
def AFb(K:As)(P:AK)(w:AR):TE:=λ_ H Q=>∀p,H p=none->DO K P w (upd H p (dO P w p [])) p []->Q (.ref p) (upd H p (dO P w p []))
def AGd(K:As)(P:AK)(w:AR)(td ty:TE):TE:=λσ H Q=>td σ H λx H1=>ty σ H1 λy H2=>∃a v,x=.ref a/\OGet K P w H2 a y (some v)/\Q v H2
def AEI(K:As)(P:AK)(w:AR)(ty td:TE):TE:=λσ H Q=>ty σ H λy H1=>td σ H1 λx H2=>∃a r,x=.ref a/\OGet K P w H2 a y r/\Q (.bl (!r.isSome)) H2
def AGY(K:As)(P:AK)(w:AR)(td ty tv:TE):TS:=λD σ H=>tv σ H λv H1=>td σ H1 λx H2=>ty σ H2 λy H3=>∃a kvs p b,x=.ref a/\y=.ref b/\DO K P w H3 a kvs/\OAt K H3 p b/\valV kvs p=none/\kvs.length<sizeLine /\
 ∀H4,(∀c,c≠a->H4 c=H3 c)->DO K P w H4 a (putK kvs p v)->D.nx σ H4
section
variable{X:Cx}{o i e value:Expr}{pos pos' tpos:Pos}{td ty tv:TE}
theorem ABq:PE X (.Dict [] [] pos) (AFb X.K X.prog X.w):=λpins s σ H Q I h=>by
 have hn:=I.hok.fresh (AE s.heap.objs.size);have ns:(s.heap.objs.size==D6)=false:=beq_eq_false_iff_ne.mpr (DF (Cn I.big));refine wpAny_Dict_empty ⟨.ref s.heap.objs.size,_,I.laid (a:=s.heap.objs.size) (o:=dO X.prog X.w s.heap.objs.size []) (t':=s.toks) (λ_ _ q=>AH _ q) (AE _) (ABw (Y5 _)),rfl,h _ hn ⟨A8 _,ns,[],Ab,.nil⟩⟩
theorem AEQ(hu:X.A.units+2<CO)(ho:PE X o td)(hi:PE X i ty)(hs:NoSl i):PE X (.Subscript o i pos) (AGd X.K X.prog X.w td ty):=by
 intro pins s σ H Q I h;refine XQ NO.lookup hs (thn (ho pins s σ H _ I h) λu s1 ⟨x,H1,I1,rx,q1⟩=>thn (hi pins s1 σ H1 _ I1 q1) λiv s2 ⟨y,H2,I2,ry,a,v,ex,g,q2⟩=>?_);subst ex;obtain rfl:u=AV a:=rx;exact ⟨AFR I2 g,Zx hu I2 g ry λw' s3 I3 rw'=>⟨v,H2,I3,rw',q2⟩⟩
theorem ZF(hu:X.A.units+2<CO)(hi:PE X i ty)(ho:PE X o td):PC X .NotIn i o (AEI X.K X.prog X.w ty td):=by
 intro pins s σ H Q I h;refine thn (hi pins s σ H _ I h) λiv s1 ⟨y,H1,I1,ry,q1⟩=>thn (ho pins s1 σ H1 _ I1 q1) λu s2 ⟨x,H2,I2,rx,a,r,ex,g,q2⟩=>?_;subst ex;obtain rfl:u=AV a:=rx;exact ADT hu I2 g ry λs3 I3=>⟨.bl (!r.isSome),H2,I3,rfl,q2⟩
theorem AEH(hu:X.A.units+2<CO)(ho:PE X o td)(hi:PE X i ty)(hv:PE X value tv)(hs:MU value (some (.Subscript o i pos')) pos.line X.env=pure false):PS X (.Assign [.Subscript o i pos'] value pos) (AGY X.K X.prog X.w td ty tv):=by
 intro pins s σ H D I h;refine OZ (thn (hv pins s σ H _ I h) λr s1 ⟨v,H1,I1,rv,q1⟩=>thn (ho pins s1 σ H1 _ I1 q1) λu s2 ⟨x,H2,I2,rx,q2⟩=>thn (hi pins s2 σ H2 _ I2 q2) λiv s3 ⟨y,H3,I3,ry,a,kvs,p,b,ex,ey,d,k,new,hl,q3⟩=>?_) hs;subst ex;obtain rfl:u=AV a:=rx;exact Zo hu I3 d ey k new hl ry rv λH4 s4 oth d4 I4=>⟨σ,H4,I4,q3 H4 oth d4⟩
end
end L2
end
section
namespace K43
open PySem L2
def top(i:Nat):Stmt:=IB.main.body.getD i (.Pass ⟨0,0,0,0⟩)
abbrev Kp:Stmt:=inClass (top 27) 0
abbrev ABf:Stmt:=inClass (top 27) 1
abbrev ACf:Stmt:=inClass (top 27) 2
abbrev sAt:Stmt:=inClass (top 27) 3
abbrev AFq:Stmt:=top 28
abbrev AFX:Stmt:=top 29
abbrev AFg:Stmt:=top 30
abbrev Pu:Stmt:=top 33
abbrev QJ:Stmt:=top 34
abbrev Ul:Stmt:=top 21
abbrev Jt:Stmt:=top 23
abbrev Qy:Stmt:=inClass (top 22) 0
abbrev Jj:Stmt:=inClass (top 22) 1
abbrev ACo:Stmt:=inClass (top 22) 2
abbrev ABH:Stmt:=inClass (top 36) 3
abbrev Ur:Stmt:=inClass (top 38) 1
abbrev VD:Stmt:=inClass (top 38) 2
abbrev AFm:Stmt:=inClass (top 38) 4
abbrev Ka:Stmt:=top 41
abbrev ACG:Stmt:=top 43
abbrev AFi:Stmt:=top 44
abbrev Wd:Stmt:=top 45
abbrev HS:Stmt:=top 46
abbrev AEJ:Stmt:=top 47
abbrev Jp:Stmt:=top 48
abbrev Jx:Stmt:=top 49
abbrev Ku:Stmt:=top 52
abbrev Hv:Stmt:=inClass (top 39) 1
abbrev SQ:Stmt:=top 50
abbrev Qc:Stmt:=top 51
abbrev Py:Stmt:=top 53
theorem ja:¬ (("amount" : Str) = "joints"):=by decide +kernel
def flds(z:Int)(j:Addr):List (Str×V):=putF "joints" (.ref j) (putF "amount" (.int z) [])
theorem Fp(z:Int)(j:Addr):(flds z j).lookup ("amount" : Str)=some (.int z):=by
 unfold flds;rw[Aj,if_neg ja,Aj,if_pos rfl]
theorem JX(z:Int)(j:Addr):(flds z j).lookup ("joints" : Str)=some (.ref j):=by
 unfold flds;rw[Aj,if_pos rfl]
theorem DW(z:Int)(j:Addr){m:Str}(h1:¬ m = "joints")(h2:¬ m = "amount"):(flds z j).lookup m=none:=by
 unfold flds;rw[Aj,if_neg h1,Aj,if_neg h2]
 all_goals rfl
structure Txt(K:As)(mg:Str->Option Au)(C:Addr):Prop where
 cl:Cls K C
 nA:NoAttr K C "amount"
 nJ:NoAttr K C "joints"
 mgC:mg "Web" = some (.ref C)
 mp:∃t,mg "MOST_POINTS" = some (.int 10 t)
 mt:∃t,mg "MOST_TIES_webs" = some (.int 12 t)
 len:mg "len" = none
 range:mg "range" = none
 int:mg "int" = none
 max:mg "max" = none
 min:mg "min" = none
 sorted:mg "sorted" = none
 tuple:mg "tuple" = none
 list:mg "list" = none
 bool:mg "bool" = none
 enum:mg "enumerate" = none
 isi:mg "isinstance" = none
def WebAt(K:As)(C:Addr)(H:Hp)(p:Addr)(z:Int)(as:List (List Int)):Prop:=∃dx j,H p=some (.ins C dx (flds z j))/\rTup K (rPair K) H as (.ref j)
theorem WebAt.same{K:As}{C:Addr}{H H':Hp}{p:Addr}{z:Int}{as:List (List Int)}(h:WebAt K C H p z as)(e:Same H H'):WebAt K C H' p z as:=by
 obtain ⟨dx,j,h1,h2⟩:=h;exact ⟨dx,j,e _ _ h1,Ak (Ak Am) _ _ _ _ e.ts h2⟩
def QB(K:As):Sp:=λvs H Q _=>∃(a:Addr) (ns:List Int) (k:Int),vs=[.ref a,.int k]/\SqL K H a (ns.map V.int)/\0<=k/\∀c:Int,Q (.int c) H
def AEi:Sp:=λvs H Q _=>∃(c k:Int),vs=[.int c,.int k]/\∀r:Int,Q (.int r) H
def Ti:Sp:=λvs H Q _=>∃(p t:Int),vs=[.int p,.int t]/\1<=p/\p<=10/\0<=t/\t<=12/\Q .non H
def AEm(K:As):Sp:=λvs H Q _=>∃(m a b:Int) (t:Addr),vs=[.int m,.ref t]/\SqT K H t [.int a,.int b]/\0<=a/\a<b/\b<m/\Q .non H
def AEk(K:As):Sp:=λvs H Q _=>∃(m:Int) (l:Addr) (xs:List V) (as:List (List Int)),vs=[.int m,.ref l]/\SqL K H l xs/\A9 (rSeq K H) as xs/\OkTies m as/\as.length<=12 /\
 ∀(j:Addr) (H':Hp),Same H H'->rTup K (rPair K) H' (as.map srt) (.ref j)->Q (.ref j) H'
def Kv(K:As)(C:Addr):Sp:=λvs H Q _=>∃(p dx l:Addr) (m:Int) (xs:List V) (as:List (List Int)),vs=[.ref p,.int m,.ref l]/\H p=some (.ins C dx [])/\SqL K H l xs/\A9 (rSeq K H) as xs/\OkTies m as/\as.length<=12/\1<=m/\m<=10 /\
 ∀(H':Hp),(∀b o,H b=some o->b≠p->H' b=some o)->WebAt K C H' p m (as.map srt)->Q .non H'
def Ve(K:As)(C:Addr):Sp:=λvs H Q _=>∃(p:Addr) (m:Int) (as:List (List Int)),vs=[.ref p]/\WebAt K C H p m as/\Q (.int m) H
def Vx(K:As)(C:Addr):Sp:=λvs H Q _=>∃(p:Addr) (m:Int) (as:List (List Int)),vs=[.ref p]/\WebAt K C H p m as/\∀(l:Addr) (H':Hp),Same H H'->H l=none->rLst K (rPair K) H' as (.ref l)->Q (.ref l) H'
def AGH(K:As)(C:Addr):Sp:=λvs H Q _=>∃(p:Addr) (m x:Int) (as:List (List Int)),vs=[.ref p,.int x]/\WebAt K C H p m as/\as.length<=12 /\
 ∀(l:Addr) (H':Hp),Same H H'->H l=none->H' l=some (.lst ((hits x as).map V.int))->Q (.ref l) H'
def Ra(K:As):Sp:=λvs H Q _=>∃(a:Addr) (ns:List Int),vs=[.ref a]/\SqL K H a (ns.map V.int)/\ns.length<=63/\∀H',Q (.bl true) H'
section
variable{P:AK}{w:AR}{K:As}{mg:Str->Option Au}{base:Heap}{f C:Addr}{fd:BV}
theorem AAP:FnScope ["points","ties"] ["points","ties"] (Ag AFq):=⟨rfl,rfl,rfl,by decide +kernel,rfl,by decide +kernel,by decide +kernel⟩
theorem WM(F:Fun K "refuse_amounts" "refuse_amounts" AFq f fd)(T:Txt K mg C):FnOk P w K mg base CX0 1 f fd ["points","ties"] Ti:=by
 refine F.ok AAP (λvs H Q E h=>?_) (λcdv A outer s H vs Q E hr h=>?_)
 ·obtain ⟨p,t,rfl,_⟩:=h
  rfl
 obtain ⟨p,t,rfl,h1,h2,h3,h4,q⟩:=h;obtain ⟨t1,e1⟩:=T.mp;obtain ⟨t2,e2⟩:=T.mt;refine ⟨_,Ad (Bx (PW.pt (Lf (Ao Ug (pv 0) Ah (nomark _)) (HD (Ao JT (pv 0) (Qz (v:=.int 10) rfl e1 ⟨t1,rfl⟩) (nomark _))))) Dg BW)
  (Ai (Bx (Ao JT (pv 1) (Qz (v:=.int 12) rfl e2 ⟨t2,rfl⟩) (nomark _)) Dg BW)),?_⟩
 refine ⟨_,rfl,_,_,rfl,rfl,_,rfl,?_⟩;refine iteN (by lia) ?_;refine ⟨_,rfl,_,_,rfl,rfl,_,rfl,?_⟩;refine iteN (by lia) ?_;refine ⟨_,rfl,_,_,rfl,rfl,_,rfl,?_⟩;refine iteN (by lia) ?_;exact q
theorem AGn:FnScope ["many","tie"] ["many","tie"] (Ag AFg):=⟨rfl,rfl,rfl,by decide +kernel,rfl,by decide +kernel,by decide +kernel⟩
theorem at0{a b:V}:atI [a,b] 0=some a:=rfl
theorem at1{a b:V}:atI [a,b] 1=some b:=rfl
theorem AFQ(F:Fun K "refuse_points" "refuse_points" AFg f fd):FnOk P w K mg base CX0 1 f fd ["many","tie"] (AEm K):=by
 refine F.ok AGn (λvs H Q E h=>?_) (λcdv A outer s H vs Q E hr h=>?_)
 ·obtain ⟨m,a,b,t,rfl,_⟩:=h
  rfl
 obtain ⟨m,a,b,t,rfl,hT,h0,h1,h2,q⟩:=h;refine ⟨_,Ad (Bx (PW.pt (Lf (Ao Ug (BK Bj (pv 1) Ah (λ_ _=>rfl)) Ah (nomark _)) (HD (Ao AGk (BK Bj (pv 1) Ah (λ_ _=>rfl)) (pv 0) (nomark _))))) Dg BW)
  (Ai (Bx (Ao Ci (BK Bj (pv 1) Ah (λ_ _=>rfl)) (BK Bj (pv 1) Ah (λ_ _=>rfl)) (nomark _)) Dg BW)),?_⟩
 refine ⟨_,rfl,t,_,_,_,rfl,rfl,hT,at0,_,_,rfl,rfl,_,rfl,?_⟩;refine iteN (by lia) ?_;refine ⟨_,rfl,t,_,_,_,rfl,rfl,hT,at1,_,rfl,_,_,rfl,rfl,_,rfl,?_⟩;refine iteN (by lia) ?_;refine ⟨_,rfl,t,_,_,_,rfl,rfl,hT,at0,_,rfl,t,_,_,_,rfl,rfl,hT,at1,rfl,_,rfl,?_⟩;refine iteN (λe=>?_) q;have:=V.int.inj e;lia
theorem Xb:FnScope ["many","ties","checked","handed","tie"] ["many","ties"] (Ag AFX):=⟨rfl,rfl,rfl,by decide +kernel,rfl,by decide +kernel,by decide +kernel⟩
theorem AGB{fP:Addr}{fdP:BV}(F:Fun K "checked_ties" "checked_ties" AFX f fd)(T:Txt K mg C)(GP:FnOk P w K mg base CX0 1 fP fdP ["many","tie"] (AEm K))(bP:Binds K fdP ["many","tie"] [])(kP:AW K (.ref fP)=true)(mP:mg "refuse_points" = some (.ref fP)) :
  FnOk P w K mg base CX0 2 f fd ["many","ties"] (AEk K):=by
 refine F.ok Xb (λvs H Q E h=>?_) (λcdv A outer s H vs Q E hr h=>?_)
 ·obtain ⟨m,l,xs,as,rfl,_⟩:=h
  rfl
 obtain ⟨m,l,xs,as,rfl,hS,pa,ok,h12,q⟩:=h;refine ⟨_,Ad (Av (i:=2) Xb.nd rfl (BC rfl) (Ce Ac))
  (Ad (Cw Db rfl (Bv (pv 1)) (Aq (i:=3) Xb.nd rfl (BC rfl))
   (Ad (Av (i:=4) Xb.nd rfl (BC rfl) (BP Bc rfl T.tuple C2 (Aa (BJ JR rfl T.sorted K1 (Aa (pv 3) Ac)) Ac)))
   (Ad (DQ (Ay GP hr rfl mP kP bP .nil pass0 (Aa (pv 0) (Aa (pv 4) Ac))))
   (Ad (Bx (Ao (AFS (Gj Dy) (Cg hr)) (pv 4) (pv 2) rfl) Dg BW)
   (Ai (DQ (Hy DL D3 D4 Cp (pv 2) (Aa (pv 4) Ac))))))))
  (Ai (Ax (BP Bc rfl T.tuple C2 (Aa (pv 2) Ac))))),?_⟩
 refine ⟨A8 _,λc hc=>?_⟩;have lx:as.length=xs.length:=AQ pa;refine ⟨_,rfl,l,rfl,⟨_,(Same.new hc _).seq hS⟩,Ec (K:=K) (a:=l) (xs:=xs) (λi σ H2=>∃(hv tv:Option V) (ys:List V),σ=[some (.int m),some (.ref l),some (.ref c),hv,tv]/\Same H H2/\H2 c=some (.lst ys)/\A9 (rPair K H2) ((as.take i).map srt) ys)
  ⟨none,none,[],rfl,Same.new hc _,Ab,.nil⟩ (λi σ H2 _ ⟨_,_,_,_,sm,_⟩=>sm.seq hS) ?_ ?_⟩
 ·rintro i x σ H2 hx ⟨hv,tv,ys,rfl,sm,hC,pc⟩
  obtain ⟨t,ht,rt0⟩:=Paired.get pa hx;obtain ⟨p,rfl,hp⟩:=Tt rt0;obtain ⟨a,b,rfl,a0,a1,b0,b1,nab⟩:=ok.ok t (Bi ht);have hp2:SqL K H2 p ([a,b].map V.int)\/SqT K H2 p ([a,b].map V.int):=hp.elim (λz=>.inl (sm.seq z)) λz=>.inr (sm.ts.seq z);refine ⟨_,rfl,p,[a,b],rfl,hp2,(by show 2<64;decide),λl1 ms hl1 perm pw=>?_⟩;have em:=Yl perm pw;subst em;refine ⟨l1,_,rfl,.inl ⟨SqL.of Ab,λt1 ht1=>?_⟩⟩;have hT:(upd (upd H2 l1 (.lst ((srt [a,b]).map V.int))) t1 (.tup ((srt [a,b]).map V.int))) t1=some (.tup ((srt [a,b]).map V.int)):=Ab;have s1:Same H2 (upd (upd H2 l1 (.lst ((srt [a,b]).map V.int))) t1 (.tup ((srt [a,b]).map V.int))):=(Same.new hl1 _).trans (Same.new ht1 _);generalize hH3:upd (upd H2 l1 (.lst ((srt [a,b]).map V.int))) t1 (.tup ((srt [a,b]).map V.int))=H3 at hT s1 ⊢;have hlen:(srt [a,b]).length=2:=by rw[Dt];split<;>rfl
  have pts:∃u v:Int,srt [a,b]=[u,v]/\0<=u/\u<v/\v<m:=by
   rw[Dt];split
   ·exact ⟨b,a,rfl,b0,by lia,a1⟩
   ·exact ⟨a,b,rfl,a0,by lia,b1⟩
  obtain ⟨u,v,euv,u0,uv,vm⟩:=pts;have hT2:SqT K H3 t1 [.int u,.int v]:=by
   have e:=SqT.of (K:=K) hT;rw[euv] at e;exact e
  refine ⟨_,rfl,_,rfl,m,u,v,t1,rfl,hT2,u0,uv,vm,?_⟩;have hC3:H3 c=some (.lst ys):=s1 _ _ hC;have pc3:A9 (rPair K H3) ((as.take i).map srt) ys:=Paired.imp (λa b=>Ak Am H2 H3 a b s1.ts) pc;have rt:rPair K H3 (srt [a,b]) (.ref t1):=Cj hT;refine ⟨_,rfl,_,rfl,_,_,rt,.inl ⟨c,ys,rfl,SqL.of hC3,pc3⟩,_,rfl,?_⟩;refine iteN (ok.take_new ht) ?_;have hys:ys.length<=12:=by
   rw[<- AQ pc,AB,BQ];lia
  refine ⟨_,rfl,.inl ⟨rfl,_,SqL.of hC3⟩,_,rfl,c,ys,_,rfl,rfl,hC3,Ar (by lia),?_⟩;refine ⟨_,_,_,rfl,λb o e=>?_,Ab,?_⟩
  ·rw[Af (Ae e hc)]
   exact s1 _ _ (sm b o e)
  ·have e:as.take (i+1)=as.take i++[[a,b]]:=by rw[DM,ht];rfl
   rw[e,BU,M4];have ts:TSm H3 (upd H3 c (.lst (ys++[.ref t1]))):=TSm.lst hC3;exact Paired.app (Paired.imp (λa b=>Ak Am H3 _ a b ts) pc3) (Paired.one (Ak Am H3 _ _ _ ts rt))
 ·rintro σ H2 ⟨hv,tv,ys,rfl,sm,hC,pc⟩
  rw[<- lx,CF] at pc;refine ⟨_,rfl,c,_,rfl,.inl ⟨SqL.of hC,λj hj=>?_⟩⟩;refine q j _ (sm.trans (Same.new hj _)) ⟨j,ys,rfl,SqT.of Ab,?_⟩;exact Paired.imp (λa b=>Ak Am H2 _ a b (TSm.new hj)) pc
theorem Vi:FnScope ["self","many","ties"] ["self","many","ties"] (Ag Kp):=⟨rfl,rfl,rfl,by decide +kernel,rfl,by decide +kernel,by decide +kernel⟩
theorem Hq{fA fC:Addr}{fdA fdC:BV}(F:Fun K "__init__" "Web.__init__" Kp f fd)(T:Txt K mg C)
  (GA:FnOk P w K mg base CX0 1 fA fdA ["points","ties"] Ti) (bA:Binds K fdA ["points","ties"] []) (kA:AW K (.ref fA)=true) (mA:mg "refuse_amounts" = some (.ref fA))
  (GC:FnOk P w K mg base CX0 2 fC fdC ["many","ties"] (AEk K)) (bC:Binds K fdC ["many","ties"] []) (kC:AW K (.ref fC)=true) (mC:mg "checked_ties" = some (.ref fC)) :
  FnOk P w K mg base CX0 3 f fd ["self","many","ties"] (Kv K C):=by
 refine F.ok Vi (λvs H Q E h=>?_) (λcdv A outer s H vs Q E hr h=>?_)
 ·obtain ⟨p,dx,l,m,xs,as,rfl,_⟩:=h
  rfl
 obtain ⟨p,dx,l,m,xs,as,rfl,hP,hS,pa,ok,h12,h1,h10,q⟩:=h;have lx:as.length=xs.length:=AQ pa;refine ⟨_,Ad (DQ (Ay GA (hr.mono (by decide)) rfl mA kA bA .nil pass0 (Aa (pv 1) (Aa (BJ Aw rfl T.len CL (Aa (pv 2) Ac)) Ac))))
  (Ad (Ej (pv 0) (pv 1) rfl)
  (Ai (Ej (pv 0) (Ay GC hr rfl mC kC bC .nil pass0 (Aa (pv 1) (Aa (pv 2) Ac))) rfl))),?_⟩
 refine ⟨_,rfl,_,rfl,l,_,rfl,.inl hS,m,_,rfl,h1,h10,by lia,by lia,?_⟩;refine ⟨_,rfl,_,rfl,p,C,dx,[],rfl,hP,T.cl,T.nA,(by show 0<1000;decide),?_⟩;have ts:TSm H (upd H p (.ins C dx (putF "amount" (.int m) []))):=λb u hb t=>by
  rw[Af ?_]
  ·exact hb
  ·rintro rfl
   rw[hP] at hb;cases hb;obtain ⟨ys,e | ⟨o,e⟩⟩:=t
   ·cases e
   ·cases e
 have sl:∀{a:Addr}{zs:List V},SqL K H a zs->SqL K (upd H p (.ins C dx (putF "amount" (.int m) []))) a zs:=λ{a zs} h=>by
  rcases h with (h | ⟨o,h⟩) | h
  ·exact .inl (.inl (by rw[Af (Cq h hP (by intro z;cases z))];exact h))
  ·exact .inl (.inr ⟨o,by rw[Af (Cq h hP (by intro z;cases z))];exact h⟩)
  ·exact .inr h
 have pa':A9 (rSeq K (upd H p (.ins C dx (putF "amount" (.int m) [])))) as xs:=Paired.imp (λt x h=>by
  rcases h with⟨q,zs,rfl,hq,pz⟩ | h
  ·exact .inl ⟨q,zs,rfl,sl hq,pz⟩
  ·exact .inr (Ak Am _ _ _ _ ts h)) pa
 refine ⟨_,rfl,_,rfl,m,l,xs,as,rfl,sl hS,pa',ok,h12,λj H' sm rj=>?_⟩;have hP':H' p=some (.ins C dx (putF "amount" (.int m) [])):=sm _ _ Ab;refine ⟨_,rfl,p,C,dx,_,rfl,hP',T.cl,T.nJ,(by show 1<1000;decide),?_⟩;refine q _ (λb o e hb=>?_) ⟨dx,j,Ab,?_⟩
 ·rw[Af hb]
  exact sm _ _ (by rw[Af hb];exact e)
 ·refine Ak (Ak Am) _ _ _ _ (λb u hb t=>?_) rj
  rw[Af ?_]
  ·exact hb
  ·rintro rfl
   rw[hP'] at hb;cases hb;obtain ⟨ys,e | ⟨o,e⟩⟩:=t
   ·cases e
   ·cases e
theorem scSize:FnScope ["self"] ["self"] (Ag ABf):=⟨rfl,rfl,rfl,by decide +kernel,rfl,by decide +kernel,by decide +kernel⟩
theorem ACt(F:Fun K "size" "Web.size" ABf f fd)(T:Txt K mg C):FnOk P w K mg base CX0 1 f fd ["self"] (Ve K C):=by
 refine F.ok scSize (λvs H Q E h=>?_) (λcdv A outer s H vs Q E hr h=>?_)
 ·obtain ⟨p,m,as,rfl,_⟩:=h
  rfl
 obtain ⟨p,m,as,rfl,⟨dx,j,hP,hj⟩,q⟩:=h;refine ⟨_,Ai (Ax (Bp (pv 0) rfl)),?_⟩;exact ⟨_,rfl,p,C,dx,_,_,rfl,hP,T.cl,T.nA,Fp _ _,q⟩
theorem AFI:FnScope ["self"] ["self"] (Ag ACf):=⟨rfl,rfl,rfl,by decide +kernel,rfl,by decide +kernel,by decide +kernel⟩
theorem AEO(F:Fun K "ties" "Web.ties" ACf f fd)(T:Txt K mg C):FnOk P w K mg base CX0 1 f fd ["self"] (Vx K C):=by
 refine F.ok AFI (λvs H Q E h=>?_) (λcdv A outer s H vs Q E hr h=>?_)
 ·obtain ⟨p,m,as,rfl,_⟩:=h
  rfl
 obtain ⟨p,m,as,rfl,⟨dx,j,hP,j',xs,ej,hj,pj⟩,q⟩:=h;cases ej;refine ⟨_,Ai (Ax (BP FT rfl T.list Hd (Aa (Bp (pv 0) rfl) Ac))),?_⟩;refine ⟨_,rfl,p,C,dx,_,_,rfl,hP,T.cl,T.nJ,JX _ _,j,xs,rfl,.inr hj,λl hl=>?_⟩;refine q l _ (Same.new hl _) hl ⟨l,xs,rfl,SqL.of Ab,?_⟩;exact Paired.imp (λa b=>Ak Am H _ a b (TSm.new hl)) pj
theorem AGs:FnScope ["self","point"] ["self","point"] (Ag sAt):=⟨rfl,rfl,rfl,by decide +kernel,rfl,by decide +kernel,by decide +kernel⟩
theorem AGJ(F:Fun K "at" "Web.at" sAt f fd)(T:Txt K mg C):FnOk P w K mg base CX0 1 f fd ["self","point"] (AGH K C):=by
 refine F.ok AGs (λvs H Q E h=>?_) (λcdv A outer s H vs Q E hr h=>?_)
 ·obtain ⟨p,m,x,as,rfl,_⟩:=h
  rfl
 obtain ⟨p,m,x,as,rfl,⟨dx,j,hP,j',xs,ej,hj,pj⟩,h12,q⟩:=h;cases ej;refine ⟨_,Ai (Ax (Bo (Ag sAt) ["number","tie"] ["point"] [1] rfl rfl (by decide +kernel) ⟨⟨rfl,by decide +kernel⟩,trivial⟩ (Ks rfl T.enum (Aa (Bp (pv 0) rfl) Ac))
  (λ_ _ _=>Fl (K:=K) (n:=2) rfl rfl (CK (Aq (i:=0) (show ((["number","tie"]:List Str)++(["point"]:List Str)).Nodup by decide +kernel) rfl (BC rfl)) (CK (Aq (i:=1) (show ((["number","tie"]:List Str)++(["point"]:List Str)).Nodup by decide +kernel) rfl (BC rfl)) FZ)))
  (λ_ _ _=>Bt (Ao (Ei (K:=K) rfl) (pv 2) (pv 1) rfl))
  (λ_ _ _=>pv 0))),?_⟩
 refine ⟨_,rfl,p,C,dx,_,_,rfl,hP,T.cl,T.nJ,JX _ _,j,rfl,⟨_,hj⟩,λD hD=>?_⟩;have lx:as.length=xs.length:=AQ pj;refine Gz (xs:=xs) (λi τ H2=>∃n t:Option V,τ=[n,t,some (.int x)]/\Same H H2/\H2 D=some (.lst ((hits x (as.take i)).map V.int))) ⟨none,none,rfl,Same.new hD _,Ab⟩
  (λi τ H2 _ ⟨_,_,_,sm,_⟩=>sm.ts.seq hj) ?_ ?_
 ·rintro i y τ H2 T1 hy hT1 ⟨n,t,rfl,sm,hD2⟩
  obtain ⟨tie,ht,rt⟩:=Paired.get pj hy;obtain ⟨q1,rfl,hq1⟩:=Bq rt;have s1:Same H2 (upd H2 T1 (.tup [.int i,.ref q1])):=Same.new hT1 _;refine ⟨T1,_,rfl,SqT.of Ab,rfl,_,_,rfl,_,_,rfl,rfl,?_⟩;refine ⟨_,rfl,_,rfl,q1,_,rfl,.inr (s1.ts.seq (sm.ts.seq hq1)),rfl,?_,_,rfl,?_⟩
  ·simp[flatV]
  ·rw[if_neg (by decide),Ef]
   have hD3:(upd H2 T1 (.tup [.int i,.ref q1])) D=some (.lst ((hits x (as.take i)).map V.int)):=s1 _ _ hD2;have hlt:i<as.length:=(AL.mp ht).1;refine ite2 (λc=>?_) (λc=>?_)
   ·have c':x∈tie:=of_decide_eq_true c
    refine ⟨_,rfl,_,hD3,?_,_,_,rfl,λb o e=>?_,?_⟩
    ·have:(hits x (as.take i)).length<=(as.take i).length:=Ls x 0 (as.take i)
     rw[AB];rw[BQ] at this;exact Ar (by lia)
    ·rw[Af (Ae e hD)]
     exact s1 _ _ (sm b o e)
    ·rw[Ab,PB ht,if_pos c',BU]
     rfl
   ·have c':¬ x∈tie:=λz=>c (decide_eq_true z)
    refine ⟨_,_,rfl,sm.trans s1,?_⟩;rw[hD3,PB ht,if_neg c',BI]
 ·rintro τ H2 ⟨n,t,rfl,sm,hD2⟩
  rw[<- lx,CF] at hD2;exact q D H2 sm hD hD2
end
end K43
end
section
namespace G
abbrev Row:=Nat×Nat×Nat
def Low(rows:List Row)(t k l:Nat):Prop:=l<k/\(l<=1\/∃r,rows[l-2]?=some r/\t<r.1)
def Ok(n:Nat)(rows:List Row):Prop:=∀(i:Nat) (r:Row),rows[i]?=some r->r.1<n/\Low rows r.1 (i+2) r.2.1/\Low rows r.1 (i+2) r.2.2
structure Least(n:Nat)(rows:List Row):Prop where
 ok:Ok n rows
 pos:∀(i:Nat) (r:Row),rows[i]?=some r->r.2.2≠0
 one:∀(i j:Nat) (r:Row),rows[i]?=some r->rows[j]?=some r->i=j
def rank(n:Nat)(rows:List Row)(k:Nat):Nat:=if k<2 then n+1-k else (rows.getD (k-2) (0,0,0)).1
def ledF(rows:List Row):Nat->Nat->List Nat->Bool
 | 0,_,_=>false
 | f+1,k,s=>if k<=1 then decide (k=1/\s=[]) else
  let r:=rows.getD (k-2) (0,0,0)
  match s with
  | []=>ledF rows f r.2.1 []
  | x::xs=>if x<r.1 then false else if x=r.1 then ledF rows f r.2.2 xs else ledF rows f r.2.1 (x::xs)
def led(rows:List Row)(k:Nat)(s:List Nat):Bool:=ledF rows (k+1) k s
def Knot(rows:List Row)(k:Nat):Prop:=k<rows.length+2
section
variable{n:Nat}{rows:List Row}
theorem BZ{k:Nat}(h:Knot rows k)(h2:2<=k):rows[k-2]?=some (rows.getD (k-2) (0,0,0)):=by
 have:k-2<rows.length:=by unfold Knot at h;lia
 rw[AJ this,AD,AJ this];rfl
theorem Ok.low(o:Ok n rows){i:Nat}{r:Row}(h:rows[i]?=some r):r.1<n/\r.2.1<i+2/\r.2.2<i+2/\r.1<rank n rows r.2.1/\r.1<rank n rows r.2.2/\Knot rows r.2.1/\Knot rows r.2.2:=by
 obtain ⟨h1,h2,h3⟩:=o i r h;have hi:i<rows.length:=(AL.mp h).1;have rk:∀l,Low rows r.1 (i+2) l->r.1<rank n rows l/\Knot rows l:=by
  intro l hl;obtain ⟨a,b⟩:=hl;refine ⟨?_,by unfold Knot;lia⟩;unfold rank;by_cases c:l<2
  ·rw[if_pos c];lia
  ·rw[if_neg c]
   rcases b with b | ⟨r',e,z⟩
   ·lia
   ·rw[AD,e];exact z
 exact ⟨h1,h2.1,h3.1,(rk _ h2).1,(rk _ h3).1,(rk _ h2).2,(rk _ h3).2⟩
theorem ZJ(o:Ok n rows):∀(f k:Nat) (s:List Nat),k<f->Knot rows k->ledF rows (f+1) k s=ledF rows f k s:=by
 intro f
 induction f with
 | zero=>intro k s h;lia
 | succ f ih =>
  intro k s hk kn;unfold ledF;by_cases c:k<=1
  ·rw[if_pos c,if_pos c]
  rw[if_neg c,if_neg c];obtain ⟨h1,h2,h3,_,_,k1,k2⟩:=o.low (BZ kn (by lia));have e1:∀s,ledF rows (f+1) (rows.getD (k-2) (0,0,0)).2.1 s=ledF rows f (rows.getD (k-2) (0,0,0)).2.1 s:=λs=>ih _ _ (by lia) k1;have e2:∀s,ledF rows (f+1) (rows.getD (k-2) (0,0,0)).2.2 s=ledF rows f (rows.getD (k-2) (0,0,0)).2.2 s:=λs=>ih _ _ (by lia) k2;cases s with
  | nil=>exact e1 _
  | cons x xs =>
   show (if _ then _ else if _ then ledF rows (f+1) _ _ else ledF rows (f+1) _ _)=_;rw[e1,e2]
theorem Jo(o:Ok n rows){k:Nat}(s:List Nat)(kn:Knot rows k):∀d,ledF rows (k+1+d) k s=led rows k s
 | 0=>rfl
 | d+1=>by rw[show k+1+(d+1)=(k+1+d)+1 by lia,ZJ o _ k s (by lia) kn,Jo o s kn d]
theorem Cu(s:List Nat):led rows 1 s=decide (s=[]):=by
 unfold led ledF;simp
theorem Cd(s:List Nat):led rows 0 s=false:=by
 unfold led ledF;simp
theorem DP(o:Ok n rows){k:Nat}(kn:Knot rows k)(h2:2<=k):led rows k []=led rows (rows.getD (k-2) (0,0,0)).2.1 []:=by
 obtain ⟨h1,h2',h3,_,_,k1,k2⟩:=o.low (BZ kn h2);unfold led
 conv=>lhs;unfold ledF
 rw[if_neg (by lia)];have:=Jo o [] k1 (k-(rows.getD (k-2) (0,0,0)).2.1-1);rw[show (rows.getD (k-2) (0,0,0)).2.1+1+(k-(rows.getD (k-2) (0,0,0)).2.1-1)=k by lia] at this;exact this
theorem Bf(o:Ok n rows){k x:Nat}{xs:List Nat}(kn:Knot rows k)(h2:2<=k):led rows k (x::xs) =
  if x<(rows.getD (k-2) (0,0,0)).1 then false else if x=(rows.getD (k-2) (0,0,0)).1 then led rows (rows.getD (k-2) (0,0,0)).2.2 xs else led rows (rows.getD (k-2) (0,0,0)).2.1 (x::xs):=by
 obtain ⟨h1,h2',h3,_,_,k1,k2⟩:=o.low (BZ kn h2);unfold led
 conv=>lhs;unfold ledF
 rw[if_neg (by lia)];have e1:=Jo o (x::xs) k1 (k-(rows.getD (k-2) (0,0,0)).2.1-1);rw[show (rows.getD (k-2) (0,0,0)).2.1+1+(k-(rows.getD (k-2) (0,0,0)).2.1-1)=k by lia] at e1;have e2:=Jo o xs k2 (k-(rows.getD (k-2) (0,0,0)).2.2-1);rw[show (rows.getD (k-2) (0,0,0)).2.2+1+(k-(rows.getD (k-2) (0,0,0)).2.2-1)=k by lia] at e2;show (if _ then _ else if _ then ledF rows k _ _ else ledF rows k _ _)=_;rw[e1,e2];rfl
def Way(n:Nat)(rows:List Row)(k:Nat)(s:List Nat):Prop:=led rows k s=true/\s.Pairwise (· < ·)/\∀x∈s,x<n/\rank n rows k<=x
theorem ACH(L:Least n rows){k:Nat}{s:List Nat}(kn:Knot rows k)(h2:2<=k)(w:Way n rows (rows.getD (k-2) (0,0,0)).2.2 s):Way n rows k ((rows.getD (k-2) (0,0,0)).1::s):=by
 obtain ⟨w1,w2,w3⟩:=w;obtain ⟨h1,h2',h3,r1,r2,k1,k2⟩:=L.ok.low (BZ kn h2);have rk:rank n rows k=(rows.getD (k-2) (0,0,0)).1:=by unfold rank;rw[if_neg (by lia)]
 refine ⟨?_,?_,?_⟩
 ·rw[Bf L.ok kn h2,if_neg (by lia),if_pos rfl];exact w1
 ·exact RU (λx hx=>by have:=(w3 x hx).2;lia) w2
 ·intro x hx
  rcases Be.mp hx with rfl | hx
  ·exact ⟨h1,by lia⟩
  ·have:=w3 x hx
   exact ⟨this.1,by lia⟩
theorem ADv:Way n rows 1 []:=⟨by rw[Cu];rfl,.nil,λx hx=>nomatch hx⟩
theorem off(o:Ok n rows){b x:Nat}{xs:List Nat}(kb:Knot rows b)(h:x<rank n rows b):led rows b (x::xs)=false:=by
 unfold rank at h;by_cases c:b<2
 ·have hb:b=0\/b=1:=by lia
  rcases hb with rfl | rfl
  ·exact Cd _
  ·rw[Cu];rfl
 ·rw[if_neg c] at h
  rw[Bf o kb (by lia),if_pos h]
end
section
variable{n t:Nat}{rows nums new:List Row}{rc:List Nat}{pl pl':Nat->Option Nat}
def tieOf(rows:List Row)(k:Nat):Nat:=(rows.getD (k-2) (0,0,0)).1
def outOf(rows:List Row)(k:Nat):Nat:=(rows.getD (k-2) (0,0,0)).2.1
def intoOf(rows:List Row)(k:Nat):Nat:=(rows.getD (k-2) (0,0,0)).2.2
structure Closed(rows:List Row)(rc:List Nat):Prop where
 two:∀k∈rc,2<=k
 knot:∀k∈rc,Knot rows k
 out:∀k∈rc,outOf rows k<=1\/outOf rows k∈rc
 into:∀k∈rc,intoOf rows k<=1\/intoOf rows k∈rc
structure Kept(n t:Nat)(rows:List Row)(rc:List Nat)(nums:List Row)(pl:Nat->Option Nat):Prop where
 least:Least n nums
 ge:∀r∈nums,t<=r.1
 z:pl 0=some 0
 o:pl 1=some 1
 has:∀k∈rc,t<=tieOf rows k->∃p,pl k=some p/\Knot nums p/\tieOf rows k<=rank n nums p
theorem Yz(hn:∀k∈rc,tieOf rows k<n):Kept n n rows rc [] (λk=>if k=0 then some 0 else if k=1 then some 1 else none) :=
 ⟨⟨λi r h=>by simp at h,λi r h=>by simp at h,λi j r h=>by simp at h⟩,λr h=>(nomatch h),rfl,rfl,λk hk h=>absurd (hn k hk) (by lia)⟩
theorem Lb{p:Nat}(h:Knot nums p):rank n (nums++new) p=rank n nums p:=by
 unfold rank;by_cases c:p<2
 ·rw[if_pos c,if_pos c]
 ·rw[if_neg c,if_neg c,AD,AD,By (by unfold Knot at h;lia)]
theorem FQ{p:Nat}(h:Knot nums p):Knot (nums++new) p:=by unfold Knot at *;rw[AT];lia
theorem Kept.low(I:Kept n (t+1) rows rc nums pl)(o:Ok n rows)(hn:t<n){l:Nat}(h:l<=1\/l∈rc)(z:l<=1\/t<tieOf rows l):∃p,pl l=some p/\Knot nums p/\t<rank n nums p:=by
 rcases C8 l 2 with c | c
 ·have e:l=0\/l=1:=by lia
  rcases e with rfl | rfl
  ·exact ⟨0,I.z,by unfold Knot;lia,by unfold rank;rw[if_pos (by decide)];lia⟩
  ·exact ⟨1,I.o,by unfold Knot;lia,by unfold rank;rw[if_pos (by decide)];lia⟩
 ·have hr:l∈rc:=h.resolve_left (by lia)
  have hz:t<tieOf rows l:=z.resolve_left (by lia);obtain ⟨p,h1,h2,h3⟩:=I.has l hr hz;exact ⟨p,h1,h2,by lia⟩
def rowIn(rows:List Row)(pl:Nat->Option Nat)(k:Nat):Row:=(tieOf rows k,(pl (outOf rows k)).getD 0,(pl (intoOf rows k)).getD 0)
theorem Closed.low(c:Closed rows rc)(o:Ok n rows){k:Nat}(h:k∈rc):tieOf rows k<n/\(outOf rows k<=1\/tieOf rows k<tieOf rows (outOf rows k))/\(intoOf rows k<=1\/tieOf rows k<tieOf rows (intoOf rows k)):=by
 obtain ⟨h1,h2,h3⟩:=o _ _ (BZ (c.knot k h) (c.two k h));refine ⟨h1,h2.2.imp id λ⟨r,e,z⟩=>?_,h3.2.imp id λ⟨r,e,z⟩=>?_⟩
 ·show (rows.getD (k-2) (0,0,0)).1<(rows.getD ((rows.getD (k-2) (0,0,0)).2.1-2) (0,0,0)).1
  rw[AD (l:=rows) (i:=(rows.getD (k-2) (0,0,0)).2.1-2),e];exact z
 ·show (rows.getD (k-2) (0,0,0)).1<(rows.getD ((rows.getD (k-2) (0,0,0)).2.2-2) (0,0,0)).1
  rw[AD (l:=rows) (i:=(rows.getD (k-2) (0,0,0)).2.2-2),e];exact z
theorem Kept.row(I:Kept n (t+1) rows rc nums pl)(c:Closed rows rc)(o:Ok n rows)(hn:t<n){k:Nat}(h:k∈rc)(ht:tieOf rows k=t) :
  ∃a b,pl (outOf rows k)=some a/\pl (intoOf rows k)=some b/\rowIn rows pl k=(t,a,b)/\Knot nums a/\Knot nums b/\t<rank n nums a/\t<rank n nums b:=by
 obtain ⟨_,z1,z2⟩:=c.low o h;obtain ⟨a,a1,a2,a3⟩:=I.low o hn (c.out k h) (by rw[<- ht];exact z1);obtain ⟨b,b1,b2,b3⟩:=I.low o hn (c.into k h) (by rw[<- ht];exact z2);exact ⟨a,b,a1,b1,by unfold rowIn;rw[a1,b1,ht];rfl,a2,b2,a3,b3⟩
theorem AAw{p k:Nat}(h:Knot nums p)(hk:nums.length+2<=k)(z:t<rank n nums p):Low (nums++new) t k p:=by
 refine ⟨by unfold Knot at h;lia,?_⟩;rcases C8 p 2 with c | c
 ·exact .inl (by lia)
 ·refine .inr ⟨nums.getD (p-2) (0,0,0),?_,?_⟩
  ·rw[By (by unfold Knot at h;lia)]
   exact BZ h c
  ·unfold rank at z
   rw[if_neg (by lia)] at z;exact z
theorem Kept.step(I:Kept n (t+1) rows rc nums pl)(c:Closed rows rc)(o:Ok n rows)(hn:t<n)(hw:∀r,r∈new->∃k,k∈rc/\tieOf rows k=t/\r=rowIn rows pl k/\r.2.2≠0)(nd:new.Nodup)
  (h1:∀k,k∉rc\/tieOf rows k≠t->pl' k=pl k)
  (h2:∀k∈rc,tieOf rows k=t->∃p,pl' k=some p/\((∃i,(nums++new)[i]?=some (rowIn rows pl k)/\p=i+2)\/(rowIn rows pl k∉nums++new/\p=(rowIn rows pl k).2.1))) :
  Kept n t rows rc (nums++new) pl':=by
 have at_new:∀(i:Nat) (r:Row),nums.length<=i->(nums++new)[i]?=some r->new[i-nums.length]?=some r:=λi r hi e=>by rw[Ct hi] at e;exact e
 have at_old:∀(i:Nat) (r:Row),i<nums.length->(nums++new)[i]?=some r->nums[i]?=some r:=λi r hi e=>by rw[By hi] at e;exact e
 have tn:∀r∈new,∃a b,r=(t,a,b)/\b≠0/\Knot nums a/\Knot nums b/\t<rank n nums a/\t<rank n nums b:=λr hr=>by
  obtain ⟨k,k1,k2,k3,k4⟩:=hw r hr;obtain ⟨a,b,_,_,e,x1,x2,x3,x4⟩:=I.row c o hn k1 k2;rw[e] at k3;refine ⟨a,b,k3,?_,x1,x2,x3,x4⟩;rw[k3] at k4;exact k4
 have two:∀k∈rc,k≠0/\k≠1:=λk hk=>by have:=c.two k hk;lia
 refine ⟨⟨?_,?_,?_⟩,?_,?_,?_,?_⟩
 ·intro i r e
  rcases C8 i nums.length with hi | hi
  ·obtain ⟨z1,z2,z3⟩:=I.least.ok i r (at_old i r hi e)
   refine ⟨z1,⟨z2.1,z2.2.imp id λ⟨q,e,z⟩=>⟨q,?_,z⟩⟩,⟨z3.1,z3.2.imp id λ⟨q,e,z⟩=>⟨q,?_,z⟩⟩⟩
   ·rw[By (by have:=(AL.mp e).1;lia)];exact e
   ·rw[By (by have:=(AL.mp e).1;lia)];exact e
  ·obtain ⟨a,b,rfl,_,x1,x2,x3,x4⟩:=tn r (Bi (at_new i r hi e))
   exact ⟨hn,AAw x1 (by lia) x3,AAw x2 (by lia) x4⟩
 ·intro i r e
  rcases C8 i nums.length with hi | hi
  ·exact I.least.pos i r (at_old i r hi e)
  ·obtain ⟨a,b,rfl,x,_⟩:=tn r (Bi (at_new i r hi e))
   exact x
 ·intro i j r e1 e2
  have cross:∀(i j:Nat),i<nums.length->nums.length<=j->(nums++new)[i]?=some r->(nums++new)[j]?=some r->False:=λi j hi hj e1 e2=>by
   have g:=I.ge r (Bi (at_old i r hi e1));obtain ⟨a,b,rfl,_⟩:=tn r (Bi (at_new j r hj e2));have g':t+1<=t:=g;lia
  rcases C8 i nums.length with hi | hi
  ·rcases C8 j nums.length with hj | hj
   ·exact I.least.one i j r (at_old i r hi e1) (at_old j r hj e2)
   ·exact (cross i j hi hj e1 e2).elim
  ·rcases C8 j nums.length with hj | hj
   ·exact (cross j i hj hi e2 e1).elim
   ·have a1:=at_new i r hi e1
    have a2:=at_new j r hj e2;have:=(LF (AL.mp a1).1 nd).mp (a1.trans a2.symm);lia
 ·intro r hr
  rcases B9.mp hr with hr | hr
  ·have:=I.ge r hr;lia
  ·obtain ⟨a,b,rfl,_⟩:=tn r hr
   exact AE t
 ·rw[h1 0 (.inl λh=>(two 0 h).1 rfl)];exact I.z
 ·rw[h1 1 (.inl λh=>(two 1 h).2 rfl)];exact I.o
 ·intro k hk hk2
  by_cases e:tieOf rows k=t
  ·obtain ⟨p,p1,p2⟩:=h2 k hk e
   refine ⟨p,p1,?_⟩;obtain ⟨a,b,_,_,re,x1,x2,x3,x4⟩:=I.row c o hn hk e;rcases p2 with⟨i,i1,rfl⟩ | ⟨i1,rfl⟩
   ·have il:=(AL.mp i1).1
    refine ⟨by unfold Knot;lia,?_⟩;unfold rank;rw[if_neg (by lia),DE,AD,i1,re];show tieOf rows k<=t;lia
   ·rw[re]
    refine ⟨FQ x1,?_⟩;rw[Lb x1,e];exact DC x3
  ·obtain ⟨p,p1,p2,p3⟩:=I.has k hk (by lia)
   exact ⟨p,by rw[h1 k (.inr e)];exact p1,FQ p2,by rw[Lb p2];exact p3⟩
end
structure SetsOk(n lo:Nat)(ss:List (List Int)):Prop where
 nd:ss.Nodup
 asc:∀s∈ss,s.Pairwise (· < ·)
 rng:∀s∈ss,∀x∈s,(lo:Int)<=x/\x<n
theorem all_nil:∀{ss:List (List Int)},ss.Nodup->(∀s∈ss,s=[])->ss=[]\/ss=[[]]
 | [],_,_=>.inl rfl
 | [s],_,h=>.inr (by rw[h s AC])
 | s::u::r,nd,h=>by
  have e1:=h s AC;have e2:=h u (AG _ AC);have:=(CU.mp nd).1;rw[e1,e2] at this;exact absurd AC this
section
variable{n lo d t k1 k2 m1 m2 m:Nat}{ss:List (List Int)}{rows more more1 more2:List Row}
theorem SetsOk.some(h:SetsOk n lo ss)(h0:ss≠[])(h1:ss≠[[]]):∃s∈ss,s≠[]:=by
 rcases Classical.em (∃s∈ss,s≠[]) with z | z
 ·exact z
 ·rcases all_nil h.nd λs hs=>BO λc=>z ⟨s,hs,c⟩ with e | e
  ·exact absurd e h0
  ·exact absurd e h1
def heads(ss:List (List Int)):List Int:=(ss.filter λs=>!decide (s=[])).map λs=>s.headD 0
theorem Eb{a:Int}:a∈heads ss↔∃r,a::r∈ss:=by
 unfold heads;rw[AY];constructor
 ·rintro⟨s,hs,rfl⟩
  obtain ⟨h1,h2⟩:=BS.mp hs;cases s with
  | nil=>simp at h2
  | cons x r=>exact ⟨r,h1⟩
 ·rintro⟨r,h⟩
  exact ⟨a::r,BS.mpr ⟨h,by simp⟩,rfl⟩
theorem SetsOk.least(h:SetsOk n lo ss)(hm:(t:Int)∈heads ss):lo<=t/\t<n:=by
 obtain ⟨r,hr⟩:=Eb.mp hm;have:=h.rng _ hr t AC;lia
theorem SetsOk.out(h:SetsOk n lo ss)(hl:∀a∈heads ss,(t:Int)<=a):SetsOk n (t+1) (ss.filter λs=>!decide ((t:Int)∈s)):=by
 refine ⟨h.nd.filter _,λs hs=>h.asc s (BS.mp hs).1,λs hs x hx=>?_⟩;obtain ⟨h1,h2⟩:=BS.mp hs;have h2':(t:Int)∉s:=by simpa using h2
 refine ⟨?_,(h.rng s h1 x hx).2⟩;cases s with
 | nil=>cases hx
 | cons a r =>
  have la:=hl a (Eb.mpr ⟨r,h1⟩);have na:(t:Int)≠a:=λe=>h2' (by rw[e];exact AC);rcases Be.mp hx with rfl | hx
  ·lia
  ·have:=(Cf.mp (h.asc _ h1)).1 x hx
   lia
theorem SetsOk.led(h:SetsOk n lo ss)(hl:∀a∈heads ss,(t:Int)<=a){s:List Int}(hs:s∈ss)(ht:(t:Int)∈s):s=(t:Int)::s.tail:=by
 cases s with
 | nil=>cases ht
 | cons a r =>
  have la:=hl a (Eb.mpr ⟨r,hs⟩);rcases Be.mp ht with e | ht
  ·rw[e];rfl
  ·have:=(Cf.mp (h.asc _ hs)).1 _ ht
   lia
theorem Lw{t:Int}:∀{l:List (List Int)},l.Nodup->(∀s∈l,s=t::s.tail)->(l.map OL).Nodup
 | [],_,_=>.nil
 | s::l,nd,h=>by
  obtain ⟨h1,h2⟩:=CU.mp nd;rw[Cb];refine CU.mpr ⟨λz=>?_,Lw h2 λu hu=>h u (AG _ hu)⟩;obtain ⟨u,hu,e⟩:=AY.mp z;refine h1 ?_;rw[h s AC,<- e,<- h u (AG _ hu)];exact hu
theorem SetsOk.into(h:SetsOk n lo ss)(hl:∀a∈heads ss,(t:Int)<=a):SetsOk n (t+1) ((ss.filter λs=>decide ((t:Int)∈s)).map OL):=by
 have led:∀s∈ss.filter (λs=>decide ((t:Int)∈s)),s∈ss/\s=(t:Int)::s.tail:=λs hs=>by
  obtain ⟨h1,h2⟩:=BS.mp hs;exact ⟨h1,h.led hl h1 (of_decide_eq_true h2)⟩
 refine ⟨Lw (h.nd.filter _) λs hs=>(led s hs).2,λs hs=>?_,λs hs x hx=>?_⟩
 ·obtain ⟨u,hu,rfl⟩:=AY.mp hs
  have a:=h.asc u (led u hu).1;rw[(led u hu).2] at a;exact (Cf.mp a).2
 ·obtain ⟨u,hu,rfl⟩:=AY.mp hs
  have a:=h.asc u (led u hu).1;rw[(led u hu).2] at a;have:=(Cf.mp a).1 x hx;have z:=h.rng u (led u hu).1 x (List.mem_of_mem_tail hx);lia
theorem split_len(p:List Int->Bool):∀ss:List (List Int),(ss.filter λs=>!p s).length+(ss.filter p).length=ss.length
 | []=>rfl
 | s::ss=>by
  have:=split_len p ss;rw[Da,Da];cases p s<;>simp<;>lia
structure Made(n lo d:Nat)(rows more:List Row)(k m:Nat):Prop where
 ok:Ok n (rows++more)
 kn:Knot (rows++more) k
 up:k<=1\/lo<=tieOf (rows++more) k
 ge:∀r∈more,lo<=r.1
 cnt:∀t,(more.filter λr=>decide (r.1=t)).length<=m
 len:more.length<=d*m
theorem Made.none(o:Ok n rows):Made n lo d rows [] 0 m:=⟨by rw[BI];exact o,by unfold Knot;lia,.inl (by lia),λr h=>(nomatch h),λt=>by simp,by simp⟩
theorem Made.one(o:Ok n rows):Made n lo d rows [] 1 m:=⟨by rw[BI];exact o,by unfold Knot;lia,.inl (by lia),λr h=>(nomatch h),λt=>by simp,by simp⟩
theorem Jh{l k:Nat}(h:Low rows t k l):Low (rows++more) t k l:=⟨h.1,h.2.imp id λ⟨q,e,z⟩=>⟨q,by rw[By (AL.mp e).1];exact e,z⟩⟩
theorem ABW(o:Ok n rows)(ht:t<n)(h1:Low rows t (rows.length+2) k1)(h2:Low rows t (rows.length+2) k2):Ok n (rows++[(t,k1,k2)]):=by
 intro j r e;rcases C8 j rows.length with c | c
 ·rw[By c] at e
  obtain ⟨z1,z2,z3⟩:=o j r e;exact ⟨z1,Jh z2,Jh z3⟩
 ·rw[Ct c] at e
  have j0:j=rows.length:=by
   have:=(AL.mp e).1;simp at this;lia
  subst j0;rw[IN] at e;cases e;exact ⟨ht,Jh h1,Jh h2⟩
theorem Hu{k:Nat}(kn:Knot rows k)(up:k<=1\/t+1<=tieOf rows k):Low rows t (rows.length+2) k:=by
 refine ⟨kn,?_⟩;rcases C8 k 2 with c | c
 ·exact .inl (by lia)
 ·exact .inr ⟨_,BZ kn c,by have:=up.resolve_left (by lia);unfold tieOf at this;lia⟩
theorem Xh{k:Nat}(kn:Knot rows k)(h2:2<=k):tieOf (rows++more) k=tieOf rows k:=by
 unfold tieOf;rw[AD,AD,By (by unfold Knot at kn;lia)]
theorem Made.step(M1:Made n (t+1) d rows more1 k1 m1)(M2:Made n (t+1) d (rows++more1) more2 k2 m2)(em:m1+m2=m)(hm:1<=m)(ht:t<n)(hlo:lo<=t) :
  Made n lo (d+1) rows (more1++more2++[(t,k1,k2)]) ((rows++(more1++more2)).length+2) m:=by
 have e:rows++(more1++more2)=rows++more1++more2:=(CD ..).symm;have kn1:Knot (rows++more1++more2) k1:=FQ M1.kn;have up1:k1<=1\/t+1<=tieOf (rows++more1++more2) k1:=by
  rcases C8 k1 2 with c | c
  ·exact .inl (by lia)
  ·rw[Xh M1.kn c];exact M1.up
 have oa:=ABW M2.ok ht (Hu kn1 up1) (Hu M2.kn M2.up);have er:rows++(more1++more2++[(t,k1,k2)])=rows++more1++more2++[(t,k1,k2)]:=by simp
 refine ⟨by rw[er];exact oa,?_,.inr ?_,λr hr=>?_,λu=>?_,?_⟩
 ·unfold Knot
  rw[er,e,AT (as:=rows++more1++more2),Dx];lia
 ·rw[er,e]
  unfold tieOf;rw[DE,AD,Ct (AE _),IN];exact hlo
 ·rcases B9.mp hr with hr | hr
  ·rcases B9.mp hr with hr | hr
   ·have:=M1.ge r hr;lia
   ·have:=M2.ge r hr;lia
  ·rw[Bn.mp hr];exact hlo
 ·have c1:=M1.cnt u
  have c2:=M2.cnt u;rw[Cc,Cc,AT,AT];by_cases z:t=u
  ·have none:∀(l:List Row),(∀r∈l,t+1<=r.1)->(l.filter λr=>decide (r.1=u)).length=0:=λl h=>by
    rw[G6,JU];intro r hr;have:=h r hr;simp;lia
   rw[none _ M1.ge,none _ M2.ge];refine BM ?_ hm;rw[K2];exact BM (Cs _ _) (AE _)
  ·rw[Da,if_neg (by simpa using z),EL,F9]
   lia
 ·have l1:=M1.len
  have l2:=M2.len;rw[AT,AT,Dx,Nat.add_mul,<- em,X6];lia
end
section
variable{n t:Nat}{rows nums new more:List Row}{rc:List Nat}{pl pl':Nat->Option Nat}
theorem AAX(o:Ok n rows):∀(f k:Nat) (s:List Nat),Knot rows k->ledF (rows++more) f k s=ledF rows f k s:=by
 intro f
 induction f with
 | zero=>intro k s h;rfl
 | succ f ih =>
  intro k s kn;unfold ledF;by_cases c:k<=1
  ·rw[if_pos c,if_pos c]
  rw[if_neg c,if_neg c];have eg:(rows++more).getD (k-2) (0,0,0)=rows.getD (k-2) (0,0,0):=by
   rw[AD,AD,By (by unfold Knot at kn;lia)]
  obtain ⟨h1,h2,h3,_,_,k1,k2⟩:=o.low (BZ kn (by lia));rw[eg];cases s with
  | nil=>exact ih _ _ k1
  | cons x xs =>
   show (if _ then _ else if _ then ledF (rows++more) f _ _ else ledF (rows++more) f _ _)=_;rw[ih _ _ k1,ih _ _ k2]
theorem Cr(o:Ok n rows){k:Nat}(s:List Nat)(kn:Knot rows k):led (rows++more) k s=led rows k s:=AAX o _ _ _ kn
def RowLt(a b:Row):Prop:=b.1<a.1\/(a.1=b.1/\(a.2.1<b.2.1\/(a.2.1=b.2.1/\a.2.2<b.2.2)))
structure Kept2(n t:Nat)(rows:List Row)(rc:List Nat)(nums:List Row)(pl:Nat->Option Nat):Prop where
 base:Kept n t rows rc nums pl
 sem:∀k∈rc,t<=tieOf rows k->∀p,pl k=some p->∀s,led nums p s=led rows k s
 img:∀k∈rc,t<=tieOf rows k->∀p,pl k=some p->(2<=p/\nums[p-2]?=some (rowIn rows pl k))\/((rowIn rows pl k).2.2=0/\p=(rowIn rows pl k).2.1)
 sur:∀(i:Nat) (r:Row),nums[i]?=some r->∃k∈rc,t<=tieOf rows k/\pl k=some (i+2)
 srt:nums.Pairwise RowLt
theorem Wo(hn:∀k∈rc,tieOf rows k<n):Kept2 n n rows rc [] (λk=>if k=0 then some 0 else if k=1 then some 1 else none) :=
 ⟨Yz hn,λk hk h=>absurd (hn k hk) (by lia),λk hk h=>absurd (hn k hk) (by lia),λi r h=>by simp at h,.nil⟩
theorem WY(c:Closed rows rc)(o:Ok n rows)(h1:∀k,k∉rc\/tieOf rows k≠t->pl' k=pl k){k:Nat}(hk:k∈rc)(ht:t<=tieOf rows k):rowIn rows pl' k=rowIn rows pl k:=by
 have two:∀k,k<=1->k∉rc:=λk h z=>by have:=c.two k z;lia
 obtain ⟨_,z1,z2⟩:=c.low o hk;have e1:pl' (outOf rows k)=pl (outOf rows k):=by
  rcases z1 with z | z
  ·exact h1 _ (.inl (two _ z))
  ·exact h1 _ (.inr (by lia))
 have e2:pl' (intoOf rows k)=pl (intoOf rows k):=by
  rcases z2 with z | z
  ·exact h1 _ (.inl (two _ z))
  ·exact h1 _ (.inr (by lia))
 unfold rowIn;rw[e1,e2]
theorem Kept2.low(I:Kept2 n (t+1) rows rc nums pl){l p:Nat}(h:l<=1\/l∈rc)(z:l<=1\/t<tieOf rows l)(hp:pl l=some p)(s:List Nat):led nums p s=led rows l s:=by
 rcases C8 l 2 with c | c
 ·have e:l=0\/l=1:=by lia
  rcases e with rfl | rfl
  ·rw[I.base.z] at hp
   cases hp;rw[Cd,Cd]
  ·rw[I.base.o] at hp
   cases hp;rw[Cu,Cu]
 ·exact I.sem l (h.resolve_left (by lia)) (z.resolve_left (by lia)) p hp s
theorem Kept2.step(I:Kept2 n (t+1) rows rc nums pl)(c:Closed rows rc)(o:Ok n rows)(hn:t<n)(hw:∀r,r∈new->∃k,k∈rc/\tieOf rows k=t/\r=rowIn rows pl k/\r.2.2≠0)(nd:new.Nodup)
  (hw2:∀k∈rc,tieOf rows k=t->(rowIn rows pl k).2.2≠0->rowIn rows pl k∈new) (so:new.Pairwise RowLt)
  (h1:∀k,k∉rc\/tieOf rows k≠t->pl' k=pl k)
  (h2:∀k∈rc,tieOf rows k=t->∃p,pl' k=some p/\((∃i,(nums++new)[i]?=some (rowIn rows pl k)/\p=i+2)\/(rowIn rows pl k∉nums++new/\p=(rowIn rows pl k).2.1))) :
  Kept2 n t rows rc (nums++new) pl':=by
 have B:=I.base.step c o hn hw nd h1 h2;have okN:=I.base.least.ok;have at_:∀k∈rc,tieOf rows k=t->∀p,pl' k=some p->(∃i,(nums++new)[i]?=some (rowIn rows pl k)/\p=i+2)\/((rowIn rows pl k).2.2=0/\p=(rowIn rows pl k).2.1):=λk hk ht p hp=>by
  obtain ⟨p',e,h⟩:=h2 k hk ht;rw[hp] at e;cases e;rcases h with h | ⟨nm,e⟩
  ·exact .inl h
  ·refine .inr ⟨?_,e⟩
   rcases Sa (rowIn rows pl k).2.2 with z | z
   ·exact z
   ·exact absurd (CC _ (hw2 k hk ht (by lia))) nm
 have old:∀k∈rc,t+1<=tieOf rows k->∀p,pl' k=some p->pl k=some p:=λk hk ht p hp=>by rw[h1 k (.inr (by lia))] at hp;exact hp
 refine ⟨B,λk hk ht p hp s=>?_,λk hk ht p hp=>?_,λi r e=>?_,?_⟩
 ·by_cases e:tieOf rows k=t
  ·obtain ⟨a,b,ea,eb,re,x1,x2,x3,x4⟩:=I.base.row c o hn hk e
   obtain ⟨_,z1,z2⟩:=c.low o hk;have la:∀s,led nums a s=led rows (outOf rows k) s:=I.low (c.out k hk) (by rw[<- e];exact z1) ea;have lb:∀s,led nums b s=led rows (intoOf rows k) s:=I.low (c.into k hk) (by rw[<- e];exact z2) eb;have kk:=c.knot k hk;have k2:=c.two k hk;have et:(rows.getD (k-2) (0,0,0)).1=t:=e;rcases at_ k hk e p hp with⟨i,hi,rfl⟩ | ⟨w0,rfl⟩
   ·have il:=(AL.mp hi).1
    have kp:Knot (nums++new) (i+2):=by unfold Knot;lia
    have eg:(nums++new).getD (i+2-2) (0,0,0)=(t,a,b):=by rw[DE,AD,hi,re];rfl
    cases s with
    | nil =>
     rw[DP B.least.ok kp (by lia),eg,DP o kk k2];show led (nums++new) a []=_;rw[Cr okN [] x1];exact la []
    | cons x xs =>
     rw[Bf B.least.ok kp (by lia),eg,Bf o kk k2,et];show (if x<t then false else if x=t then led (nums++new) b xs else led (nums++new) a (x::xs))=_;rw[Cr okN _ x1,Cr okN _ x2,la,lb];rfl
   ·rw[re] at w0
    have b0:b=0:=w0;rw[re];show led (nums++new) a s=_;rw[Cr okN _ x1,la];have into0:∀s,led rows (intoOf rows k) s=false:=λs=>by rw[<- lb,b0,Cd]
    have offA:∀x xs,x<=t->led rows (outOf rows k) (x::xs)=false:=λx xs h=>by rw[<- la];exact off okN x1 (by lia)
    cases s with
    | nil=>rw[DP o kk k2];rfl
    | cons x xs =>
     rw[Bf o kk k2,et];by_cases c1:x<t
     ·rw[if_pos c1];exact offA x xs (by lia)
     ·rw[if_neg c1]
      by_cases c2:x=t
      ·rw[if_pos c2]
       show _=led rows (intoOf rows k) xs;rw[into0];exact offA x xs (by lia)
      ·rw[if_neg c2];rfl
  ·have hp':=old k hk (by lia) p hp
   obtain ⟨p',e1,e2,_⟩:=I.base.has k hk (by lia);rw[hp'] at e1;cases e1;rw[Cr okN s e2];exact I.sem k hk (by lia) p hp' s
 ·rw[WY c o h1 hk ht]
  by_cases e:tieOf rows k=t
  ·rcases at_ k hk e p hp with⟨i,hi,rfl⟩ | h
   ·exact .inl ⟨by lia,hi⟩
   ·exact .inr h
  ·rcases I.img k hk (by lia) p (old k hk (by lia) p hp) with⟨h2,h3⟩ | h
   ·refine .inl ⟨h2,?_⟩
    rw[By (AL.mp h3).1];exact h3
   ·exact .inr h
 ·rcases C8 i nums.length with hi | hi
  ·rw[By hi] at e
   obtain ⟨k,hk,ht,hp⟩:=I.sur i r e;exact ⟨k,hk,by lia,by rw[h1 k (.inr (by lia))];exact hp⟩
  ·have e':=e
   rw[Ct hi] at e';obtain ⟨k,hk,ht,rfl,w0⟩:=hw r (Bi e');obtain ⟨p,hp,h⟩:=h2 k hk ht;refine ⟨k,hk,by lia,?_⟩;rcases h with⟨j,hj,rfl⟩ | ⟨nm,_⟩
   ·rw[B.least.one i j _ e hj]
    exact hp
   ·exact absurd (Bi e) nm
 ·refine C1.mpr ⟨I.srt,so,λa ha b hb=>.inl ?_⟩
  have:=I.base.ge a ha;obtain ⟨k,_,hk,rfl,_⟩:=hw b hb;show tieOf rows k<a.1;lia
structure Canon(n:Nat)(nums:List Row)(top:Nat):Prop where
 least:Least n nums
 srt:nums.Pairwise RowLt
 knot:Knot nums top
 led:∀p,2<=p->Knot nums p->p=top\/∃r∈nums,r.2.1=p\/r.2.2=p
theorem Kept2.canon(I:Kept2 n 0 rows rc nums pl)(c:Closed rows rc)(o:Ok n rows){top hd:Nat}(ht:top<=1\/top∈rc)(hp:pl top=some hd)(par:∀k∈rc,k=top\/∃k'∈rc,k<k'/\(outOf rows k'=k\/intoOf rows k'=k)) :
  Canon n nums hd/\∀s,led nums hd s=led rows top s:=by
 have key:∀d k p,k∈rc->rows.length+2-k<=d->pl k=some p->2<=p->p=hd\/∃r∈nums,r.2.1=p\/r.2.2=p:=by
  intro d
  induction d with
  | zero =>
   intro k p hk hd' _ _;have:=c.knot k hk;unfold Knot at this;lia
  | succ d ih =>
   intro k p hk hd' hkp p2;rcases par k hk with rfl | ⟨k',hk',lt,ch⟩
   ·rw[hp] at hkp
    exact .inl (BH hkp).symm
   ·obtain ⟨p',hp',_⟩:=I.base.has k' hk' (A8 _)
    have im:=I.img k' hk' (A8 _) p' hp';rcases ch with e | e
    ·have ep:(rowIn rows pl k').2.1=p:=by
      show (pl (outOf rows k')).getD 0=p;rw[e,hkp];rfl
     rcases im with⟨_,h3⟩ | ⟨_,h4⟩
     ·exact .inr ⟨_,Bi h3,.inl ep⟩
     ·rw[ep] at h4
      subst h4;have:=c.knot k' hk';unfold Knot at this;exact ih k' p' hk' (by lia) hp' p2
    ·have ep:(rowIn rows pl k').2.2=p:=by
      show (pl (intoOf rows k')).getD 0=p;rw[e,hkp];rfl
     rcases im with⟨_,h3⟩ | ⟨h4,_⟩
     ·exact .inr ⟨_,Bi h3,.inr ep⟩
     ·lia
 refine ⟨⟨I.base.least,I.srt,?_,λp p2 kp=>?_⟩,λs=>?_⟩
 ·rcases ht with h | h
  ·have:top=0\/top=1:=by lia
   rcases this with rfl | rfl
   ·rw[I.base.z] at hp;cases hp;unfold Knot;lia
   ·rw[I.base.o] at hp;cases hp;unfold Knot;lia
  ·obtain ⟨p,e,kn,_⟩:=I.base.has top h (A8 _)
   rw[hp] at e;cases e;exact kn
 ·obtain ⟨k,hk,_,hkp⟩:=I.sur (p-2) _ (BZ kp p2)
  rw[show p-2+2=p by lia] at hkp;exact key _ k p hk (AE _) hkp p2
 ·rcases ht with h | h
  ·have:top=0\/top=1:=by lia
   rcases this with rfl | rfl
   ·rw[I.base.z] at hp;cases hp;rw[Cd,Cd]
   ·rw[I.base.o] at hp;cases hp;rw[Cu,Cu]
  ·exact I.sem top h (A8 _) hd hp s
end
theorem Kg{α:Type}{R:α->α->Prop}(as:∀a b,R a b->R b a->False):∀{l m:List α},l.Pairwise R->m.Pairwise R->(∀x,x∈l↔x∈m)->l=m
 | [],[],_,_,_=>rfl
 | [],b::m,_,_,h=>absurd ((h b).mpr AC) (λz=>nomatch z)
 | a::l,[],_,_,h=>absurd ((h a).mp AC) (λz=>nomatch z)
 | a::l,b::m,hl,hm,h=>by
  obtain ⟨l1,l2⟩:=Cf.mp hl;obtain ⟨m1,m2⟩:=Cf.mp hm;have e:a=b:=by
   rcases Be.mp ((h a).mp AC) with e | e
   ·exact e
   ·rcases Be.mp ((h b).mpr AC) with e' | e'
    ·exact e'.symm
    ·exact (as _ _ (m1 a e) (l1 b e')).elim
  subst e
  congr 1
  refine Kg as l2 m2 λx=>⟨λhx=>?_,λhx=>?_⟩
  ·rcases Be.mp ((h x).mp (AG _ hx)) with e | e
   ·rw[e] at hx;exact (as _ _ (l1 a hx) (l1 a hx)).elim
   ·exact e
  ·rcases Be.mp ((h x).mpr (AG _ hx)) with e | e
   ·rw[e] at hx;exact (as _ _ (m1 a hx) (m1 a hx)).elim
   ·exact e
theorem Rz(a b:Row)(h:RowLt a b)(k:RowLt b a):False:=by
 unfold RowLt at h k;lia
theorem Gq(t:Nat):∀{A:List Row},A.Pairwise RowLt->A=A.filter (λr=>decide (t<=r.1))++A.filter (λr=>!decide (t<=r.1))
 | [],_=>rfl
 | a::l,h=>by
  obtain ⟨h1,h2⟩:=Cf.mp h;by_cases c:t<=a.1
  ·rw[Da,Da,if_pos (by simpa using c),if_neg (by simpa using c),N9,<- Gq t h2]
  ·have z:∀r∈l,¬ t<=r.1:=λr hr=>by
    have:=h1 r hr;unfold RowLt at this;lia
   have e1:l.filter (λr=>decide (t<=r.1))=[]:=JU.mpr λr hr=>by simpa using z r hr
   have e2:l.filter (λr=>!decide (t<=r.1))=l:=List.filter_eq_self.mpr λr hr=>by simpa using z r hr
   rw[Da,Da,if_neg (by simpa using c),if_pos (by simpa using c),e1,e2];rfl
section
variable{n:Nat}{A B:List Row}{a b k k':Nat}
theorem KY(L:Least n A):∀(f k:Nat),k<f->Knot A k->k≠0->∃s,Way n A k s/\(2<=k->∃xs,s=rank n A k::xs)/\(k=1->s=[])
 | 0,k,h,_,_=>by lia
 | f+1,k,h,kn,k0=>by
  rcases C8 k 2 with c | c
  ·have e:k=1:=by lia
   subst e;exact ⟨[],ADv,λz=>by lia,λ_=>rfl⟩
  ·obtain ⟨_,_,h3,_,_,_,k2⟩:=L.ok.low (BZ kn c)
   have w0:=L.pos _ _ (BZ kn c);obtain ⟨s,hs,_⟩:=KY L f _ (by lia) k2 w0;refine ⟨_,ACH L kn c hs,λ_=>⟨s,?_⟩,λz=>by lia⟩;unfold rank;rw[if_neg (by lia)]
structure Sim(A B:List Row)(k k':Nat):Prop where
 ka:Knot A k
 kb:Knot B k'
 eq:∀s,led A k s=led B k' s
theorem Sim.symm(S:Sim A B k k'):Sim B A k' k:=⟨S.kb,S.ka,λs=>(S.eq s).symm⟩
theorem Sim.no(LA:Least n A)(LB:Least n B)(S:Sim A B k k'):¬ rank n A k<rank n B k':=λh=>by
 have k0:k≠0:=λe=>by
  subst e;have:rank n B k'<=n+1:=by
   unfold rank;by_cases c:k'<2
   ·rw[if_pos c];lia
   ·rw[if_neg c]
    have:=(LB.ok.low (BZ S.kb (by lia))).1;lia
  have e:rank n A 0=n+1:=by unfold rank;rw[if_pos (by decide)];rfl
  lia
 obtain ⟨s,⟨w1,_,_⟩,s2,s1⟩:=KY LA _ k (D2 _) S.ka k0;rcases C8 k 2 with c | c
 ·have e:k=1:=by lia
  subst e;rw[s1 rfl,S.eq] at w1;have e1:rank n A 1=n:=by unfold rank;rw[if_pos (by decide)];rfl
  have k1:k'=0:=by
   unfold rank at h e1;rw[e1] at h;by_cases c':k'<2
   ·rw[if_pos c'] at h;lia
   ·rw[if_neg c'] at h
    have:=(LB.ok.low (BZ S.kb (by lia))).1;lia
  rw[k1,Cd] at w1;cases w1
 ·obtain ⟨xs,rfl⟩:=s2 c
  rw[S.eq,off LB.ok S.kb h] at w1;cases w1
theorem Sim.rank_eq(LA:Least n A)(LB:Least n B)(S:Sim A B k k'):rank n A k=rank n B k':=by
 have h1:=S.no LA LB;have h2:=S.symm.no LB LA;lia
theorem GX(L:Least n A)(kn:Knot A k):2<=k↔rank n A k<n:=by
 unfold rank;constructor
 ·intro h
  rw[if_neg (by lia)];exact (L.ok.low (BZ kn h)).1
 ·intro h
  rcases C8 k 2 with c | c
  ·rw[if_pos c] at h;lia
  ·exact c
theorem Sim.small(LA:Least n A)(LB:Least n B)(S:Sim A B k k')(h:k<=1):k=k':=by
 have e:=S.rank_eq LA LB;have z:=GX LA S.ka;have z':=GX LB S.kb;have:¬ 2<=k':=λc=>by have:=z'.mp c;rw[<- e] at this;have:=z.mpr this;lia
 unfold rank at e;rw[if_pos (by lia),if_pos (by lia)] at e;lia
theorem Sim.child(LA:Least n A)(LB:Least n B)(S:Sim A B k k')(h:2<=k):2<=k'/\tieOf A k=tieOf B k'/\Sim A B (outOf A k) (outOf B k')/\Sim A B (intoOf A k) (intoOf B k'):=by
 have e:=S.rank_eq LA LB;have k2:2<=k':=(GX LB S.kb).mpr (by rw[<- e];exact (GX LA S.ka).mp h);have et:tieOf A k=tieOf B k':=by
  unfold rank at e;rw[if_neg (by lia),if_neg (by lia)] at e;exact e
 obtain ⟨_,_,_,ra,_,ka1,ka2⟩:=LA.ok.low (BZ S.ka h);obtain ⟨_,_,_,rb,_,kb1,kb2⟩:=LB.ok.low (BZ S.kb k2);refine ⟨k2,et,⟨ka1,kb1,λs=>?_⟩,⟨ka2,kb2,λs=>?_⟩⟩
 ·cases s with
  | nil =>
   have:=S.eq [];rw[DP LA.ok S.ka h,DP LB.ok S.kb k2] at this;exact this
  | cons x xs =>
   by_cases c:x<=tieOf A k
   ·rw[show led A (outOf A k) (x::xs)=false from off LA.ok ka1 (by show x<rank n A (A.getD (k-2) (0,0,0)).2.1;unfold tieOf at c;lia),show led B (outOf B k') (x::xs)=false from off LB.ok kb1 (by show x<rank n B (B.getD (k'-2) (0,0,0)).2.1;unfold tieOf at c et;lia)]
   ·have:=S.eq (x::xs)
    rw[Bf LA.ok S.ka h,Bf LB.ok S.kb k2] at this;unfold tieOf at c et;rw[if_neg (by lia),if_neg (by lia),if_neg (by lia),if_neg (by lia)] at this;exact this
 ·have:=S.eq (tieOf A k::s)
  rw[Bf LA.ok S.ka h,Bf LB.ok S.kb k2] at this;unfold tieOf at this et;rw[if_neg (by lia),if_pos rfl,if_neg (by lia),if_pos et] at this;exact this
theorem Sim.all(CA:Canon n A a)(CB:Canon n B b)(S:Sim A B a b):∀(d k:Nat),A.length+2-k<=d->2<=k->Knot A k->∃k',Sim A B k k'
 | 0,k,h,_,kn=>by unfold Knot at kn;lia
 | d+1,k,h,k2,kn=>by
  rcases CA.led k k2 kn with rfl | ⟨r,hr,ch⟩
  ·exact ⟨b,S⟩
  ·obtain ⟨i,hi⟩:=DA.mp hr
   have il:=(AL.mp hi).1;obtain ⟨_,lo,li,_⟩:=CA.least.ok.low hi;have er:A.getD (i+2-2) (0,0,0)=r:=by rw[DE,AD,hi];rfl
   obtain ⟨j,SJ⟩:=Sim.all CA CB S d (i+2) (by unfold Knot at kn;rcases ch with e | e<;>lia) (by lia) (by unfold Knot;lia);obtain ⟨_,_,s1,s2⟩:=SJ.child CA.least CB.least (by lia);unfold outOf at s1;unfold intoOf at s2;rw[er] at s1 s2;rcases ch with e | e
   ·rw[e] at s1;exact ⟨_,s1⟩
   ·rw[e] at s2;exact ⟨_,s2⟩
theorem half(CA:Canon n A a)(CB:Canon n B b)(S:Sim A B a b){t:Nat}(P:∀k k',Sim A B k k'->t+1<=rank n A k->k=k'){r:Row}(hr:r∈A)(ht:r.1=t):r∈B:=by
 obtain ⟨i,hi⟩:=DA.mp hr;have il:=(AL.mp hi).1;have er:A.getD (i+2-2) (0,0,0)=r:=by rw[DE,AD,hi];rfl
 obtain ⟨j,SJ⟩:=Sim.all CA CB S _ (i+2) (AE _) (by lia) (by unfold Knot;lia);obtain ⟨j2,et,s1,s2⟩:=SJ.child CA.least CB.least (by lia);obtain ⟨_,_,_,r1,r2,_,_⟩:=CA.least.ok.low hi;have e1:r.2.1=outOf B j:=by
  have:=P _ _ s1 (by unfold outOf;rw[er];lia);unfold outOf at this ⊢;rw[er] at this;exact this
 have e2:r.2.2=intoOf B j:=by
  have:=P _ _ s2 (by unfold intoOf;rw[er];lia);unfold intoOf at this ⊢;rw[er] at this;exact this
 have e3:r.1=tieOf B j:=by
  unfold tieOf at et ⊢;rw[er] at et;exact et
 have:r=B.getD (j-2) (0,0,0):=Kb e3 (Kb e1 e2);rw[this];exact Bi (BZ SJ.kb j2)
theorem Zj(CA:Canon n A a)(CB:Canon n B b)(S:Sim A B a b):∀d,(∀r:Row,n<=r.1+d->(r∈A↔r∈B))/\∀k k',Sim A B k k'->n<=rank n A k+d->k=k':=by
 intro d
 induction d with
 | zero =>
  have hA:∀r∈A,r.1<n:=λr hr=>by
   obtain ⟨i,hi⟩:=DA.mp hr;exact (CA.least.ok.low hi).1
  have hB:∀r∈B,r.1<n:=λr hr=>by
   obtain ⟨i,hi⟩:=DA.mp hr;exact (CB.least.ok.low hi).1
  refine ⟨λr h=>⟨λz=>?_,λz=>?_⟩,λk k' s h=>?_⟩
  ·have:=hA r z;lia
  ·have:=hB r z;lia
  ·refine s.small CA.least CB.least ?_
   have:=GX CA.least s.ka;rcases C8 k 2 with c | c
   ·lia
   ·have:=this.mp c;lia
 | succ d ih =>
  obtain ⟨M,P⟩:=ih;have M':∀r:Row,n<=r.1+(d+1)->(r∈A↔r∈B):=λr h=>by
   by_cases c:n<=r.1+d
   ·exact M r c
   ·refine ⟨λz=>half CA CB S (λk k' s hk=>P k k' s (by lia)) z rfl,λz=>half CB CA S.symm (λk k' s hk=>?_) z rfl⟩
    have e:=s.rank_eq CB.least CA.least;exact (P k' k s.symm (by lia)).symm
  refine ⟨M',λk k' s h=>?_⟩;by_cases c:n<=rank n A k+d
  ·exact P k k' s c
  rcases C8 k 2 with k2 | k2
  ·exact s.small CA.least CB.least (by lia)
  obtain ⟨k2',et,s1,s2⟩:=s.child CA.least CB.least k2;obtain ⟨_,_,_,r1,r2,_,_⟩:=CA.least.ok.low (BZ s.ka k2);have rk:rank n A k=tieOf A k:=by unfold rank tieOf;rw[if_neg (by lia)]
  have e1:=P _ _ s1 (by unfold outOf;unfold tieOf at rk;lia);have e2:=P _ _ s2 (by unfold intoOf;unfold tieOf at rk;lia);have er:A.getD (k-2) (0,0,0)=B.getD (k'-2) (0,0,0):=Kb et (Kb e1 e2);have ef:A.filter (λr=>decide (tieOf A k<=r.1))=B.filter (λr=>decide (tieOf A k<=r.1)):=by
   refine Kg Rz (CA.srt.filter _) (CB.srt.filter _) λr=>?_;rw[BS,BS];constructor
   ·rintro⟨h1,h2⟩
    exact ⟨(M' r (by have:=of_decide_eq_true h2;lia)).mp h1,h2⟩
   ·rintro⟨h1,h2⟩
    exact ⟨(M' r (by have:=of_decide_eq_true h2;lia)).mpr h1,h2⟩
  have mem:A.getD (k-2) (0,0,0)∈A.filter (λr=>decide (tieOf A k<=r.1)):=BS.mpr ⟨Bi (BZ s.ka k2),decide_eq_true (AE _)⟩;obtain ⟨i,hi⟩:=DA.mp mem;have il:=(AL.mp hi).1;have iA:A[i]?=some (A.getD (k-2) (0,0,0)):=by
   rw[Gq (tieOf A k) CA.srt,By il];rw[<- Gq (tieOf A k) CA.srt];exact hi
  have iB:B[i]?=some (B.getD (k'-2) (0,0,0)):=by
   rw[<- er];rw[ef] at hi il;rw[Gq (tieOf A k) CB.srt,By il];exact hi
  have j1:=CA.least.one _ _ _ iA (BZ s.ka k2);have j2:=CB.least.one _ _ _ iB (BZ s.kb k2');lia
theorem Canon.unique(CA:Canon n A a)(CB:Canon n B b)(h:∀s,G.led A a s=G.led B b s):A=B/\a=b:=by
 have S:Sim A B a b:=⟨CA.knot,CB.knot,h⟩;obtain ⟨M,P⟩:=Zj CA CB S n;exact ⟨Kg Rz CA.srt CB.srt λr=>M r (by lia),P a b S (by lia)⟩
end
def up(s:List Nat):List Int:=s.map λ(x:Nat)=>(x:Int)
theorem JN:∀{s u:List Nat},up s=up u->s=u
 | [],[],_=>rfl
 | [],_::_,h=>by cases h
 | _::_,[],h=>by cases h
 | x::s,y::u,h=>by
  have h':(x:Int)::up s=(y:Int)::up u:=h;injection h' with h1 h2
  rw[JN h2,VW h1]
section
variable{n lo d t k1 k2:Nat}{ss:List (List Int)}{rows more more1 more2:List Row}
structure Made2(n lo d:Nat)(rows more:List Row)(k:Nat)(ss:List (List Int)):Prop where
 base:Made n lo d rows more k ss.length
 sem:∀s,led (rows++more) k s=decide (up s∈ss)
theorem Made2.none(o:Ok n rows)(e:ss=[]):Made2 n lo d rows [] 0 ss:=⟨Made.none o,λs=>by rw[Cd,e];rfl⟩
theorem Made2.one(o:Ok n rows)(e:ss=[[]]):Made2 n lo d rows [] 1 ss:=⟨Made.one o,λs=>by
 rw[Cu,e];cases s with
 | nil=>rfl
 | cons x xs =>
  rw[decide_eq_false (λz=>by cases z),decide_eq_false (λz=>by
   have:=Bn.mp z;cases this)]⟩
theorem Made2.step(so:SetsOk n lo ss)(hl:∀a∈heads ss,(t:Int)<=a)(M1:Made2 n (t+1) d rows more1 k1 (ss.filter λs=>!decide ((t:Int)∈s)))(M2:Made2 n (t+1) d (rows++more1) more2 k2 ((ss.filter λs=>decide ((t:Int)∈s)).map OL))
  (hm:1<=ss.length) (ht:t<n) (hlo:lo<=t):Made2 n lo (d+1) rows (more1++more2++[(t,k1,k2)]) ((rows++(more1++more2)).length+2) ss:=by
 have sp:=split_len (λs=>decide ((t:Int)∈s)) ss;have B2:=M2.base;rw[AB] at B2;have M:=M1.base.step B2 sp hm ht hlo;refine ⟨M,λs=>?_⟩;have er:rows++(more1++more2++[(t,k1,k2)])=rows++more1++more2++[(t,k1,k2)]:=by simp
 have er1:rows++(more1++more2++[(t,k1,k2)])=(rows++more1)++(more2++[(t,k1,k2)]):=by simp
 have ek:(rows++(more1++more2++[(t,k1,k2)])).getD ((rows++(more1++more2)).length+2-2) (0,0,0)=(t,k1,k2):=by
  rw[er,DE,AD,Ct (by simp),show (rows++(more1++more2)).length-(rows++more1++more2).length=0 by simp];rfl
 have l1:∀s,led (rows++(more1++more2++[(t,k1,k2)])) k1 s=decide (up s∈ss.filter λs=>!decide ((t:Int)∈s)):=λs=>by
  rw[er1,Cr M1.base.ok s M1.base.kn];exact M1.sem s
 have l2:∀s,led (rows++(more1++more2++[(t,k1,k2)])) k2 s=decide (up s∈(ss.filter λs=>decide ((t:Int)∈s)).map OL):=λs=>by
  rw[er,Cr M2.base.ok s M2.base.kn];exact M2.sem s
 cases s with
 | nil =>
  rw[DP M.ok M.kn (by lia),ek];show led _ k1 []=_;rw[l1];refine decide_eq_decide.mpr ?_;rw[BS];exact ⟨λh=>h.1,λh=>⟨h,rfl⟩⟩
 | cons x xs =>
  rw[Bf M.ok M.kn (by lia),ek];show (if x<t then false else if x=t then led _ k2 xs else led _ k1 (x::xs))=_;have asc:up (x::xs)∈ss->∀y∈up xs,(x:Int)<y:=λh=>(Cf.mp (so.asc _ h)).1;by_cases c1:x<t
  ·rw[if_pos c1]
   refine (decide_eq_false λh=>?_).symm;have:=hl (x:Int) (Eb.mpr ⟨up xs,h⟩);lia
  ·rw[if_neg c1]
   by_cases c2:x=t
   ·rw[if_pos c2,l2]
    refine decide_eq_decide.mpr ?_;subst c2;constructor
    ·intro h
     obtain ⟨u,hu,e⟩:=AY.mp h;obtain ⟨h1,h2⟩:=BS.mp hu;have:=so.led hl h1 (of_decide_eq_true h2);rw[e] at this;rw[this] at h1;exact h1
    ·intro h
     exact AY.mpr ⟨up (x::xs),BS.mpr ⟨h,decide_eq_true AC⟩,rfl⟩
   ·rw[if_neg c2,l1]
    refine decide_eq_decide.mpr ?_;rw[BS];refine ⟨λh=>h.1,λh=>⟨h,?_⟩⟩;have:(t:Int)∉up (x::xs):=λz=>by
     rcases Be.mp (show (t:Int)∈(x:Int)::up xs from z) with e | e
     ·lia
     ·have:=asc h _ e;lia
    rw[decide_eq_false this];rfl
end
theorem ZL{n:Nat}{rows nums:List Row}{rc:List Nat}{pl:Nat->Option Nat}(I:Kept2 n 0 rows rc nums pl)(c:Closed rows rc):nums.length<=rows.length:=by
 have ex:∀i,i<nums.length->∃k,k∈rc/\pl k=some (i+2):=λi hi=>by
  obtain ⟨k,hk,_,e⟩:=I.sur i _ (AJ hi);exact ⟨k,hk,e⟩
 let g:Nat->Nat:=λi=>if h:i<nums.length then Fa (ex i h) else 0
 have hg:∀i,i<nums.length->g i∈rc/\pl (g i)=some (i+2):=λi hi=>by
  have z:=FU (ex i hi);show (if h:i<nums.length then Fa (ex i h) else 0)∈rc/\pl (if h:i<nums.length then Fa (ex i h) else 0)=some (i+2);rw[dif_pos hi];exact z
 have nd:((AI nums.length).map g).Nodup:=by
  unfold Mb;rw[CS];refine EI (λ{a b} ha hb h e=>?_) (D5 (n:=nums.length));have h1:=(hg a (AS.mp ha)).2;have h2:=(hg b (AS.mp hb)).2;rw[e,h2] at h1;injection h1 with h1
  lia
 have z:=ST.Br nd (l₂:=(AI rows.length).map (·+2)) λx hx=>by
  obtain ⟨i,hi,rfl⟩:=AY.mp hx;have hk:=(hg i (AS.mp hi)).1;have a:=c.two _ hk;have b:g i<rows.length+2:=c.knot _ hk;exact AY.mpr ⟨g i-2,AS.mpr (by lia),by lia⟩
 rw[AB,AB,BD,BD] at z;exact z
section
variable{n t:Nat}{A rows nums:List Row}{rc:List Nat}{pl:Nat->Option Nat}
theorem Sim.inj(L:Least n A):∀(f k k':Nat),k<f->Sim A A k k'->k=k':=by
 intro f
 induction f with
 | zero=>intro k k' h;lia
 | succ f ih =>
  intro k k' hk S;rcases C8 k 2 with c | c
  ·exact S.small L L (by lia)
  ·obtain ⟨c',et,so,si⟩:=S.child L L c
   have ra:=BZ S.ka c;have rb:=BZ S.kb c';obtain ⟨_,a1,a2,_⟩:=L.ok.low ra;have e1:outOf A k=outOf A k':=ih _ _ (by show (A.getD (k-2) (0,0,0)).2.1<f;lia) so;have e2:intoOf A k=intoOf A k':=ih _ _ (by show (A.getD (k-2) (0,0,0)).2.2<f;lia) si;have er:A.getD (k-2) (0,0,0)=A.getD (k'-2) (0,0,0):=Kb et (Kb e1 e2);rw[er] at ra;have:=L.one _ _ _ ra rb;lia
theorem YC(L:Least n A){a b:Nat}(ka:Knot A a)(kb:Knot A b)(h:∀s,led A a s=led A b s):a=b:=Sim.inj L (a+1) a b (D2 _) ⟨ka,kb,h⟩
theorem Yn{P:Nat->Prop}{top:Nat}(pt:P top)(ps:∀k,P k->2<=k->Knot rows k->P (outOf rows k)/\P (intoOf rows k))(c:Closed rows rc)(par:∀k∈rc,k=top\/∃k'∈rc,k<k'/\(outOf rows k'=k\/intoOf rows k'=k)):∀(d k:Nat),rows.length+2-k<=d->k∈rc->P k:=by
 intro d
 induction d with
 | zero=>intro k h hk;have:k<rows.length+2:=c.knot k hk;lia
 | succ d ih =>
  intro k h hk;rcases par k hk with rfl | ⟨k',hk',lt,e⟩
  ·exact pt
  ·have:k<rows.length+2:=c.knot k hk
   have z:=ps k' (ih k' (by lia) hk') (c.two k' hk') (c.knot k' hk');rcases e with rfl | rfl
   ·exact z.1
   ·exact z.2
def lowH(t:Nat):List Nat->Bool
 | []=>false
 | x::_=>decide (x<=t)
end
section
variable{n:Nat}{A rows more:List Row}{m k:Nat}
theorem ADq(rows:List Row)(r:Row):(rows++[r]).getD (rows.length+2-2) (0,0,0)=r:=by
 rw[DE,AD,Ct (by lia),IN];rfl
theorem AAy(rows:List Row)(r:Row):Knot (rows++[r]) (rows.length+2):=by
 unfold Knot;rw[AT,Dx];lia
theorem Ou{t:Nat}(ks:List Nat)(hk:∀k∈ks,2<=k/\Knot A k/\tieOf A k=t)(nd:ks.Nodup):ks.length<=(A.filter λr=>decide (r.1=t)).length:=by
 have hsub:∀i∈(ks.map (· - 2)),i<A.length/\(A.getD i (0,0,0)).1=t:=λi hi=>by
  obtain ⟨k,hk',rfl⟩:=AY.mp hi;obtain ⟨k2,kn,ht⟩:=hk k hk';exact ⟨by unfold Knot at kn;lia,ht⟩
 have nd2:(ks.map (· - 2)).Nodup:=by
  unfold Mb;rw[CS];refine EI (λ{a b} ha hb h e=>h ?_) nd;have:=(hk a ha).1;have:=(hk b hb).1;lia
 have z:=ST.Br nd2 (l₂:=(AI A.length).filter λi=>decide ((A.getD i (0,0,0)).1=t)) λi hi=>by
  obtain ⟨h1,h2⟩:=hsub i hi;exact BS.mpr ⟨AS.mpr h1,decide_eq_true h2⟩
 rw[AB] at z;refine BM z (RE ?_);have e:A=(AI A.length).map λi=>A.getD i (0,0,0):=by
  apply EV;intro i;rw[A2];by_cases c:i<A.length
  ·rw[D8 c,AJ c]
   simp[AD,c]
  ·rw[Ee (by lia),Ee (by rw[BD];lia)]
   rfl
 conv=>rhs;rw[e,Mc,AB]
 rfl
def behind(rows:List Row)(t:Nat)(ks:List Nat):List Nat:=ks.filter λk=>decide (k<2)||decide (t<tieOf rows k)
end
def addRow(S:List (List (List Nat)))(r:Row):List (List (List Nat)):=S++[S.getD r.2.1 []++(S.getD r.2.2 []).map (r.1::·)]
def setsUp(rows:List Row):List (List (List Nat)):=rows.foldl addRow [[],[[]]]
def setsOf(rows:List Row)(k:Nat):List (List Nat):=(setsUp rows).getD k []
theorem Fq(rows:List Row)(r:Row):setsUp (rows++[r])=addRow (setsUp rows) r:=by unfold setsUp;rw[List.foldl_append];rfl
theorem DY:∀(rows:List Row),(setsUp rows).length=rows.length+2:=by
 intro rows
 suffices h:∀(l:List Row) (S:List (List (List Nat))),(l.foldl addRow S).length=S.length+l.length by
  unfold setsUp;rw[h];show 2+_=_;lia
 intro l
 induction l with
 | nil=>intro S;simp
 | cons a l ih =>
  intro S;rw[OM,ih];unfold addRow;rw[AT];simp;lia
def num(n:Nat):List Nat->Nat
 | []=>0
 | x::xs=>2 ^ (n-1-x)+num n xs
theorem Vu{n:Nat}:∀{s:List Nat}{t:Nat},s.Pairwise (· < ·)->(∀x∈s,t<=x/\x<n)->num n s<2 ^ (n-t)
 | [],t,_,_=>Nat.two_pow_pos _
 | x::xs,t,h,hr=>by
  obtain ⟨h1,h2⟩:=Cf.mp h;obtain ⟨x1,x2⟩:=hr x AC;have ih:=Vu (t:=x+1) h2 λy hy=>⟨h1 y hy,(hr y (AG _ hy)).2⟩;have e:2 ^ (n-x)=2 ^ (n-1-x)+2 ^ (n-1-x):=by
   rw[show n-x=(n-1-x)+1 by lia,Me];lia
  have le:2 ^ (n-x)<=2 ^ (n-t):=Ki (by decide) (by lia);have e2:n-(x+1)=n-1-x:=by lia
  rw[e2] at ih;show 2 ^ (n-1-x)+num n xs<_;lia
section
variable{n:Nat}{rows:List Row}
structure InOrder(n:Nat)(rows:List Row)(k:Nat)(L:List (List Nat)):Prop where
 mem:∀s,s∈L↔led rows k s=true
 ord:L.Pairwise λs u=>num n s<num n u
 way:∀s∈L,s.Pairwise (· < ·)/\∀x∈s,rank n rows k<=x/\x<n
theorem AAn{α:Type}{l m:List α}{k:Nat}{d:α}(h:k<l.length):(l++m).getD k d=l.getD k d:=by
 rw[AD,AD,By h]
theorem Vz(o:Ok n rows)(r:Row){k:Nat}(kn:Knot rows k):setsOf (rows++[r]) k=setsOf rows k:=by
 unfold setsOf;rw[Fq];unfold addRow;exact AAn (by rw[DY];exact kn)
theorem VG(rows:List Row)(r:Row):setsOf (rows++[r]) (rows.length+2)=setsOf rows r.2.1++(setsOf rows r.2.2).map (r.1::·):=by
 unfold setsOf;rw[Fq];unfold addRow;rw[AD,Ct (by rw[DY];exact AE _),DY,IN];rfl
theorem InOrder.app(o:Ok n rows){r:Row}{k:Nat}{L:List (List Nat)}(kn:Knot rows k)(I:InOrder n rows k L):InOrder n (rows++[r]) k L :=
 ⟨λs=>by rw[Cr o s kn];exact I.mem s,I.ord,λs hs=>by rw[Lb kn];exact I.way s hs⟩
theorem Hq{r:Row}(o:Ok n (rows++[r])):Ok n rows:=λi q e=>by
 have il:=(AL.mp e).1;obtain ⟨h1,h2,h3⟩:=o i q (by rw[By il];exact e);have low:∀l,Low (rows++[r]) q.1 (i+2) l->Low rows q.1 (i+2) l:=λl ⟨a,b⟩=>⟨a,b.imp id λ⟨u,e,z⟩=>⟨u,by rw[By (by lia)] at e;exact e,z⟩⟩;exact ⟨h1,low _ h2,low _ h3⟩
theorem FP:∀(m:Nat) (rows:List Row),rows.length=m->Ok n rows->∀k,Knot rows k->InOrder n rows k (setsOf rows k):=by
 intro m
 induction m with
 | zero =>
  intro rows h o k kn;have e:rows=[]:=G6.mp h;subst e;have:k=0\/k=1:=by unfold Knot at kn;simp at kn;lia
  rcases this with rfl | rfl
  ·refine ⟨λs=>?_,.nil,λs hs=>by cases hs⟩
   rw[Cd];exact ⟨λh=>(by cases h),λh=>(by cases h)⟩
  ·refine ⟨λs=>?_,G7 _ _,λs hs=>?_⟩
   ·rw[Cu,decide_eq_true_iff]
    exact Bn
   ·rw[Bn.mp hs]
    exact ⟨.nil,λx hx=>by cases hx⟩
 | succ m ih =>
  intro rows h o k kn;have ne:rows≠[]:=λe=>by rw[e] at h;cases h
  obtain ⟨init,r,rfl⟩:∃init r,rows=init++[r]:=⟨rows.dropLast,rows.getLast ne,(List.dropLast_concat_getLast ne).symm⟩;have hl:init.length=m:=by simpa using h
  have oi:=Hq o;have I:=ih init hl oi;by_cases c:k<init.length+2
  ·rw[Vz oi r c]
   exact (I k c).app oi c
  ·have ek:k=init.length+2:=by unfold Knot at kn;simp at kn;lia
   subst ek;have hi:(init++[r])[init.length]?=some r:=by simp
   obtain ⟨t1,l1,l2,r1,r2,_,_⟩:=o.low hi;have kn1:Knot init r.2.1:=l1;have kn2:Knot init r.2.2:=l2;have I1:=(I _ kn1).app (r:=r) oi kn1;have I2:=(I _ kn2).app (r:=r) oi kn2;have eg:(init++[r]).getD (init.length+2-2) (0,0,0)=r:=by rw[DE,AD,hi];rfl
   have rk:rank n (init++[r]) (init.length+2)=r.1:=by unfold rank;rw[if_neg (by lia),eg]
   rw[VG];refine ⟨λs=>?_,?_,λs hs=>?_⟩
   ·rw[B9,AY]
    cases s with
    | nil =>
     rw[DP o kn (by lia),eg,I1.mem];exact ⟨λh=>h.elim id λ⟨u,_,e⟩=>(by cases e),.inl⟩
    | cons x xs =>
     rw[Bf o kn (by lia),eg,I1.mem];by_cases c1:x<r.1
     ·rw[if_pos c1]
      refine ⟨λh=>?_,λh=>by cases h⟩;rcases h with h | ⟨u,_,e⟩
      ·rw[off o (FQ kn1) (by lia)] at h;exact h
      ·injection e with e _;lia
     ·rw[if_neg c1]
      by_cases c2:x=r.1
      ·rw[if_pos c2]
       subst c2;refine ⟨λh=>?_,λh=>.inr ⟨xs,(I2.mem xs).mpr h,rfl⟩⟩;rcases h with h | ⟨u,hu,e⟩
       ·rw[off o (FQ kn1) (by lia)] at h;cases h
       ·injection e with _ e
        rw[<- e];exact (I2.mem u).mp hu
      ·rw[if_neg c2]
       refine ⟨λh=>h.elim id λ⟨u,_,e⟩=>(by injection e with e _;lia),.inl⟩
   ·refine C1.mpr ⟨I1.ord,?_,λs hs u hu=>?_⟩
    ·rw[CS]
     exact I2.ord.imp λ{a b} h=>by show 2 ^ _+_<2 ^ _+_;lia
    ·obtain ⟨v,hv,rfl⟩:=AY.mp hu
     obtain ⟨w1,w2⟩:=I1.way s hs;have:=Vu (n:=n) (t:=r.1+1) w1 λx hx=>⟨by have:=(w2 x hx).1;lia,(w2 x hx).2⟩;rw[show n-(r.1+1)=n-1-r.1 by lia] at this;show _<2 ^ (n-1-r.1)+_;lia
   ·rw[rk]
    rcases B9.mp hs with hs | hs
    ·obtain ⟨w1,w2⟩:=I1.way s hs
     exact ⟨w1,λx hx=>⟨by have:=(w2 x hx).1;lia,(w2 x hx).2⟩⟩
    ·obtain ⟨v,hv,rfl⟩:=AY.mp hs
     obtain ⟨w1,w2⟩:=I2.way v hv;refine ⟨.cons (λx hx=>by have:=(w2 x hx).1;lia) w1,λx hx=>?_⟩;rcases Be.mp hx with rfl | hx
     ·exact ⟨AE _,t1⟩
     ·exact ⟨by have:=(w2 x hx).1;lia,(w2 x hx).2⟩
def hasW(rows:List Row):Nat->Nat->List Int->Bool
 | 0,_,_=>false
 | f+1,k,s=>if k<=1 then decide (k=1/\s=[]) else
  match s with
  | []=>hasW rows f (rows.getD (k-2) (0,0,0)).2.1 []
  | x::xs=>if x=((rows.getD (k-2) (0,0,0)).1:Int) then hasW rows f (rows.getD (k-2) (0,0,0)).2.2 xs else hasW rows f (rows.getD (k-2) (0,0,0)).2.1 (x::xs)
theorem Kc(o:Ok n rows):∀(f k:Nat) (s:List Int),k<f->Knot rows k->(hasW rows f k s=true↔∃u:List Nat,s=up u/\led rows k u=true):=by
 intro f
 induction f with
 | zero=>intro k s h;lia
 | succ f ih =>
  intro k s hk kn;unfold hasW;by_cases c:k<=1
  ·rw[if_pos c,decide_eq_true_iff]
   constructor
   ·rintro⟨rfl,rfl⟩
    exact ⟨[],rfl,by rw[Cu];rfl⟩
   ·rintro⟨u,rfl,h⟩
    have:k=0\/k=1:=by lia
    rcases this with rfl | rfl
    ·rw[Cd] at h;cases h
    ·rw[Cu,decide_eq_true_iff] at h
     subst h;exact ⟨rfl,rfl⟩
  ·rw[if_neg c]
   obtain ⟨h1,h2,h3,r1,r2,k1,k2⟩:=o.low (BZ kn (by lia));have ih1:=λs=>ih _ s (show (rows.getD (k-2) (0,0,0)).2.1<f by lia) k1;have ih2:=λs=>ih _ s (show (rows.getD (k-2) (0,0,0)).2.2<f by lia) k2;cases s with
   | nil =>
    rw[ih1];constructor
    ·rintro⟨u,e,h⟩
     have:u=[]:=JN e.symm;subst this;exact ⟨[],rfl,by rw[DP o kn (by lia)];exact h⟩
    ·rintro⟨u,e,h⟩
     have:u=[]:=JN e.symm;subst this;rw[DP o kn (by lia)] at h;exact ⟨[],rfl,h⟩
   | cons x xs =>
    by_cases e:x=((rows.getD (k-2) (0,0,0)).1:Int)
    ·show (if x=_ then _ else _)=true↔_
     rw[if_pos e,ih2];constructor
     ·rintro⟨u,rfl,h⟩
      refine ⟨(rows.getD (k-2) (0,0,0)).1::u,by rw[e];rfl,?_⟩;rw[Bf o kn (by lia),if_neg (by lia),if_pos rfl];exact h
     ·rintro⟨u,eu,h⟩
      cases u with
      | nil=>cases eu
      | cons y ys =>
       have eu':x::xs=(y:Int)::up ys:=eu;injection eu' with e1 e2
       have ey:y=(rows.getD (k-2) (0,0,0)).1:=by lia
       rw[Bf o kn (by lia),if_neg (by lia),if_pos ey] at h;exact ⟨ys,e2,h⟩
    ·show (if x=_ then _ else _)=true↔_
     rw[if_neg e,ih1];constructor
     ·rintro⟨u,eu,h⟩
      refine ⟨u,eu,?_⟩;cases u with
      | nil=>cases eu
      | cons y ys =>
       have eu':x::xs=(y:Int)::up ys:=eu;injection eu' with e1 e2
       have ne:y≠(rows.getD (k-2) (0,0,0)).1:=λz=>e (by lia);have ge:¬ y<(rows.getD (k-2) (0,0,0)).1:=λz=>by
        rw[off o k1 (by lia)] at h;cases h
       rw[Bf o kn (by lia),if_neg ge,if_neg ne];exact h
     ·rintro⟨u,eu,h⟩
      refine ⟨u,eu,?_⟩;cases u with
      | nil=>cases eu
      | cons y ys =>
       have eu':x::xs=(y:Int)::up ys:=eu;injection eu' with e1 e2
       have ne:y≠(rows.getD (k-2) (0,0,0)).1:=λz=>e (by lia);rw[Bf o kn (by lia)] at h;by_cases c2:y<(rows.getD (k-2) (0,0,0)).1
       ·rw[if_pos c2] at h;cases h
       ·rw[if_neg c2,if_neg ne] at h;exact h
end
abbrev Sta:=List Int
section
variable{n t k kl kr:Nat}{rows more:List Row}{f:List Nat->Bool}
structure Lead(rows:List Row)(t k:Nat)(f:List Nat->Bool):Prop where
 kn:Knot rows k
 up:k<=1\/t<=tieOf rows k
 eq:∀s,led rows k s=f s
theorem Lead.app(o:Ok n rows)(h:Lead rows t k f):Lead (rows++more) t k f:=by
 refine ⟨FQ h.kn,?_,λs=>by rw[Cr o s h.kn,h.eq]⟩;rcases C8 1 k with c | c
 ·rw[Xh h.kn c];exact h.up
 ·exact .inl c
theorem Np(h:∀s,f s=false):Lead rows t 0 f:=⟨by unfold Knot;lia,.inl (by lia),λs=>by rw[Cd,h]⟩
theorem AAz(h:∀s,f s=decide (s=[])):Lead rows t 1 f:=⟨by unfold Knot;lia,.inl (by lia),λs=>by rw[Cu,h]⟩
def Cnt(t:Nat)(more:List Row):Prop:=∀j,(more.filter λr=>decide (r.1=j)).length<=if j<t then 0 else 2 ^ (j-t)
theorem cnt_nil:Cnt t []:=λj=>A8 _
theorem AAo{m1 m2:List Row}(h1:Cnt (t+1) m1)(h2:Cnt (t+1) m2):Cnt t (m1++m2++[(t,kl,kr)]):=λj=>by
 have a:=h1 j;have b:=h2 j;rw[Cc,Cc,AT,AT];rcases NL j t with c | c | c
 ·rw[if_pos (by lia)] at a b
  rw[if_pos c,EQ (by simp;lia)];show _+_+0<=0;lia
 ·subst c
  rw[if_pos (by lia)] at a b;rw[if_neg (by lia),IN,ER (by simp)];show _+_+1<=1;lia
 ·rw[if_neg (by lia)] at a b
  rw[if_neg (by lia),EQ (by simp;lia)];have e:2 ^ (j-t)=2 ^ (j-(t+1))+2 ^ (j-(t+1)):=by
   rw[show j-t=(j-(t+1))+1 by lia,Me];lia
  show _+_+0<=_;lia
end
abbrev StO:=List (Option Int)
section
variable (lef tak pas:Nat->StO->Option StO)(ful:StO->Bool)
def stepO(t:Nat)(g:Option StO->List Nat->Bool)(st:StO):List Nat->Bool
 | []=>g (lef t st) []
 | x::xs=>if x<t then false else if x=t then g (tak t st) xs else g (lef t st) (x::xs)
def semO:Nat->Nat->Option StO->List Nat->Bool
 | _,_,none,_=>false
 | 0,t,some r,s=>match pas t r with
  | none=>false
  | some st=>ful st&&decide (s=[])
 | d+1,t,some r,s=>match pas t r with
  | none=>false
  | some st=>stepO lef tak t (semO d (t+1)) st s
end
theorem ZD{n t kl kr:Nat}{rows:List Row}{lef tak:Nat->StO->Option StO}{g:Option StO->List Nat->Bool}{st:StO}(o:Ok n rows)(tn:t<n)(hl:Lead rows (t+1) kl (g (lef t st)))(hr:Lead rows (t+1) kr (g (tak t st))) :
  Ok n (rows++[(t,kl,kr)])/\Lead (rows++[(t,kl,kr)]) t (rows.length+2) (stepO lef tak t g st):=by
 have o2:Ok n (rows++[(t,kl,kr)]):=ABW o tn (Hu hl.kn hl.up) (Hu hr.kn hr.up);have e:=ADq rows (t,kl,kr);have kn:=AAy rows (t,kl,kr);refine ⟨o2,kn,.inr ?_,λs=>?_⟩
 ·unfold tieOf
  rw[e];exact AE _
 ·cases s with
  | nil =>
   rw[DP o2 kn (by lia),e,Cr o _ hl.kn,hl.eq];rfl
  | cons x xs =>
   rw[Bf o2 kn (by lia),e,Cr o _ hl.kn,Cr o _ hr.kn,hl.eq,hr.eq];rfl
theorem Zd(l:StO)(p q:Nat)(v:Option Int)(h:q≠p):(l.set p v).getD q none=l.getD q none:=by
 rw[AD,AD,LZ (DF h)]
theorem Vb(l:StO)(p:Nat)(v:Option Int):(l.set p v).getD p none=if p<l.length then v else none:=by
 rw[AD];by_cases c:p<l.length
 ·rw[LG c,if_pos c]
  rfl
 ·rw[Ee (by rw[OG];lia),if_neg c]
  rfl
end G
end
section
namespace K43
open PySem L2 G
def onB(bs:List (List Int))(p x:Nat):Bool:=decide ((p:Int)∈bs.getD x [])
theorem Za{X:Cx}{K:As}(hK:X.K=K)(hc:X.calm=true):CallR X (.builtin "max") (λxs H Q=>∃(p:Addr) (ns:List Int),xs=[.ref p]/\SqL K H p (ns.map V.int)/\0<ns.length/\∀m,m∈ns->(∀a∈ns,a<=m)->Q (.int m) H):=by subst hK;exact max_list hc
theorem ABT{X:Cx}{K:As}(hK:X.K=K):OpR X (F5 .Add) (rAddL K):=by subst hK;exact Xk
def Lp(bs:List (List Int))(p:Nat):Nat:=match (hits (p:Int) bs).getLast? with
 | none=>0
 | some x=>(x+1).toNat
theorem Xj{bs:List (List Int)}{p:Nat}{x:Int}(h:x∈hits (p:Int) bs):0<=x/\x<bs.length:=by
 obtain ⟨i,t,e,_,rfl⟩:=L2.IV.mp h;have:=(AL.mp e).1;lia
theorem AFK{bs:List (List Int)}{p:Nat}{m:Int}(h1:m∈(-1:Int)::hits (p:Int) bs)(h2:∀a∈(-1:Int)::hits (p:Int) bs,a<=m):m=(Lp bs p:Int)-1:=by
 unfold Lp;cases e:(hits (p:Int) bs).getLast? with
 | none =>
  have e':=NR.mp e;rw[e'] at h1;have:m=-1:=by simpa using h1
  rw[this];rfl
 | some x =>
  obtain ⟨ne,ex⟩:=NS.mp e |> λ⟨ys,h⟩=>(⟨by rw[h];simp,by simp[h]⟩:∃ne:hits (p:Int) bs≠[],(hits (p:Int) bs).getLast ne=x)
  have xm:x∈hits (p:Int) bs:=by rw[<- ex];exact List.getLast_mem ne
  have x0:=(Xj xm).1;have:=h2 x (AG _ xm);have mx:m=x:=by
   rcases Be.mp h1 with rfl | h1
   ·lia
   ·have:=Qs ne (Il _ 0 bs) m h1
    lia
  dsimp only;lia
theorem AEp{bs:List (List Int)}{p x:Nat}(xl:x<bs.length)(h:onB bs p x=true):x<Lp bs p:=by
 have hm:(p:Int)∈bs.getD x []:=of_decide_eq_true h;rw[AD,AJ xl] at hm;have xm:(x:Int)∈hits (p:Int) bs:=L2.IV.mpr ⟨x,_,AJ xl,hm,by lia⟩;unfold Lp;cases e:(hits (p:Int) bs).getLast? with
 | none=>rw[NR.mp e] at xm;cases xm
 | some y =>
  obtain ⟨ne,ey⟩:=NS.mp e |> λ⟨ys,h⟩=>(⟨by rw[h];simp,by simp[h]⟩:∃ne:hits (p:Int) bs≠[],(hits (p:Int) bs).getLast ne=y)
  have:=Qs ne (Il _ 0 bs) x xm;dsimp only;lia
theorem AGW{bs:List (List Int)}{p:Nat}:Lp bs p<=bs.length:=by
 unfold Lp;cases e:(hits (p:Int) bs).getLast? with
 | none=>exact A8 _
 | some y =>
  have:=Xj (List.mem_of_getLast? e);dsimp only;lia
def nI(ks:List Nat):List V:=ks.map λ(k:Nat)=>V.int (k:Int)
theorem Du(ks:List Nat):(nI ks).length=ks.length:=by unfold nI;rw[AB]
theorem AAd{ks:List Nat}{j:Nat}{x:V}(h:(nI ks)[j]?=some x):∃k:Nat,ks[j]?=some k/\x=.int (k:Int):=by
 unfold nI at h;rw[A2] at h;cases g:ks[j]? with
 | none=>rw[g] at h;cases h
 | some k=>rw[g] at h;cases h;exact ⟨k,rfl,rfl⟩
def behP(bs:List (List Int))(z t:Nat):List Nat:=(AI z).filter λp=>decide (Lp bs p=t)
def ACg(K:As)(C:Addr):Sp:=λvs H Q _=>∃(p:Addr) (t z:Nat) (bs:List (List Int)),vs=[.ref p,.int t]/\WebAt K C H p z bs/\z<=10/\bs.length<=12/\∀(l:Addr) (H':Hp),Same H H'->H l=none->H' l=some (.lst (nI (behP bs z t)))->Q (.ref l) H'
section
variable{P:AK}{w:AR}{K:As}{mg:Str->Option Au}{base:Heap}{f C D:Addr}{fd:BV}
theorem AFd:FnScope ["web","number"] ["web","number"] (Ag Jt):=⟨rfl,rfl,rfl,by decide +kernel,rfl,by decide +kernel,by decide +kernel⟩
theorem ADn{fS fA:Addr}{fdS fdA:BV}(F:Fun K "points_behind" "points_behind" Jt f fd)(T:Txt K mg C)(GS:FnOk P w K mg base CX0 1 fS fdS ["self"] (Ve K C))(bS:Binds K fdS ["self"] [])(mS:Meth K C "size" fS)
  (GA:FnOk P w K mg base CX0 1 fA fdA ["self","point"] (AGH K C)) (bA:Binds K fdA ["self","point"] []) (mA:Meth K C "at" fA):FnOk P w K mg base CX0 2 f fd ["web","number"] (ACg K C):=by
 refine F.ok AFd (λvs H Q E h=>?_) (λcdv A outer s H vs Q E hr h=>?_)
 ·obtain ⟨p,t,z,bs,rfl,_⟩:=h
  rfl
 obtain ⟨p,t,z,bs,rfl,hW,z10,b12,q⟩:=h;obtain ⟨dx,j,hp,_⟩:=id hW;refine ⟨_,Ai (Ax (Bo (Ag Jt) ["point"] ["number","web"] [1,0] rfl rfl (by decide +kernel) ⟨⟨rfl,by decide +kernel⟩,⟨rfl,by decide +kernel⟩,trivial⟩ (DG rfl T.range (Aa (CG (pv 0) T.cl mS GS hr bS .nil pass0) Ac))
   (λ_ _ _=>Aq (i:=0) (show ((["point"]:List Str)++(["number","web"]:List Str)).Nodup by decide +kernel) rfl (BC rfl))
   (λ_ _ _=>Bt (Ao Ci (BJ (Za (K:=K) rfl rfl) rfl T.max Pe (Aa (Az (ABT (K:=K) rfl) (Ce (Aa (Wy Qh Ah) Ac)) (Dj (pv 2) T.cl mA GA hr bA .nil pass0 (Aa (pv 0) Ac))) Ac)) (Az Ft (pv 1) Ah) (nomark _)))
   (λ_ _ _=>pv 0))),?_⟩
 refine ⟨_,rfl,p,dx,_,rfl,hp,DW _ _ (by decide +kernel) (by decide +kernel),p,z,bs,rfl,hW,_,rfl,by lia,by lia,λZ hZ=>?_⟩;refine Dq (lo:=0) (n:=(z:Int).toNat) (λj τ H2=>∃o:Option V,τ=[o,some (.int t),some (.ref p)]/\Same H H2/\H2 Z=some (.lst (nI ((AI j).filter λp=>decide (Lp bs p=t))))) ⟨none,rfl,Same.new hZ _,Ab⟩ ?_ ?_
 ·rintro j τ H2 hj ⟨o,rfl,s2,eZ⟩
  have ej:(0:Int)+j=(j:Int):=by lia
  rw[ej];refine ⟨1,rfl,(by show 1<=sizeLine;decide),λM hM=>?_⟩;have s3:=s2.trans (Same.new hM (.lst [.int (-1)]));refine ⟨_,rfl,p,dx,_,rfl,s3 _ _ hp,DW _ _ (by decide +kernel) (by decide +kernel),_,rfl,p,z,j,bs,rfl,hW.same s3,b12,λl H4 s4 hl el=>?_⟩;have hlen:(hits (j:Int) bs).length<=bs.length:=Ls _ 0 bs;have eM4:=s4 _ _ (show (upd H2 M (.lst [.int (-1)])) M=some (.lst [.int (-1)]) from Ab);refine ⟨M,l,_,_,rfl,rfl,SqL.of eM4,SqL.of el,DC (Ar (by rw[AB];show 1+_<=1000;lia)),λN hN=>?_⟩;have s5:=Same.new hN (.lst (V.int (-1)::(hits (j:Int) bs).map V.int));refine ⟨N,(-1:Int)::hits (j:Int) bs,rfl,SqL.of Ab,by simp,λm hm hx=>?_⟩;have e:=AFK hm hx;have s6:=(s3.trans s4).trans s5;have eZ6:=s5 _ _ (s4 _ _ (Same.new hM _ _ _ eZ));refine ⟨_,rfl,_,_,rfl,rfl,rfl,_,rfl,?_⟩;have lz:((AI j).filter λp=>decide (Lp bs p=t)).length<=j:=BM (Cs ..) (by rw[BD];exact AE _);refine ite2 (λc=>?_) (λc=>?_)
  ·have c':Lp bs j=t:=by
    have:=of_decide_eq_true c;injection this with this
    lia
   refine ⟨_,rfl,_,eZ6,Ar (by rw[Du];lia),_,rfl,λb o e=>?_,?_⟩
   ·rw[Af (Ae e hZ)]
    exact s6 b o e
   ·rw[Ab,EX,Cc,ER (by simpa using c')]
    unfold nI;rw[BU];rfl
  ·have c':¬ Lp bs j=t:=λz=>c (decide_eq_true (by rw[e,z]))
   refine ⟨_,rfl,s6,?_⟩;rw[EX,Cc,EQ (by simpa using c'),EL,BI];exact eZ6
 ·rintro τ H2 ⟨o,rfl,s2,eZ⟩
  rw[CI] at eZ;exact q Z H2 s2 hZ eZ
end
end K43
end
section
namespace L2
open PySem PySem.Spec PyProof.Rows
section
variable{prog:AK}{w:AR}{A:B6}{E:Au->AA->Prop}{s:AA}{d:Addr}{o:Obj}{es:Array M0}{ep:Nat}
theorem Mh(d:Addr)(hd:(d==D6)=false) :
  MeetsIn prog w (Builtin.«dict.__len__» ⟨[.ref d],[]⟩) (λ_ R s=>∃o es ep,s.heap.get? d=some o/\o.data=.dict es ep/\R (.ok (.ret (.int es.size s.toks))) {s with toks:=s.toks+1}) :=
 .of_wp λA R s ⟨o,es,ep,ho,hdat,h⟩=>by
  show wpAny _ _ (dictSize d >>= _) _ _ s;unfold dictSize;refine Ap (Ap (LD ho hdat (wpAny_pure ?_)));show wpAny _ _ (WC d >>= _) _ _ s;refine Ap (wpAny_pendingCount_other hd ?_);refine Uf ?_;rw[Sb];exact h
theorem AEU{Q:Au->AA->Prop}(hd:(d==D6)=false)(hT:s.TypeIs (.ref d) "dict")(ho:s.heap.get? d=some o)(hdat:o.data=.dict es ep)(hfit:(es.size:Int)<2 ^ 63)
  (h:Q (.int es.size (s.toks+1)) {s with toks:=s.toks+1+1}):wpAny (AM prog w) A (call (.builtin "len") [.ref d]) Q E s:=by
 refine KG kind_len plain_len entry_len (args_len1 _) ?_;unfold Builtin.«len»;refine Ap (m:=oneArg "len" _) (wpAny_pure ?_);refine Ap (m:=callSpecial? (.ref d) (IJ "__len__")) (wpAny_callSpecial?_slot (name:=IJ "__len__") hT Pf
  (R6 Pf hT PySem.F.entry_dict_len (PySem.F.args_dict_len_1 _) (Mh d hd) ⟨o,es,ep,ho,hdat,?_⟩))
 show wpAny _ _ _ _ _ {s with toks:=s.toks+1};refine Ap (D0 (wpAny_pure ?_));refine Ap (wpAny_letGo ?_);show wpAny _ _ (if ((es.size:Nat):Int)<0 then _ else _) _ _ _;rw[if_neg (by lia)];show wpAny _ _ (if ((es.size:Nat):Int) >= 2 ^ 63 then _ else _) _ _ _;rw[if_neg (by lia)];exact Ap (wpAny_mkInt (wpAny_pure ⟨_,rfl,h⟩))
end
section
variable{X:Cx}
theorem Uk:CallR X (.builtin "len") (λxs H Q=>∃p kvs,xs=[.ref p]/\H p=some (.dT kvs)/\Q (.int kvs.length) H):=by
 intro pins s σ H xs us Q I rr h;obtain ⟨p,kvs,rfl,hp,q⟩:=h;obtain ⟨u,rfl,ru⟩:=rr.one;cases ru;obtain ⟨z,lo,ts,kt,o,es,ep,h1,h2,h3,h4,h5⟩:=(show ObjOk X.prog X.w H s.heap p (.dT kvs) from I.hok p _ hp);have hl:es.size=kvs.length:=by
  rw[<- AX,h4,AB];exact (AQ kt).symm
 refine AEU lo ⟨o,h1,h2.1⟩ h1 h3 (by rw[hl];rw[FX] at z;lia) ?_;exact ⟨.int kvs.length,H,I.tok _,⟨_,by rw[hl]⟩,q⟩
end
def Itd(lo:Int)(n:Nat):It:=⟨λi _=>i<n,λi H x H'=>H'=H/\x=.int (lo-i),λi _=>n<=i⟩
theorem Yo{P:AK}{w:AR}{K:As}{tg:Expr}(it:Addr)(lo:Int)(n:Nat):Turn P w K tg (Itd lo n) [it] it (λi h=>OP h it (lo+(i:Nat)*(-1)) ((n:Int)-(i:Nat)) (-1)) where
 mem:=by simp
 obj:=λi h st b hb=>by
  have e:b=it:=by simpa using hb
  subst e;exact ⟨_,st,λv z=>by
   have z':SK _=U6 v:=z;cases z'⟩
 keep:=λi h h' st k=>k it (by simp) _ st
 item:=by
  intro X hP hw hK hc i pins s σ H E I hf st hg;subst hP hw hK;obtain ⟨f0,f1,f2,f3,f4,f5⟩:=hf it (by simp);have W:=X1 (prog:=X.prog) (w:=X.w) (I.ok.hd hc) it lo (-1) n;refine W.item i s _ _ hg st λv h' tk hv st' kk=>?_;obtain ⟨t,rfl⟩:=hv;have I1:Inv X pins σ H {s with heap:=h',toks:=tk}:=I.turned (λb o hb e=>kk b o (by simpa using hb) e) f0 f1 f3 f4 f5;refine ⟨_,rfl,Xf (s:={s with heap:=h',toks:=tk}) (n:="range_iterator") st' rfl rfl (by decide) ⟨.int (lo-i),H,I1,⟨t,?_⟩,⟨rfl,rfl⟩,st',λb hb=>(hf b hb).1⟩⟩
  congr 1
  lia
 done:=by
  intro X hP hw hK hc i pins s σ H E I hf st hg;subst hP hw hK;obtain ⟨f0,f1,f2,f3,f4,f5⟩:=hf it (by simp);exact OQ (I.ok.hd hc) st (by have:n<=i:=hg;lia) λh' eb=>⟨rfl,I.turned (t':=s.toks) (λb o hb e=>eb b o hb e) f0 f1 f3 f4 f5⟩
 self:=λ_ _ _ _ _ st h=>OR st h
theorem rangeSize_down(a b:Int):Fu a b (-1)=if b<a then a-b else 0:=by
 unfold Fu;simp only[show ¬ ((-1:Int)>0) by decide,if_false];split
 ·rw[show (- -1:Int)=1 from rfl,W0];lia
 ·rfl
theorem small_down{a b:Int}(ha:-(2 ^ 62)<=a)(ha':a<2 ^ 62)(hb:-(2 ^ 62)<=b)(hb':b<2 ^ 62):KB a b (-1)=true:=by
 unfold KB;rw[rangeSize_down];simp only[VE,DJ,Bool.or_eq_true,decide_eq_true_eq,beq_iff_eq,show ¬ ((-1:Int)>0) by decide,if_false];split<;>lia
section
variable{X:Cx}{tg:Expr}
theorem Yt{pins:List (Addr×Obj)}{σ:St}{H:Hp}{s:AA}{R:It->Hp->Prop}{E:Au->AA->Prop}{lo hi:Int}{t u v:Tok}{tk:Nat}(I:Inv X pins σ H s)(h1:-(2 ^ 62)<=lo)(h2:lo<2 ^ 62)(h3:-(2 ^ 62)<=hi)(h4:hi<2 ^ 62)
  (q:R (Itd lo (lo-hi).toNat) H):wpAny (AM X.prog X.w) X.A (O3 (.ref s.heap.objs.size)) (PIE X pins σ tg R) E {s with heap:=s.heap.push {cls:=.type "range",data:=.fields #[.int lo t,.int hi u,.int (-1) v]},toks:=tk}:=by
 refine Rs (X3 ..) (small_down h1 h2 h3 h4) ?_;have I1:Inv X pins σ H {s with heap:=s.heap.push {cls:=.type "range",data:=.fields #[.int lo t,.int hi u,.int (-1) v]},toks:=tk}:=I.kept λb o e=>AH _ e;refine ⟨(s.heap.push {cls:=.type "range",data:=.fields #[.int lo t,.int hi u,.int (-1) v]}).objs.size,[(s.heap.push {cls:=.type "range",data:=.fields #[.int lo t,.int hi u,.int (-1) v]}).objs.size],_,_,H,rfl,
  I1.kept (t':=tk) λb o e=>AH _ e,Yo _ lo (lo-hi).toNat,?_,λb hb=>?_,q⟩
 ·have e1:lo+((0:Nat):Int)*(-1)=lo:=by simp
  have e2:(((lo-hi).toNat:Nat):Int)-((0:Nat):Int)=Fu lo hi (-1):=by rw[rangeSize_down];split<;>lia
  show OP _ _ (lo+((0:Nat):Int)*(-1)) ((((lo-hi).toNat:Nat):Int)-((0:Nat):Int)) (-1);rw[e1,e2];exact AU _ rfl
 ·have e:b=(s.heap.push {cls:=.type "range",data:=.fields #[.int lo t,.int hi u,.int (-1) v]}).objs.size:=by simpa using hb
  subst e;exact I1.fpOk (AE _) (I1.hok.fresh (AE _))
def AGh(ta:TA):TI:=λσ H R=>ta σ H λvs H1=>∃i j:Int,vs=[.int i,.int j,.int (-1)]/\(-(2 ^ 62)<=i/\i<2 ^ 62/\-(2 ^ 62)<=j/\j<2 ^ 62)/\R (Itd i (i-j).toNat) H1
theorem Ob{a b c:Expr}{ta:TA}{p pos:Pos}(hg:Gl X "range")(hm:X.mg "range" = none)(ha:PA X [a,b,c] ta)(hs:Co [a,b,c] X.env=[(false,eval a X.env),(false,eval b X.env),(false,eval c X.env)]:=by rfl)(hs2:Co [b,c] X.env=[(false,eval b X.env),(false,eval c X.env)]:=by rfl) :
  PI X tg (.Call (.Name "range" p) [a,b,c] [] pos) (AGh ta):=by
 intro pins s σ H R I h;refine Call_ (Ek I hg hm Lc (D9 (thn (ha pos pins s σ H _ I h) λus s1 ⟨vs,H1,I1,r1,q1⟩=>?_) (by rw[hs,hs2]) (by rw[hs2];rfl)));obtain ⟨i,j,e,⟨q1,q2,q3,q4⟩,q⟩:=q1;subst e;cases r1 with
 | cons r rr =>
  cases rr with
  | cons r' rr =>
   cases rr with
   | cons r'' rr =>
    cases rr;obtain ⟨t,rfl⟩:=r;obtain ⟨t',rfl⟩:=r';obtain ⟨t'',rfl⟩:=r'';exact call_range_3 (by decide) (Yt I1 q1 q2 q3 q4 q) (.inl (OS (by decide)))
theorem TF{lo:Int}{n:Nat}{g:TG}{tb:TS}{D:Ends}{σ:St}{H:Hp}(Pv:Nat->St->Hp->Prop)(h0:Pv 0 σ H)
  (hs:∀i σ H,i<n->Pv i σ H->g (.int (lo-i)) σ H λσ2 H2=>tb {D with nx:=Pv (i+1),ct:=Pv (i+1),bk:=D.nx} σ2 H2) (hd:∀σ H,Pv n σ H->D.nx σ H) :
  ∃W:Nat->Nat->St->Hp->Prop,(∃m,W 0 m σ H)/\∀i m σ H,W i m σ H ->
   ((Itd lo n).stop i H/\D.nx σ H)\/((Itd lo n).go i H/\∃N:St->Hp->Prop,(∀σ' H',N σ' H'->∃m',m'<m/\W (i+1) m' σ' H')/\∀x H',(Itd lo n).yld i H x H'->g x σ H' λσ2 H2=>tb {D with nx:=N,ct:=N,bk:=D.nx} σ2 H2):=by
 refine ⟨λi m σ H=>m=n-i/\i<=n/\Pv i σ H,⟨n,by simp,A8 _,h0⟩,?_⟩;rintro i m σ H ⟨rfl,hi,p⟩;by_cases hlt:i<n
 ·refine .inr ⟨hlt,Pv (i+1),λσ' H' p'=>⟨n-(i+1),by lia,rfl,hlt,p'⟩,λx H' y=>?_⟩
  obtain ⟨e,y⟩:=y;subst e y;exact hs i σ _ hlt p
 ·have e:i=n:=by lia
  subst e;exact .inl ⟨AE _,hd σ H p⟩
end
end L2
end
section
namespace L2
open PySem
open Sem (wp)
end L2
end
section
namespace L2
open PySem
open Sem (wp)
open AutoSeq1 (wpAny_loadPart')
end L2
end
section
namespace L2
open PySem PySem.Spec PyProof.Rows
end L2
end
section
namespace L2
open PySem PySem.Spec PyProof.Rows
open AutoSeq1 (wpAny_loadPart')
end L2
end
section
theorem L2.smallN{n:Nat}(h:n<=100000):n<PySem.sizeLine:=E7 h (by decide)
namespace K43s
open PySem L2 G
def top(i:Nat):Stmt:=IB.main.body.getD i (.Pass ⟨0,0,0,0⟩)
abbrev YG:Stmt:=top 9
abbrev Kq:Stmt:=top 17
abbrev QM:Stmt:=top 18
abbrev sIn:Stmt:=top 19
abbrev Kp:Stmt:=inClass (top 8) 0
abbrev ACk:Stmt:=inClass (top 8) 1
abbrev Um:Stmt:=inClass (top 8) 2
abbrev AFr:Stmt:=inClass (top 8) 3
abbrev AFc:Stmt:=top 10
abbrev Pz:Stmt:=top 13
abbrev ACS:Stmt:=top 14
abbrev Hs:Stmt:=top 15
abbrev En:Stmt:=top 16
theorem ra:¬ (("amount" : Str) = "rows"):=by decide +kernel
theorem ha:¬ (("amount" : Str) = "head"):=by decide +kernel
theorem hr':¬ (("rows" : Str) = "head"):=by decide +kernel
def flds(z:Int)(j:Addr)(h:Int):List (Str×V):=putF "head" (.int h) (putF "rows" (.ref j) (putF "amount" (.int z) []))
theorem Fp(z:Int)(j:Addr)(h:Int):(flds z j h).lookup ("amount" : Str)=some (.int z):=by
 unfold flds;rw[Aj,if_neg ha,Aj,if_neg ra,Aj,if_pos rfl]
theorem Ze(z:Int)(j:Addr)(h:Int):(flds z j h).lookup ("rows" : Str)=some (.ref j):=by
 unfold flds;rw[Aj,if_neg hr',Aj,if_pos rfl]
structure Txt(K:As)(mg:Str->Option Au)(C:Addr):Prop where
 cl:Cls K C
 nA:NoAttr K C "amount"
 nR:NoAttr K C "rows"
 nH:NoAttr K C "head"
 mgC:mg "Sieve" = some (.ref C)
 mt:∃t,mg "MOST_TIES_making" = some (.int 12 t)
 len:mg "len" = none
 range:mg "range" = none
 int:mg "int" = none
 sorted:mg "sorted" = none
 set:mg "set" = none
 tuple:mg "tuple" = none
 list:mg "list" = none
 bool:mg "bool" = none
 enum:mg "enumerate" = none
 all:mg "all" = none
 isi:mg "isinstance" = none
 min:mg "min" = none
 rev:mg "reversed" = none
def rRow(K:As):Rep Row:=λH r v=>∃p,v=.ref p/\SqT K H p [.int r.1,.int r.2.1,.int r.2.2]
theorem Bd{K:As}:TRep (rRow K):=λH H' r v t ⟨p,a,b⟩=>⟨p,a,t.seq b⟩
def SvAt(K:As)(C:Addr)(H:Hp)(p:Addr)(z:Int)(rows:List Row)(h:Int):Prop:=∃dx j,H p=some (.ins C dx (flds z j h))/\rTup K (rRow K) H rows (.ref j)
theorem SvAt.same{K:As}{C:Addr}{H H':Hp}{p:Addr}{z hd:Int}{rows:List Row}(h:SvAt K C H p z rows hd)(e:Same H H'):SvAt K C H' p z rows hd:=by
 obtain ⟨dx,j,h1,h2⟩:=h;exact ⟨dx,j,e _ _ h1,Ak Bd _ _ _ _ e.ts h2⟩
def Kv(K:As)(C:Addr):Sp:=λvs H Q _=>∃(p dx l:Addr) (z h:Int) (xs:List V) (rows:List Row),vs=[.ref p,.int z,.ref l,.int h]/\H p=some (.ins C dx [])/\SqL K H l xs/\A9 (rRow K H) rows xs /\
 ∀(H':Hp),(∀b o,H b=some o->b≠p->H' b=some o)->SvAt K C H' p z rows h->Q .non H'
def ACP(K:As)(C:Addr):Sp:=λvs H Q _=>∃(p:Addr) (z h:Int) (rows:List Row),vs=[.ref p]/\SvAt K C H p z rows h/\Q (.int z) H
def Uc(K:As)(C:Addr):Sp:=λvs H Q _=>∃(p:Addr) (z h:Int) (rows:List Row),vs=[.ref p]/\SvAt K C H p z rows h/\Q (.int h) H
def Jq(K:As)(C:Addr):Sp:=λvs H Q _=>∃(p:Addr) (z h:Int) (rows:List Row),vs=[.ref p]/\SvAt K C H p z rows h/\∀(l:Addr) (ys:List V) (H':Hp),Same H H'->H l=none->H' l=some (.lst ys)->A9 (rRow K H') rows ys->Q (.ref l) H'
section
variable{P:AK}{w:AR}{K:As}{mg:Str->Option Au}{base:Heap}{f C:Addr}{fd:BV}
theorem AEt:FnScope ["self"] ["self"] (Ag ACk):=⟨rfl,rfl,rfl,by decide +kernel,rfl,by decide +kernel,by decide +kernel⟩
theorem ADa(F:Fun K "many" "Sieve.many" ACk f fd)(T:Txt K mg C):FnOk P w K mg base CX0 1 f fd ["self"] (ACP K C):=by
 refine F.ok AEt (λvs H Q E h=>?_) (λcdv A outer s H vs Q E hr h=>?_)
 ·obtain ⟨p,z,hd,rows,rfl,_⟩:=h
  rfl
 obtain ⟨p,z,hd,rows,rfl,⟨dx,j,hP,hj⟩,q⟩:=h;refine ⟨_,Ai (Ax (Bp (pv 0) rfl)),?_⟩;exact ⟨_,rfl,p,C,dx,_,_,rfl,hP,T.cl,T.nA,Fp _ _ _,q⟩
theorem ADe:FnScope ["self"] ["self"] (Ag Um):=⟨rfl,rfl,rfl,by decide +kernel,rfl,by decide +kernel,by decide +kernel⟩
theorem ACN(F:Fun K "knots" "Sieve.knots" Um f fd)(T:Txt K mg C):FnOk P w K mg base CX0 1 f fd ["self"] (Jq K C):=by
 refine F.ok ADe (λvs H Q E h=>?_) (λcdv A outer s H vs Q E hr h=>?_)
 ·obtain ⟨p,z,hd,rows,rfl,_⟩:=h
  rfl
 obtain ⟨p,z,hd,rows,rfl,⟨dx,j,hP,j',xs,ej,hj,pj⟩,q⟩:=h;cases ej;refine ⟨_,Ai (Ax (BP FT rfl T.list Hd (Aa (Bp (pv 0) rfl) Ac))),?_⟩;refine ⟨_,rfl,p,C,dx,_,_,rfl,hP,T.cl,T.nR,Ze _ _ _,j,xs,rfl,.inr hj,λl hl=>?_⟩;refine q l xs _ (Same.new hl _) hl Ab ?_;exact Paired.imp (λa b=>Bd H _ a b (TSm.new hl)) pj
theorem Ym(z:Int)(j:Addr)(h:Int):(flds z j h).lookup ("head" : Str)=some (.int h):=by
 unfold flds;rw[Aj,if_pos rfl]
theorem AGX:FnScope ["self"] ["self"] (Ag AFr):=⟨rfl,rfl,rfl,by decide +kernel,rfl,by decide +kernel,by decide +kernel⟩
theorem AGD(F:Fun K "top" "Sieve.top" AFr f fd)(T:Txt K mg C):FnOk P w K mg base CX0 1 f fd ["self"] (Uc K C):=by
 refine F.ok AGX (λvs H Q E h=>?_) (λcdv A outer s H vs Q E hr h=>?_)
 ·obtain ⟨p,z,hd,rows,rfl,_⟩:=h
  rfl
 obtain ⟨p,z,hd,rows,rfl,⟨dx,j,hP,hj⟩,q⟩:=h;refine ⟨_,Ai (Ax (Bp (pv 0) rfl)),?_⟩;exact ⟨_,rfl,p,C,dx,_,_,rfl,hP,T.cl,T.nH,Ym _ _ _,q⟩
theorem Vi:FnScope ["self","n","rows","head"] ["self","n","rows","head"] (Ag Kp):=⟨rfl,rfl,rfl,by decide +kernel,rfl,by decide +kernel,by decide +kernel⟩
theorem Hq(F:Fun K "__init__" "Sieve.__init__" Kp f fd)(T:Txt K mg C):FnOk P w K mg base CX0 1 f fd ["self","n","rows","head"] (Kv K C):=by
 refine F.ok Vi (λvs H Q E h=>?_) (λcdv A outer s H vs Q E hr h=>?_)
 ·obtain ⟨p,dx,l,z,h,xs,rows,rfl,_⟩:=h
  rfl
 obtain ⟨p,dx,l,z,h,xs,rows,rfl,hP,hS,pa,q⟩:=h;refine ⟨_,Ad (Ej (pv 0) (pv 1) rfl)
  (Ad (Ej (pv 0) (BP Bc rfl T.tuple C2 (Aa (pv 2) Ac)) rfl)
  (Ai (Ej (pv 0) (pv 3) rfl))),?_⟩
 have sl:∀{H:Hp}{fs gs:List (Str×V)}{a:Addr}{zs:List V},H p=some (.ins C dx fs)->SqL K H a zs->SqL K (upd H p (.ins C dx gs)) a zs:=λ{H fs gs a zs} hP h=>by
  rcases h with (h | ⟨o,h⟩) | h
  ·exact .inl (.inl (by rw[Af (Cq h hP (by intro z;cases z))];exact h))
  ·exact .inl (.inr ⟨o,by rw[Af (Cq h hP (by intro z;cases z))];exact h⟩)
  ·exact .inr h
 have ts:∀{H:Hp}{fs gs:List (Str×V)},H p=some (.ins C dx fs)->TSm H (upd H p (.ins C dx gs)):=λ{H fs gs} hP b u hb t=>by
  rw[Af ?_]
  ·exact hb
  ·rintro rfl
   rw[hP] at hb;cases hb;obtain ⟨ys,e | ⟨o,e⟩⟩:=t
   ·cases e
   ·cases e
 refine ⟨_,rfl,_,rfl,p,C,dx,[],rfl,hP,T.cl,T.nA,(by show 0<1000;decide),?_⟩;refine ⟨_,rfl,l,xs,rfl,.inl ⟨sl hP hS,λj hj=>?_⟩⟩;have jp:p≠j:=λe=>by rw[<- e,Ab] at hj;cases hj
 have hP2:(upd (upd H p (.ins C dx (putF "amount" (.int z) []))) j (.tup xs)) p=some (.ins C dx (putF "amount" (.int z) [])):=by rw[Af jp,Ab]
 have t2:=ts (gs:=putF "rows" (.ref j) (putF "amount" (.int z) [])) hP2;refine ⟨_,rfl,p,C,dx,_,rfl,hP2,T.cl,T.nR,(by show 1<1000;decide),?_⟩;have t3:=ts (H:=upd (upd (upd H p (.ins C dx (putF "amount" (.int z) []))) j (.tup xs)) p (.ins C dx (putF "rows" (.ref j) (putF "amount" (.int z) [])))) (gs:=flds z j h) Ab;refine ⟨_,rfl,_,rfl,p,C,dx,_,rfl,Ab,T.cl,T.nH,(by show 2<1000;decide),?_⟩;refine q _ (λb o e hb=>?_) ⟨dx,j,Ab,j,xs,rfl,t3.seq (t2.seq (SqT.of Ab)),?_⟩
 ·rw[Af hb,Af hb,Af ?_,Af hb]
  ·exact e
  ·rintro rfl
   rw[Af hb,e] at hj;cases hj
 ·exact Paired.imp (λa b r=>Bd _ _ _ _ t3 (Bd _ _ _ _ t2 (Bd _ _ _ _ (TSm.new hj) (Bd _ _ _ _ (ts hP) r)))) pa
end
abbrev Sq(K:As)(H:Hp)(l:Addr)(xs:List V):Prop:=SqL K H l xs\/SqT K H l xs
theorem Sq.same{K:As}{H H':Hp}{l:Addr}{xs:List V}(h:Sq K H l xs)(e:Same H H'):Sq K H' l xs:=h.elim (λz=>.inl (e.seq z)) λz=>.inr (e.ts.seq z)
def rIxA(K:As):R2:=λx y H Q=>rIxL K x y H Q\/rIxT K x y H Q
theorem Fo{X:Cx}:IxR X (rIxA X.K):=by
 intro value slice pins s σ H x y v u Q I rx ry h hs;rcases h with h | h
 ·exact Bk value slice pins s σ H x y v u Q I rx ry h hs
 ·exact Bj value slice pins s σ H x y v u Q I rx ry h hs
theorem Qx{X:Cx}{K:As}(hK:X.K=K):IxR X (rIxA K):=by subst hK;exact Fo
theorem ixA{K:As}{H:Hp}{p:Addr}{xs:List V}{i:Int}{v:V}{Q:VK}(h:Sq K H p xs)(e:atI xs i=some v)(q:Q v H):rIxA K (.ref p) (.int i) H Q :=
 h.elim (λz=>.inl ⟨p,_,i,_,rfl,rfl,z,e,q⟩) λz=>.inr ⟨p,_,i,_,rfl,rfl,z,e,q⟩
def rRowA(K:As)(H:Hp)(r:Row)(v:V):Prop:=∃p,v=.ref p/\Sq K H p [.int r.1,.int r.2.1,.int r.2.2]
theorem Yy{K:As}{H H':Hp}{r:Row}{v:V}(e:Same H H')(h:rRowA K H r v):rRowA K H' r v:=let ⟨p,a,b⟩:=h;⟨p,a,b.same e⟩
def RowsAt(K:As)(H:Hp)(l:Addr)(rows:List Row):Prop:=∃xs,Sq K H l xs/\A9 (rRowA K H) rows xs
theorem RowsAt.same{K:As}{H H':Hp}{l:Addr}{rows:List Row}(h:RowsAt K H l rows)(e:Same H H'):RowsAt K H' l rows:=let ⟨xs,a,b⟩:=h;⟨xs,a.same e,Paired.imp (λ_ _ r=>Yy e r) b⟩
theorem RowsAt.of{K:As}{H:Hp}{l:Addr}{rows:List Row}(h:rLst K (rRow K) H rows (.ref l)):RowsAt K H l rows:=by
 obtain ⟨l',xs,e,hS,pa⟩:=h;cases e;exact ⟨xs,.inl hS,Paired.imp (λ_ _ ⟨p,a,b⟩=>⟨p,a,.inr b⟩) pa⟩
abbrev iN(s:List Nat):List V:=s.map λ(x:Nat)=>V.int (x:Int)
theorem Qp{K:As}{H:Hp}{rows:List Row}{l:Addr}{k:Nat}(h:RowsAt K H l rows)(kn:Knot rows k)(h2:2<=k) :
  ∃xs p,Sq K H l xs/\atI xs ((k:Int)-2)=some (.ref p)/\Sq K H p [.int (rows.getD (k-2) (0,0,0)).1,.int (rows.getD (k-2) (0,0,0)).2.1,.int (rows.getD (k-2) (0,0,0)).2.2]:=by
 obtain ⟨xs,hS,pa⟩:=h;obtain ⟨v,hv,p,rfl,hp⟩:=Paired.getL pa (BZ kn h2);exact ⟨xs,p,hS,by rw[show (k:Int)-2=((k-2:Nat):Int) by lia];exact Bm hv,hp⟩
theorem ACn{K:As}{H:Hp}{rows:List Row}{l:Addr}{k:Nat}(h:rLst K (rRow K) H rows (.ref l))(kn:Knot rows k)(h2:2<=k) :
  ∃xs p,SqL K H l xs/\atI xs ((k:Int)-2)=some (.ref p)/\SqT K H p [.int (rows.getD (k-2) (0,0,0)).1,.int (rows.getD (k-2) (0,0,0)).2.1,.int (rows.getD (k-2) (0,0,0)).2.2]:=by
 obtain ⟨l',xs,e,hS,pa⟩:=h;cases e;obtain ⟨v,hv,p,rfl,hp⟩:=Paired.getL pa (BZ kn h2);exact ⟨xs,p,hS,by rw[show (k:Int)-2=((k-2:Nat):Int) by lia];exact Bm hv,hp⟩
theorem at0{a b c:V}:atI [a,b,c] 0=some a:=rfl
theorem at1{a b c:V}:atI [a,b,c] 1=some b:=rfl
theorem at2{a b c:V}:atI [a,b,c] 2=some c:=rfl
def lay(rows:List Row)(t:Nat)(rc:List Nat)(j:Nat):List Nat:=(rc.take j).filter λk=>decide (tieOf rows k=t)
theorem Rt{rows:List Row}{t:Nat}{rc:List Nat}{j k:Nat}(h:rc[j]?=some k):lay rows t rc (j+1)=lay rows t rc j++if tieOf rows k=t then [k] else []:=by
 unfold lay;rw[DM,h,Cc];by_cases c:tieOf rows k=t
 ·simp[c]
 ·simp[c]
theorem Hh{rows:List Row}{t:Nat}{rc:List Nat}{k:Nat}:k∈lay rows t rc rc.length↔k∈rc/\tieOf rows k=t:=by
 unfold lay;rw[CF,BS];simp
theorem Iz{n:Nat}(h:n<=20000):n<sizeLine:=E7 h (by decide)
def has(kvs:List (Key×V))(k:Nat):Prop:=(valV kvs (.inl (k:Int))).isSome=true
theorem has_put{kvs:List (Key×V)}{a k:Nat}{v:V}:has (putK kvs (.inl (a:Int)) v) k↔k=a\/has kvs k:=by
 unfold has;rw[Ed];by_cases e:k=a
 ·subst e;simp
 ·rw[if_neg (λz=>e (by injection z with z;lia))]
  exact ⟨.inr,λh=>h.resolve_left e⟩
def rcOf(kvs:List (Key×V))(i:Nat):List Nat:=((AI i).map (·+2)).filter λk=>(valV kvs (.inl (k:Int))).isSome
theorem Oi(kvs:List (Key×V))(i:Nat):rcOf kvs (i+1)=rcOf kvs i++if (valV kvs (.inl ((i+2:Nat):Int))).isSome=true then [i+2] else []:=by
 unfold rcOf;rw[EX,BU,Cc,M4,Da,EL]
theorem KC{kvs:List (Key×V)}{i k:Nat}:k∈rcOf kvs i↔2<=k/\k<i+2/\has kvs k:=by
 unfold rcOf has;rw[BS,AY];constructor
 ·rintro⟨⟨a,ha,rfl⟩,h⟩
  rw[AS] at ha;exact ⟨by lia,by lia,h⟩
 ·rintro⟨h1,h2,h3⟩
  exact ⟨⟨k-2,AS.mpr (by lia),by lia⟩,h3⟩
theorem AAh(kvs:List (Key×V))(i:Nat):(rcOf kvs i).length<=i:=by
 unfold rcOf;refine BM (Cs _ _) ?_;rw[AB,BD];exact AE _
theorem getD_map:∀(rows:List Row),(AI rows.length).map (λi=>rows.getD i (0,0,0))=rows:=λrows=>by
 apply EV;intro i;by_cases c:i<rows.length
 ·simp[c]
 ·simp[c]
theorem AAe{rows:List Row}{rc:List Nat}{t j m:Nat}(h:rc.Sublist ((AI m).map (·+2)))(hm:m<=rows.length):(lay rows t rc j).length<=(rows.filter λr=>decide (r.1=t)).length:=by
 have h1:(lay rows t rc j).Sublist (((AI rows.length).map (·+2)).filter λk=>decide (tieOf rows k=t)):=by
  unfold lay;exact (((HQ _ _).trans h).trans ((List.range_sublist.mpr hm).map _)).filter _
 refine BM h1.length_le ?_;have e:(rows.filter λr=>decide (r.1=t))=(((AI rows.length).filter λi=>decide ((rows.getD i (0,0,0)).1=t)).map λi=>rows.getD i (0,0,0)):=by
  conv=>lhs;rw[<- getD_map rows]
  rw[Mc];rfl
 rw[e,AB,Mc,AB];exact AE _
theorem AFj(kvs:List (Key×V))(i:Nat):(rcOf kvs i).Sublist ((AI i).map (·+2)):=Q4
def AGp(K:As):Sp:=λvs H Q _=>∃(d p:Addr) (r:Row) (x y:Nat) (kvs:List (Key×V)),vs=[.ref d,.ref p]/\H d=some (.dK kvs)/\rRowA K H r (.ref p)/\valV kvs (.inl (r.2.1:Int))=some (.int x)/\valV kvs (.inl (r.2.2:Int))=some (.int y) /\
 ∀t,H t=none->Q (.ref t) (upd H t (.tup [.int r.1,.int x,.int y]))
def YM(K:As):Sp:=λvs H Q _=>∃(l:Addr) (n top:Nat) (rows:List Row),vs=[.ref l,.int top]/\RowsAt K H l rows/\Ok n rows/\rows.length<=4100/\Knot rows top /\
 ∀(D:Addr) (rc:List Nat) (H':Hp),Same H H'->H D=none->H' D=some (.lst (iN rc))->Closed rows rc->(top<=1\/top∈rc)->(∀t j,(lay rows t rc j).length<=(rows.filter λr=>decide (r.1=t)).length)->(∀k∈rc,k=top\/∃k'∈rc,k<k'/\(outOf rows k'=k\/intoOf rows k'=k))->Q (.ref D) H'
section
variable{P:AK}{w:AR}{K:As}{mg:Str->Option Au}{base:Heap}{f C:Addr}{fd:BV}
theorem AHJ:FnScope ["places","row"] ["places","row"] (Ag sIn):=⟨rfl,rfl,rfl,by decide +kernel,rfl,by decide +kernel,by decide +kernel⟩
theorem AGZ(F:Fun K "row_in_places" "row_in_places" sIn f fd):FnOk P w K mg base CX0 1 f fd ["places","row"] (AGp K):=by
 refine F.ok AHJ (λvs H Q E h=>?_) (λcdv A outer s H vs Q E hr h=>?_)
 ·obtain ⟨d,p,r,x,y,kvs,rfl,_⟩:=h
  rfl
 obtain ⟨d,p,r,x,y,kvs,rfl,hd,⟨p',e,hp⟩,hx,hy,q⟩:=h;cases e;refine ⟨_,Ai (Ax (CZ (Aa (BK Fo (pv 1) Ah (λ_ _=>rfl)) (Aa (QG (Cg hr) (pv 0) (BK Fo (pv 1) Ah (λ_ _=>rfl)) (λ_ _=>rfl)) (Aa (QG (Cg hr) (pv 0) (BK Fo (pv 1) Ah (λ_ _=>rfl)) (λ_ _=>rfl)) Ac))))),?_⟩;refine ⟨_,rfl,ixA hp at0 ⟨_,rfl,_,rfl,ixA hp at1 ⟨d,.int x,rfl,?_,_,rfl,_,rfl,ixA hp at2 ⟨d,.int y,rfl,?_,(by show 3<=sizeLine;decide),q⟩⟩⟩⟩
 ·have:=DGet.k (k:=.inl (r.2.1:Int)) hd
  rw[hx] at this;exact this
 ·have:=DGet.k (k:=.inl (r.2.2:Int)) hd
  rw[hy] at this;exact this
theorem Qq:FnScope ["rows","top","reached","knot"] ["rows","top"] (Ag QM):=⟨rfl,rfl,rfl,by decide +kernel,rfl,by decide +kernel,by decide +kernel⟩
theorem ACi(F:Fun K "reached_knots" "reached_knots" QM f fd)(T:Txt K mg C):FnOk P w K mg base CX0 1 f fd ["rows","top"] (YM K):=by
 refine F.ok Qq (λvs H Q E h=>?_) (λcdv A outer s H vs Q E hr h=>?_)
 ·obtain ⟨l,n,top,rows,rfl,_⟩:=h
  rfl
 obtain ⟨l,n,top,rows,rfl,hL,ok,r60,kt,q⟩:=h;refine ⟨_,Ad (Av (i:=2) Qq.nd rfl (HR rfl) (Wx (KJ (pv 1) Kz YJ) rfl rfl (by intro z;cases z) (by decide)))
  (Ad (Cw Db rfl (Ob rfl T.range (Aa (pv 1) (Aa Ah (Aa (Wy Qh Ah) Ac)))) (Aq (i:=3) Qq.nd rfl (BC rfl))
   (Ai (Bx (Iw (ABJ (Cg hr) (pv 3) (pv 2)))
    (Ad (Jk (Cg hr) (pv 2) (BK Fo (BK Fo (pv 0) (Az Ft (pv 3) Ah) (λ_ _=>rfl)) Ah (λ_ _=>rfl)) Kz rfl)
    (Ai (Jk (Cg hr) (pv 2) (BK Fo (BK Fo (pv 0) (Az Ft (pv 3) Ah) (λ_ _=>rfl)) Ah (λ_ _=>rfl)) Kz rfl))) BW)))
  (Ai (Ax (Bo (Ag QM) ["knot"] ["reached"] [2] rfl rfl (by decide +kernel) ⟨⟨rfl,by decide +kernel⟩,trivial⟩ (Oz rfl T.range (Aa Ah (Aa (Az Cy (pv 1) Ah) Ac)))
   (λ_ _ _=>Aq (i:=0) (show ((["knot"]:List Str)++(["reached"]:List Str)).Nodup by decide +kernel) rfl (BC rfl))
   (λ_ _ _=>Bt (Iw (ABJ (Cg hr) (pv 0) (pv 1)) rfl))
   (λ_ _ _=>pv 0))))),?_⟩
 refine λD hD=>⟨_,rfl,Ab,[(.inl (top:Int),.bl true)],rfl,(by show 1<=15;decide),?_⟩;have s0:Same H (upd (upd H D (.dK [])) D (.dK (mergeK [] [(.inl (top:Int),.bl true)]))):=λb o e=>by rw[Af (Ae e hD),Af (Ae e hD)];exact e
 refine ⟨_,rfl,_,rfl,(top:Int),1,rfl,⟨by lia,by have:top<rows.length+2:=kt;lia,by lia,by lia⟩,?_⟩;refine TF (lo:=(top:Int)) (n:=((top:Int)-1).toNat) (λi σ H2=>∃(kvs:List (Key×V)) (kv:Option V),σ=[some (.ref l),some (.int top),some (.ref D),kv]/\Same H H2/\H2 D=some (.dK kvs)/\kvs.length<=1+2*i/\has kvs top /\
   (∀k:Nat,top<k+i->k<=top->has kvs k->has kvs (outOf rows k)/\has kvs (intoOf rows k))/\(∀k:Nat,has kvs k->k<=top)/\∀k:Nat,2<=k->has kvs k->k=top\/∃k',2<=k'/\has kvs k'/\k<k'/\(outOf rows k'=k\/intoOf rows k'=k))
  ⟨_,none,rfl,s0,Ab,by show 1<=1;decide,?_,λk h1 h2=>by lia,?_,?_⟩ ?_ ?_
 ·show has (putK [] (.inl (top:Int)) (.bl true)) top
  exact has_put.mpr (.inl rfl)
 ·intro k hk
  rcases has_put.mp (show has (putK [] (.inl (top:Int)) (.bl true)) k from hk) with e | e
  ·lia
  ·exact absurd e (by intro z;cases z)
 ·intro k _ hk
  rcases has_put.mp (show has (putK [] (.inl (top:Int)) (.bl true)) k from hk) with e | e
  ·exact .inl e
  ·exact absurd e (by intro z;cases z)
 ·rintro i σ H2 hi ⟨kvs,kv,rfl,sm,eD,hl,ht,hc,hb,hpar⟩
  obtain ⟨k,ek,k2⟩:∃k:Nat,(top:Int)-i=k/\2<=k:=⟨((top:Int)-i).toNat,by lia,by lia⟩;have kk:Knot rows k:=by unfold Knot at *;lia
  rw[ek];refine ⟨_,rfl,_,rfl,D,_,rfl,DGet.k (k:=.inl (k:Int)) eD,_,rfl,?_⟩;refine ite2 (λc=>?_) (λc=>?_)
  ·have hL2:=hL.same sm
   obtain ⟨xs,p,hS,ha,hp⟩:=Qp hL2 kk k2;obtain ⟨_,lo,li,_⟩:=ok.low (BZ kk k2);have z1:kvs.length<sizeLine:=Iz (by unfold Knot at kt;lia);refine ⟨_,rfl,_,rfl,_,rfl,_,_,rfl,rfl,ixA hS ha (ixA hp at1 ⟨D,_,rfl,.inl ⟨kvs,.inl ((rows.getD (k-2) (0,0,0)).2.1:Int),eD,rfl,z1,rfl⟩,?_⟩)⟩;have l1:=CV kvs (.inl ((rows.getD (k-2) (0,0,0)).2.1:Int)) (.bl true);have z2:(putK kvs (.inl ((rows.getD (k-2) (0,0,0)).2.1:Int)) (.bl true)).length<sizeLine:=Iz (by unfold Knot at kt;lia);have sm2:Same H (upd H2 D (.dK (putK kvs (.inl ((rows.getD (k-2) (0,0,0)).2.1:Int)) (.bl true)))):=λb o e=>by rw[Af (Ae e hD)];exact sm b o e
   obtain ⟨xs2,p2,hS2,ha2,hp2⟩:=Qp (hL.same sm2) kk k2;refine ⟨_,rfl,_,rfl,_,rfl,_,_,rfl,rfl,ixA hS2 ha2 (ixA hp2 at2 ⟨D,_,rfl,.inl ⟨_,.inl ((rows.getD (k-2) (0,0,0)).2.2:Int),Ab,rfl,z2,rfl⟩,?_⟩)⟩;have l2:=CV (putK kvs (.inl ((rows.getD (k-2) (0,0,0)).2.1:Int)) (.bl true)) (.inl ((rows.getD (k-2) (0,0,0)).2.2:Int)) (.bl true);have hup:∀k',has (putK (putK kvs (.inl ((rows.getD (k-2) (0,0,0)).2.1:Int)) (.bl true)) (.inl ((rows.getD (k-2) (0,0,0)).2.2:Int)) (.bl true)) k'->k'=outOf rows k\/k'=intoOf rows k\/has kvs k':=λk' h=>by
    rcases has_put.mp h with e | h
    ·exact .inr (.inl e)
    rcases has_put.mp h with e | h
    ·exact .inl e
    exact .inr (.inr h)
   have hkk:has kvs k:=c;have kle:k<=top:=by lia
   have lo':outOf rows k<k:=by unfold outOf;lia
   have li':intoOf rows k<k:=by unfold intoOf;lia
   refine ⟨_,_,rfl,λb o e=>?_,Ab,by lia,has_put.mpr (.inr (has_put.mpr (.inr ht))),λk' h1 h2 h3=>?_,λk' h=>?_,λk' h2 h=>?_⟩
   ·rw[Af (Ae e hD),Af (Ae e hD)]
    exact sm b o e
   ·by_cases e:k'=k
    ·subst e
     exact ⟨has_put.mpr (.inr (has_put.mpr (.inl rfl))),has_put.mpr (.inl rfl)⟩
    ·have h4:has kvs k':=by
      rcases has_put.mp h3 with e' | h3
      ·lia
      rcases has_put.mp h3 with e' | h3
      ·lia
      exact h3
     obtain ⟨y1,y2⟩:=hc k' (by lia) h2 h4;exact ⟨has_put.mpr (.inr (has_put.mpr (.inr y1))),has_put.mpr (.inr (has_put.mpr (.inr y2)))⟩
   ·rcases hup k' h with e | e | e
    ·lia
    ·lia
    ·exact hb k' e
   ·have keep:has (putK (putK kvs (.inl ((rows.getD (k-2) (0,0,0)).2.1:Int)) (.bl true)) (.inl ((rows.getD (k-2) (0,0,0)).2.2:Int)) (.bl true)) k:=has_put.mpr (.inr (has_put.mpr (.inr hkk)))
    rcases hup k' h with e | e | e
    ·exact .inr ⟨k,k2,keep,by lia,.inl e.symm⟩
    ·exact .inr ⟨k,k2,keep,by lia,.inr e.symm⟩
    ·rcases hpar k' h2 e with z | ⟨u,z1,z2,z3⟩
     ·exact .inl z
     ·exact .inr ⟨u,z1,has_put.mpr (.inr (has_put.mpr (.inr z2))),z3⟩
  ·refine ⟨kvs,_,rfl,sm,eD,by lia,ht,λk' h1 h2 h3=>?_,hb,hpar⟩
   by_cases e:k'=k
   ·subst e
    exact absurd h3 c
   ·exact hc k' (by lia) h2 h3
 ·rintro σ H2 ⟨kvs,kv,rfl,sm,eD,hl,ht,hc,hb,hpar⟩
  refine ⟨_,rfl,_,_,rfl,rfl,2,(top:Int)+1,rfl,⟨by lia,by lia,by lia,by unfold Knot at kt;lia⟩,λL hL0=>?_⟩;have neL:D≠L:=λe=>by rw[<- e,eD] at hL0;cases hL0
  have nL:H L=none:=sm.free hL0;refine Dq (lo:=2) (n:=((top:Int)+1-2).toNat) (λi τ H3=>∃kv:Option V,τ=[kv,some (.ref D)]/\Same H H3/\H3 D=some (.dK kvs)/\H3 L=some (.lst (iN (rcOf kvs i)))) ⟨none,rfl,sm.trans (Same.new hL0 _),by rw[Af neL];exact eD,Ab⟩ ?_ ?_
  ·rintro i τ H3 hi ⟨kv,rfl,sm3,eD3,eL3⟩
   have ei:(2:Int)+i=((i+2:Nat):Int):=by lia
   rw[ei];refine ⟨_,rfl,_,rfl,D,_,rfl,DGet.k (k:=.inl ((i+2:Nat):Int)) eD3,_,rfl,?_⟩;have lr:=AAh kvs i;refine ite2 (λc=>?_) (λc=>?_)
   ·refine ⟨_,rfl,_,eL3,Iz (by rw[AB];unfold Knot at kt;lia),_,rfl,λb o e=>?_,by rw[Af neL];exact eD3,?_⟩
    ·rw[Af (Ae e nL)]
     exact sm3 b o e
    ·rw[Ab,Oi,if_pos c]
     unfold iN;rw[BU];rfl
   ·refine ⟨_,rfl,sm3,eD3,?_⟩
    rw[eL3,Oi,if_neg c,BI]
  ·rintro τ H3 ⟨kv,rfl,sm3,eD3,eL3⟩
   have all:∀k,k∈rcOf kvs ((top:Int)+1-2).toNat->2<=k/\k<=top/\has kvs k:=λk hk=>by
    obtain ⟨a,b,c⟩:=KC.mp hk;exact ⟨a,by lia,c⟩
   have back:∀k,k<=top->has kvs k->k<=1\/k∈rcOf kvs ((top:Int)+1-2).toNat:=λk h1 h2=>by
    rcases C8 k 2 with c | c
    ·exact .inl (by lia)
    ·exact .inr (KC.mpr ⟨c,by lia,h2⟩)
   have kn:∀k,k<=top->Knot rows k:=λk h=>by unfold Knot at *;lia
   refine q L _ H3 sm3 nL eL3 ⟨λk hk=>(all k hk).1,λk hk=>kn k (all k hk).2.1,λk hk=>?_,λk hk=>?_⟩ (back top (AE _) ht) (λt j=>AAe (AFj _ _) (by unfold Knot at kt;lia)) (λk hk=>by
     obtain ⟨a1,b1,c1⟩:=all k hk;rcases hpar k a1 c1 with z | ⟨u,u2,z1,z2⟩
     ·exact .inl z
     ·exact .inr ⟨u,KC.mpr ⟨u2,by have:=hb u z1;lia,z1⟩,z2⟩)
   ·obtain ⟨a,b,c⟩:=all k hk
    obtain ⟨_,lo,li,_⟩:=ok.low (BZ (kn k b) a);exact back _ (by unfold outOf;lia) (hc k (by lia) b c).1
   ·obtain ⟨a,b,c⟩:=all k hk
    obtain ⟨_,lo,li,_⟩:=ok.low (BZ (kn k b) a);exact back _ (by unfold intoOf;lia) (hc k (by lia) b c).2
end
def ik3(r:Row):List Key:=[.inl (r.1:Int),.inl (r.2.1:Int),.inl (r.2.2:Int)]
abbrev r3(r:Row):List V:=[.int r.1,.int r.2.1,.int r.2.2]
def r3i(r:Row):List Int:=[(r.1:Int),(r.2.1:Int),(r.2.2:Int)]
theorem ADo{a b:Row}(h:ik3 a=ik3 b):a=b:=by
 obtain ⟨a1,a2,a3⟩:=a;obtain ⟨b1,b2,b3⟩:=b;simp[ik3] at h;obtain ⟨h1,h2,h3⟩:=h;injection h1 with h1
 injection h2 with h2
 injection h3 with h3
 have e1:a1=b1:=by lia
 have e2:a2=b2:=by lia
 have e3:a3=b3:=by lia
 rw[e1,e2,e3]
theorem Jw{a b:Row}(h:r3i a=r3i b):a=b:=by
 obtain ⟨a1,a2,a3⟩:=a;obtain ⟨b1,b2,b3⟩:=b;simp[r3i] at h;obtain ⟨h1,h2,h3⟩:=h;have e1:a1=b1:=by lia
 have e2:a2=b2:=by lia
 have e3:a3=b3:=by lia
 rw[e1,e2,e3]
def numKV:Nat->List Row->List (List Key×V)
 | _,[]=>[]
 | i,r::rs=>(ik3 r,.int (i:Int))::numKV (i+1) rs
def numOf:Nat->List Row->Row->Option Nat
 | _,[],_=>none
 | i,a::rs,r=>if a=r then some i else numOf (i+1) rs r
theorem Io:∀(i:Nat) (nums:List Row),(numKV i nums).length=nums.length
 | _,[]=>rfl
 | i,_::rs=>by show (numKV (i+1) rs).length+1=rs.length+1;rw[Io]
theorem JK(r:Row):∀(i:Nat) (nums:List Row),valV (numKV i nums) (ik3 r)=(numOf i nums r).map λ(m:Nat)=>V.int (m:Int)
 | _,[]=>rfl
 | i,a::rs=>by
  by_cases e:a=r
  ·rw[numKV,CN (by show ik3 a=ik3 r;rw[e]),numOf,if_pos e];rfl
  ·rw[numKV,CQ (λz=>e (ADo z)),numOf,if_neg e];exact JK r (i+1) rs
theorem Lx(r:Row):∀(i:Nat) (nums:List Row) (m:Nat),numOf i nums r=some m->∃j,nums[j]?=some r/\m=i+j
 | _,[],_,h=>by cases h
 | i,a::rs,m,h=>by
  unfold numOf at h;by_cases e:a=r
  ·rw[if_pos e] at h
   cases h;exact ⟨0,by rw[e];rfl,rfl⟩
  ·rw[if_neg e] at h
   obtain ⟨j,h1,h2⟩:=Lx r (i+1) rs m h;exact ⟨j+1,by simpa using h1,by lia⟩
theorem KH(r:Row):∀(i:Nat) (nums:List Row),numOf i nums r=none->r∉nums
 | _,[],_=>λh=>nomatch h
 | i,a::rs,h=>by
  unfold numOf at h;by_cases e:a=r
  ·rw[if_pos e] at h;cases h
  ·rw[if_neg e] at h
   intro hm;rcases Be.mp hm with rfl | hm
   ·exact e rfl
   ·exact KH r (i+1) rs h hm
theorem NQ(r:Row):∀(i:Nat) (nums:List Row),r∉nums->numOf i nums r=none
 | _,[],_=>rfl
 | i,a::rs,h=>by
  unfold numOf;rw[if_neg (λe=>h (by rw[e];exact AC ..))];exact NQ r (i+1) rs λz=>h (AG _ z)
theorem Ov:∀(i:Nat) (nums:List Row) (r:Row),numKV i (nums++[r])=numKV i nums++[(ik3 r,.int ((i+nums.length:Nat):Int))]
 | i,[],r=>rfl
 | i,a::rs,r=>by
  show (ik3 a,V.int (i:Int))::numKV (i+1) (rs++[r])=(ik3 a,V.int (i:Int))::(numKV (i+1) rs++[(ik3 r,V.int ((i+(rs.length+1):Nat):Int))]);rw[Ov (i+1) rs r];rw[show i+1+rs.length=i+(rs.length+1) by lia]
theorem Zq{nums:List Row}{r:Row}(h:r∉nums):putK (numKV 2 nums) (ik3 r) (.int (((numKV 2 nums).length:Int)+2))=numKV 2 (nums++[r]):=by
 rw[Ie _ (by rw[JK,NQ r 2 nums h];rfl),Ov,Io]
 congr 4
 lia
theorem Nm{K:As}{H:Hp}:∀{i:Nat}{nums:List Row}{ys:List V},KeyL H (numKV i nums) ys->A9 (rRow K H) nums ys
 | _,[],_,.nil=>.nil
 | i,r::rs,_,.cons ⟨b,e,hb⟩ t=>.cons ⟨b,e,SqT.of hb⟩ (Nm t)
theorem Ip:∀(ms:List (List Int)),(∀m∈ms,∃r,m=r3i r)->∃new:List Row,ms=new.map r3i
 | [],_=>⟨[],rfl⟩
 | m::ms,h=>by
  obtain ⟨r,rfl⟩:=h m (AC ..);obtain ⟨new,rfl⟩:=Ip ms λx hx=>h x (AG _ hx);exact ⟨r::new,rfl⟩
theorem Yu:∀{new:List Row},(new.map r3i).Pairwise (λa b=>HT.lexLt a b=true)->new.Nodup:=λ{new} h=>by
 have h2:new.Pairwise (λa b=>HT.lexLt (r3i a) (r3i b)=true):=CS.mp h;exact h2.imp λ{a b} z e=>by rw[e,HJ] at z;cases z
def plOf(pl:Nat->Option Nat)(place:Nat->Nat)(ks:List Nat)(k:Nat):Option Nat:=if k∈ks then some (place k) else pl k
theorem ACV{pl:Nat->Option Nat}{place:Nat->Nat}{ks:List Nat}{a k:Nat}:plOf pl place (ks++[a]) k=if k=a then some (place a) else plOf pl place ks k:=by
 unfold plOf;by_cases e:k=a
 ·subst e;simp
 ·by_cases h:k∈ks
  ·simp[h,e]
  ·simp[h,e]
def PlD(kvs:List (Key×V))(pl:Nat->Option Nat):Prop:=∀k:Nat,valV kvs (.inl (k:Int))=(pl k).map λ(p:Nat)=>V.int (p:Int)
theorem PlD.put{kvs:List (Key×V)}{pl:Nat->Option Nat}{place:Nat->Nat}{ks:List Nat}{a:Nat}(h:PlD kvs (plOf pl place ks)):PlD (putK kvs (.inl (a:Int)) (.int (place a:Nat))) (plOf pl place (ks++[a])):=λk=>by
 rw[Ed,ACV];by_cases e:k=a
 ·subst e;rw[if_pos rfl,if_pos rfl];rfl
 ·rw[if_neg (λz=>e (by injection z with z;lia)),if_neg e]
  exact h k
end K43s
end
section
namespace G
section
variable{n t:Nat}{A rows nums:List Row}{rc:List Nat}{pl:Nat->Option Nat}
def FewB(rows:List Row)(top:Nat):Prop:=∃P:Nat->Prop,P top/\(∀k,P k->2<=k->Knot rows k->P (outOf rows k)/\P (intoOf rows k)) /\
 ∀(t:Nat) (ks:List Nat),(∀k∈ks,P k/\2<=k/\Knot rows k/\tieOf rows k=t/\∃s,led rows (intoOf rows k) s=true)->ks.Pairwise (λa b=>∃s,led rows a s≠led rows b s)->ks.length<=300
theorem FewB.sel{top:Nat}(F:FewB rows top)(I:Kept2 n (t+1) rows rc nums pl)(c:Closed rows rc)(o:Ok n rows)(hn:t<n)(par:∀k∈rc,k=top\/∃k'∈rc,k<k'/\(outOf rows k'=k\/intoOf rows k'=k)) :
  ∀new:List Row,new.Nodup->(∀r∈new,∃k,k∈rc/\tieOf rows k=t/\r=rowIn rows pl k/\r.2.2≠0)->new.length<=300:=by
 intro new nd hw;obtain ⟨P,pt,ps,few⟩:=F;have hP:∀k∈rc,P k:=λk hk=>Yn pt ps c par _ k (AE _) hk;obtain ⟨g,hg⟩:∃g:Row->Nat,∀r∈new,g r∈rc/\tieOf rows (g r)=t/\r=rowIn rows pl (g r)/\r.2.2≠0 :=
  ⟨λr=>if h:r∈new then Fa (hw r h) else 0,λr h=>by
   dsimp only;rw[dif_pos h];exact FU (hw r h)⟩
 have okN:=I.base.least.ok;have key:∀r∈new,∃a b,r=(t,a,b)/\Knot nums a/\Knot nums b/\b≠0/\(∀s,led nums a s=led rows (outOf rows (g r)) s)/\(∀s,led nums b s=led rows (intoOf rows (g r)) s)/\(∀xs,led rows (g r) (t::xs)=led nums b xs)/\∀s,led nums a s=if lowH t s=true then false else led rows (g r) s:=λr hr=>by
  obtain ⟨hk,ht,e,w0⟩:=hg r hr;obtain ⟨a,b,ea,eb,re,x1,x2,x3,x4⟩:=I.base.row c o hn hk ht;obtain ⟨_,z1,z2⟩:=c.low o hk;have la:∀s,led nums a s=led rows (outOf rows (g r)) s:=I.low (c.out _ hk) (by rw[<- ht];exact z1) ea;have lb:∀s,led nums b s=led rows (intoOf rows (g r)) s:=I.low (c.into _ hk) (by rw[<- ht];exact z2) eb;have kk:=c.knot _ hk;have k2:=c.two _ hk;have et:(rows.getD (g r-2) (0,0,0)).1=t:=ht;refine ⟨a,b,e.trans re,x1,x2,?_,la,lb,λxs=>?_,λs=>?_⟩
  ·rw[e,re] at w0
   exact w0
  ·rw[Bf o kk k2,et,if_neg (FI _),if_pos rfl,lb]
   rfl
  ·cases s with
   | nil=>rw[la,DP o kk k2,if_neg (by intro z;cases z)];rfl
   | cons x xs =>
    by_cases cs:x<=t
    ·rw[if_pos (show lowH t (x::xs)=true from decide_eq_true cs)]
     exact off okN x1 (by lia)
    ·rw[if_neg (show ¬ lowH t (x::xs)=true from λz=>cs (of_decide_eq_true z)),la,Bf o kk k2,et,if_neg (by lia),if_neg (by lia)]
     rfl
 have:=few t (new.map g) (λk hk=>by
  obtain ⟨r,hr,rfl⟩:=AY.mp hk;obtain ⟨h1,h2,h3,h4⟩:=hg r hr;obtain ⟨a,b,_,_,kb,b0,_,lb,_⟩:=key r hr;refine ⟨hP _ h1,c.two _ h1,c.knot _ h1,h2,?_⟩;obtain ⟨s,w,_⟩:=KY I.base.least (b+1) b (D2 _) kb b0;exact ⟨s,by rw[<- lb];exact w.1⟩) (by
  rw[CS];refine EI (λ{r r'} hr hr' ne=>?_) nd;refine BO λh=>ne ?_;have same:∀s,led rows (g r) s=led rows (g r') s:=λs=>BO λz=>h ⟨s,z⟩;obtain ⟨a,b,er,ka,kb,_,_,_,lb,la⟩:=key r hr;obtain ⟨a',b',er',ka',kb',_,_,_,lb',la'⟩:=key r' hr';have e1:a=a':=YC I.base.least ka ka' λs=>by rw[la,la',same]
  have e2:b=b':=YC I.base.least kb kb' λs=>by rw[<- lb,<- lb',same]
  rw[er,er',e1,e2])
 rwa [AB] at this
theorem Rm{α:Type}[DecidableEq α]:∀{l₁ l₂:List α},l₁.Nodup->(∀x∈l₁,x∈l₂)->l₁.length<=l₂.length
 | [],_,_,_=>A8 _
 | a::t,l₂,nd,hs=>by
  obtain ⟨n1,n2⟩:=CU.mp nd;have ha:a∈l₂:=hs a AC;have hl:(l₂.erase a).length=l₂.length-1:=E9 ha;have ih:=Rm (l₂:=l₂.erase a) n2 λx hx=>(IA (λ(e:x=a)=>n1 (by rw[<- e];exact hx))).mpr (hs x (AG _ hx));have:0<l₂.length:=EU ha;simp;lia
def allB:Nat->List (List Bool)
 | 0=>[[]]
 | n+1=>(allB n).map (true::·)++(allB n).map (false::·)
theorem TY:∀n,(allB n).length=2 ^ n
 | 0=>rfl
 | n+1=>by
  show ((allB n).map (true::·)++(allB n).map (false::·)).length=_;rw[AT,AB,AB,TY n,Me];lia
theorem Rj:∀{n:Nat}{l:List Bool},l.length=n->l∈allB n
 | 0,[],_=>by simp[allB]
 | n+1,b::l,h=>by
  have:=Rj (n:=n) (l:=l) (by simpa using h);show b::l∈(allB n).map (true::·)++(allB n).map (false::·);cases b with
  | true=>exact Fk _ (FF this)
  | false=>exact CC _ (FF this)
 | 0,_::_,h=>by cases h
 | _+1,[],h=>by cases h
def subs12:List (List Nat):=[[],[9],[10],[11],[9,10],[9,11],[10,11],[9,10,11]]
theorem AEa{s:List Nat}(w:s.Pairwise (· < ·))(bd:∀x∈s,9<=x/\x<12):s∈subs12:=by
 match s,w,bd with
 | [],_,_=>exact by decide
 | [x],_,bd =>
  have:=bd x (AC ..);have:x=9\/x=10\/x=11:=by lia
  rcases this with rfl | rfl | rfl<;>decide
 | [x,y],w,bd =>
  have h1:=bd x (AC ..);have h2:=bd y (AG _ (AC ..));have lt:x<y:=(Cf.mp w).1 y (AC ..);have:(x=9/\y=10)\/(x=9/\y=11)\/(x=10/\y=11):=by lia
  rcases this with⟨rfl,rfl⟩ | ⟨rfl,rfl⟩ | ⟨rfl,rfl⟩<;>decide
 | x::y::z::r,w,bd =>
  have h1:=bd x (AC ..);have h2:=bd y (AG _ (AC ..));have h3:=bd z (AG _ (AG _ (AC ..)));have l1:x<y:=(Cf.mp w).1 y (AC ..);have w2:=(Cf.mp w).2;have l2:y<z:=(Cf.mp w2).1 z (AC ..);obtain rfl:x=9:=by lia
  obtain rfl:y=10:=by lia
  obtain rfl:z=11:=by lia
  cases r with
  | nil=>decide
  | cons u r =>
   have hu:=bd u (by simp);have l3:11<u:=(Cf.mp (Cf.mp w2).2).1 u (AC ..);lia
theorem Vk{n:Nat}{rows:List Row}(o:Ok n rows)(n12:n<=12)(c:Cnt 0 rows)(top:Nat):FewB rows top:=by
 refine ⟨λ_=>True,trivial,λ_ _ _ _=>⟨trivial,trivial⟩,λt ks hk un=>?_⟩;have nd:ks.Nodup:=un.imp λ{a b} ⟨s,h⟩ e=>h (by rw[e]);rcases C8 t 9 with c9 | c9
 ·have z:=Ou (A:=rows) (t:=t) ks (λk h=>⟨(hk k h).2.1,(hk k h).2.2.1,(hk k h).2.2.2.1⟩) nd
  have y:=c t;rw[if_neg (by lia),XA] at y;have:2 ^ t<=2 ^ 8:=Ki (by decide) (by lia);lia
 ·have lim:∀{k:Nat}{s:List Nat},Knot rows k->2<=k->tieOf rows k=t->led rows k s=true->s∈subs12:=λ{k s} kn k2 tk ld=>by
   have I0:=FP _ _ rfl o _ kn;obtain ⟨w1,w2⟩:=I0.way s ((I0.mem s).mpr ld);refine AEa w1 λx hx=>?_;have z:=w2 x hx;unfold rank at z;rw[if_neg (by lia)] at z;have e:(rows.getD (k-2) (0,0,0)).1=t:=tk;lia
  have z:=Rm (l₁:=ks.map λk=>subs12.map (led rows k)) (l₂:=allB 8) (by
   unfold Mb;rw[CS];refine EI (λ{a b} ha hb ⟨s,ne⟩ e=>ne ?_) un;obtain ⟨_,a2,ka,ta,_⟩:=hk a ha;obtain ⟨_,b2,kb,tb,_⟩:=hk b hb;have same:∀s∈subs12,led rows a s=led rows b s:=λs hs=>(List.map_inj_left.mp e) s hs;cases ea:led rows a s with
   | true=>rw[<- same s (lim ka a2 ta ea),ea]
   | false =>
    cases eb:led rows b s with
    | true=>rw[<- same s (lim kb b2 tb eb),ea] at eb;exact eb
    | false=>rfl) λx hx=>by
   obtain ⟨k,_,rfl⟩:=AY.mp hx;exact Rj (by rw[AB];rfl)
  rw[AB,TY] at z;lia
end
end G
end
section
namespace SB
open PySem PySem.SetTable
def iter{α:Type}(f:α->α):Nat->α->α
 | 0,x=>x
 | n+1,x=>iter f n (f x)
theorem CP{α:Type}(f:α->α):∀(m n:Nat) (x:α),iter f (m+n) x=iter f n (iter f m x)
 | 0,n,x=>by rw[K2];rfl
 | m+1,n,x=>by
  rw[Nat.succ_add];exact CP f m n (f x)
theorem Zu{α:Type}(f:α->α)(n:Nat)(x:α):iter f (n+1) x=f (iter f n x):=CP f n 1 x
def Mask(m:Nat):Prop:=m=7\/m=31\/m=127\/m=511
def step(M:Nat)(p:IC):IC :=
 if p.more>0 then {p with j:=p.j+1,more:=p.more-1} else
 {p with j:=(leap M p.i p.perturb).1,more:=FA M (leap M p.i p.perturb).1-(leap M p.i p.perturb).1,i:=(leap M p.i p.perturb).1,perturb:=(leap M p.i p.perturb).2}
theorem Gv(t:C7)(p:IC):t.advance p=step t.mask p:=by
 unfold advance step;split<;>rfl
theorem Qv(M i:Nat):FA M i-i<=9:=by
 unfold FA;split<;>lia
structure Fine(M:Nat)(p:IC):Prop where
 more:p.more<=9
 i:p.i<=M
 j:p.j<=M
 jm:p.j+p.more<=M
 dummy:p.dummy=none
theorem Vc{M i:Nat}(h:i<=M):i+(FA M i-i)<=M:=by
 unfold FA;split<;>lia
theorem HY(M i p:Nat):(leap M i p).1<=M:=by
 unfold leap;have:=Mm (i*5+1+p / 32) (show 0<M+1 by lia);show (i*5+1+p / 32)%(M+1)<=M;lia
theorem Fine.step{M:Nat}{p:IC}(h:Fine M p):Fine M (step M p):=by
 unfold SB.step;by_cases c:p.more>0
 ·rw[if_pos c]
  have:=h.jm;have:=h.more;exact ⟨by show p.more-1<=9;lia,h.i,by show p.j+1<=M;lia,by show p.j+1+(p.more-1)<=M;lia,h.dummy⟩
 ·rw[if_neg c]
  exact ⟨Qv _ _,HY _ _ _,HY _ _ _,Vc (HY _ _ _),h.dummy⟩
theorem Fine.iter{M:Nat}:∀(n:Nat) {p:IC},Fine M p->Fine M (iter (SB.step M) n p)
 | 0,_,h=>h
 | n+1,_,h=>Fine.iter n h.step
theorem Fine.start(t:C7)(h:Int):Fine t.mask (t.probeStart h):=by
 have:=Mm (bits h) (show 0<t.mask+1 by lia);have hi:bits h%(t.mask+1)<=t.mask:=by lia
 exact ⟨Qv _ _,hi,hi,Vc hi,rfl⟩
theorem Xl{M:Nat}:∀(k:Nat) {p:IC},p.more=k->∃q,SB.iter (step M) (k+1) p=q/\q.i=(leap M p.i p.perturb).1/\q.perturb=(leap M p.i p.perturb).2/\q.j=q.i/\q.more<=9
 | 0,p,e=>by
  refine ⟨_,rfl,?_⟩;show (step M p).i=_/\(step M p).perturb=_/\(step M p).j=(step M p).i/\(step M p).more<=9;unfold step;rw[if_neg (by lia)];exact ⟨rfl,rfl,rfl,Qv _ _⟩
 | k+1,p,e=>by
  have hs:step M p={p with j:=p.j+1,more:=p.more-1}:=by unfold step;rw[if_pos (by lia)]
  obtain ⟨q,h1,h2⟩:=Xl (M:=M) k (p:=step M p) (by rw[hs];show p.more-1=k;lia);rw[hs] at h2;exact ⟨q,h1,h2⟩
def leaps(M:Nat):Nat->Nat×Nat->Nat×Nat:=SB.iter (λx=>leap M x.1 x.2)
theorem Km{M:Nat}:∀(k:Nat) {p:IC},p.more<=9->∃m,m<=10*k/\((SB.iter (step M) m p).i,(SB.iter (step M) m p).perturb)=leaps M k (p.i,p.perturb)/\(SB.iter (step M) m p).more<=9/\(0<k->(SB.iter (step M) m p).j=(SB.iter (step M) m p).i)
 | 0,p,h=>⟨0,by lia,rfl,h,λz=>absurd z (by lia)⟩
 | k+1,p,h=>by
  obtain ⟨q,e,q1,q2,q3,q4⟩:=Xl (M:=M) p.more (p:=p) rfl;obtain ⟨m,hm,h1,h2,h3⟩:=Km k q4;refine ⟨(p.more+1)+m,by lia,?_,?_,λ_=>?_⟩
  ·rw[CP,e,h1]
   show leaps M k (q.i,q.perturb)=leaps M k (leap M p.i p.perturb);rw[q1,q2]
  ·rw[CP,e];exact h2
  ·rw[CP,e]
   by_cases c:0<k
   ·exact h3 c
   ·have:k=0:=by lia
    subst this;have:m=0:=by lia
    subst this;exact q3
theorem Er{M:Nat}:∀(k:Nat) (x:Nat×Nat),(leaps M k x).2=x.2 / 32 ^ k
 | 0,x=>by simp[leaps,SB.iter]
 | k+1,x=>by
  show (leaps M k (leap M x.1 x.2)).2=_;rw[Er k];show x.2 / 32 / 32 ^ k=_;rw[Nat.div_div_eq_div_mul,Me,Nat.mul_comm]
def lc(n i:Nat):Nat:=(i*5+1)%n
theorem HF{M:Nat}:∀(k i:Nat),leaps M k (i,0)=(SB.iter (lc (M+1)) k i,0)
 | 0,i=>rfl
 | k+1,i=>by
  show leaps M k (leap M i 0)=_;have:leap M i 0=(lc (M+1) i,0):=by unfold leap lc;simp
  rw[this,HF k];rfl
theorem cyc8:∀j,j<8->∃k,k<8/\SB.iter (lc 8) k 0=j:=by decide +kernel
theorem cyc32:∀j,j<32->∃k,k<32/\SB.iter (lc 32) k 0=j:=by decide +kernel
theorem cyc128:∀j,j<128->∃k,k<128/\SB.iter (lc 128) k 0=j:=by decide +kernel
def iters(f:Nat->Nat):Nat->Nat->List Nat
 | 0,_=>[]
 | n+1,x=>x::iters f n (f x)
theorem Uh(f:Nat->Nat):∀(n x j:Nat),j∈iters f n x->∃k,k<n/\SB.iter f k x=j
 | 0,x,j,h=>by cases h
 | n+1,x,j,h=>by
  rcases Be.mp h with rfl | h
  ·exact ⟨0,Nat.zero_lt_succ _,rfl⟩
  ·obtain ⟨k,hk,e⟩:=Uh f n (f x) j h
   exact ⟨k+1,Nat.succ_lt_succ hk,e⟩
theorem all512:((AI 512).all λj=>(iters (lc 512) 512 0).contains j)=true:=by decide +kernel
theorem cyc512:∀j,j<512->∃k,k<512/\SB.iter (lc 512) k 0=j:=λj hj=>Uh _ _ _ _ (List.contains_iff_mem.mp (FL.mp all512 j (AS.mpr hj)))
theorem cyc{M:Nat}(h:Mask M):(∀j,j<M+1->∃k,k<M+1/\SB.iter (lc (M+1)) k 0=j)/\SB.iter (lc (M+1)) (M+1) 0=0:=by
 rcases h with rfl | rfl | rfl | rfl
 ·exact ⟨cyc8,by decide +kernel⟩
 ·exact ⟨cyc32,by decide +kernel⟩
 ·exact ⟨cyc128,by decide +kernel⟩
 ·exact ⟨cyc512,by decide +kernel⟩
theorem Xz{M:Nat}(h:Mask M){i j:Nat}(hi:i<M+1)(hj:j<M+1):∃k,k<M+1/\SB.iter (lc (M+1)) k i=j:=by
 obtain ⟨c1,c2⟩:=cyc h;obtain ⟨a,ha,ea⟩:=c1 i hi;obtain ⟨b,hb,eb⟩:=c1 j hj;by_cases c:a<=b
 ·refine ⟨b-a,by lia,?_⟩
  rw[<- ea,<- CP,show a+(b-a)=b by lia,eb]
 ·refine ⟨M+1+b-a,by lia,?_⟩
  rw[<- ea,<- CP,show a+(M+1+b-a)=(M+1)+b by lia,CP,c2,eb]
theorem Br:∀{l₁ l₂:List Nat},l₁.Nodup->(∀x∈l₁,x∈l₂)->l₁.length<=l₂.length
 | [],_,_,_=>A8 _
 | a::t,l₂,nd,hs=>by
  obtain ⟨n1,n2⟩:=CU.mp nd;have ha:a∈l₂:=hs a AC;have hl:(l₂.erase a).length=l₂.length-1:=E9 ha;have ih:=Br (l₂:=l₂.erase a) n2 λx hx=>(IA (λ(e:x=a)=>n1 (by rw[<- e];exact hx))).mpr (hs x (AG _ hx));have:0<l₂.length:=EU ha;simp;lia
theorem ADW{M:Nat}{place:Array Nat}(h:place.size<=M):∃j,j<M+1/\j∉place.toList:=by
 refine BO λc=>?_;have all:∀j∈AI (M+1),j∈place.toList:=λj hj=>BO λz=>c ⟨j,AS.mp hj,z⟩;have:=Br D5 all;rw[BD,AX] at this;lia
theorem QF(h:Int):bits h<2 ^ 64:=by
 unfold bits;have h1:=FE h (show (2 ^ 64:Int)≠0 by decide);have h2:=EO h (show (0:Int)<2 ^ 64 by decide);lia
theorem Lz{M:Nat}:∀(n:Nat) (p:IC),(SB.iter (step M) n p).perturb<=p.perturb
 | 0,_=>AE _
 | n+1,p=>by
  refine BM (Lz n (step M p)) ?_;unfold step;split
  ·exact AE _
  ·exact Nat.div_le_self _ _
theorem Mx{M:Nat}{place:Array Nat}(hM:Mask M)(hs:place.size<=M){p:IC}(hp:Fine M p)(hb:p.perturb<2 ^ 64):∃m,m<10*NU M/\(SB.iter (step M) m p).j∉place.toList:=by
 obtain ⟨j,hj,nj⟩:=ADW hs;obtain ⟨m1,hm1,e1,k1,_⟩:=Km (M:=M) 13 (p:=p) hp.more;generalize hq:SB.iter (step M) m1 p=q at *;have fq:Fine M q:=by rw[<- hq];exact hp.iter m1
 have pz:q.perturb=0:=by
  have h2:=congrArg Prod.snd e1;rw[Er] at h2;have h3:q.perturb=p.perturb / 32 ^ 13:=h2;rw[h3];exact Tx (CH hb (by decide))
 obtain ⟨k,hk,ek⟩:=Xz hM (i:=lc (M+1) q.i) (j:=j) (Mm _ (XB _)) hj;obtain ⟨m2,hm2,e2,_,k2⟩:=Km (M:=M) (k+1) (p:=q) fq.more;refine ⟨m1+m2,?_,?_⟩
 ·unfold NU
  lia
 ·rw[CP,hq,k2 (XB _)]
  have h1:=congrArg Prod.fst e2;rw[pz,HF] at h1;have h2:(SB.iter (step M) m2 q).i=SB.iter (lc (M+1)) k (lc (M+1) q.i):=h1;rw[h2,ek];exact nj
theorem LC{xs:Array Nat}{j:Nat}(so:xs.toList.Pairwise (· < ·)):∀(fuel lo hi:Nat),lo<=hi->hi<=xs.size->hi-lo<=fuel->(∀k,k<lo->xs.getD k j<j)->(∀k,hi<=k->k<xs.size->j<=xs.getD k j) ->
  (∀k,k<below.go xs j fuel lo hi->xs.getD k j<j)/\(∀k,below.go xs j fuel lo hi<=k->k<xs.size->j<=xs.getD k j)/\below.go xs j fuel lo hi<=xs.size
 | 0,lo,hi,h1,h2,h3,h4,h5=>by
  have:lo=hi:=by lia
  subst this;exact ⟨h4,h5,h2⟩
 | fuel+1,lo,hi,h1,h2,h3,h4,h5=>by
  unfold below.go;by_cases c:lo<hi
  ·rw[if_pos c]
   have hm:(lo+hi) / 2<xs.size:=by lia
   have so':=C3.mp so;have gd:∀k,k<xs.size->xs.getD k j=xs.toList.getD k j:=λk hk=>by simp[Ex,hk]
   by_cases d:xs.getD ((lo+hi) / 2) j<j
   ·simp only[if_pos d]
    refine LC so fuel _ hi (by lia) h2 (by lia) (λk hk=>?_) h5;by_cases e:k=(lo+hi) / 2
    ·rw[e];exact d
    ·have hk':k<(lo+hi) / 2:=by lia
     have z:=so' k ((lo+hi) / 2) (by simpa using (show k<xs.size by lia)) (by simpa using hm) hk';have g1:xs.getD k j=xs[k]'(by lia):=by simp[Ex,show k<xs.size by lia]
     have g2:xs.getD ((lo+hi) / 2) j=xs[(lo+hi) / 2]'hm:=by simp[Ex,hm]
     rw[g2] at d;rw[g1];simp at z;lia
   ·simp only[if_neg d]
    refine LC so fuel lo _ (by lia) (by lia) (by lia) h4 (λk hk hk2=>?_);by_cases e:k=(lo+hi) / 2
    ·rw[e];lia
    ·have z:=so' ((lo+hi) / 2) k (by simpa using hm) (by simpa using hk2) (by lia)
     have g1:xs.getD k j=xs[k]'hk2:=by simp[Ex,hk2]
     have g2:xs.getD ((lo+hi) / 2) j=xs[(lo+hi) / 2]'hm:=by simp[Ex,hm]
     rw[g2] at d;rw[g1];simp at z;lia
  ·rw[if_neg c]
   have:lo=hi:=by lia
   subst this;exact ⟨h4,h5,h2⟩
theorem FJ{xs:Array Nat}{j:Nat}(so:xs.toList.Pairwise (· < ·)):(∀k,k<below xs j->xs.getD k j<j)/\(∀k,below xs j<=k->k<xs.size->j<=xs.getD k j)/\below xs j<=xs.size :=
 LC so xs.size 0 xs.size (A8 _) (AE _) (AE _) (λk hk=>absurd hk (by lia)) (λk h1 h2=>absurd h2 (by lia))
theorem below_at{xs:Array Nat}{j:Nat}(so:xs.toList.Pairwise (· < ·))(h:j∈xs.toList):xs[below xs j]?=some j:=by
 obtain ⟨b1,b2,b3⟩:=FJ (j:=j) so;obtain ⟨k,hk,e⟩:=C0.mp h;have hk':k<xs.size:=by simpa using hk
 have e':xs[k]=j:=by simpa using e
 have g1:xs.getD k j=j:=by simp[Ex,hk',e']
 have h1:below xs j<=k:=by
  refine BO λc=>?_;have:=b1 k (by lia);lia
 by_cases c:below xs j=k
 ·rw[c,Bz hk',e']
 ·have hb:below xs j<xs.size:=by lia
  have z:=C3.mp so (below xs j) k (by simpa using hb) hk (by lia);have b:=b2 (below xs j) (AE _) hb;have g2:xs.getD (below xs j) j=xs[below xs j]'hb:=by simp[Ex,hb]
  rw[g2] at b;simp at z;lia
structure Tab(t:C7):Prop where
 mask:Mask t.mask
 none:t.dummies=#[]
 size:t.place.size<=t.mask
 le:∀j∈t.place.toList,j<=t.mask
 rise:t.place.toList.Pairwise (· < ·)
theorem slot_of{t:C7}(T:Tab t)(j:Nat):(t.slot j=.empty/\j∉t.place.toList)\/∃i,t.slot j=.live i/\t.place[i]?=some j:=by
 unfold slot;by_cases c:t.place[below t.place j]?=some j
 ·right
  exact ⟨below t.place j,by simp[c],c⟩
 ·left
  have hd:has t.dummies j=false:=by rw[T.none];unfold has;simp
  refine ⟨by simp[c,hd],λh=>c (below_at T.rise h)⟩
def way(t:C7)(p:IC)(m:Nat):Nat:=(SB.iter (step t.mask) m p).j
theorem Rg(t:C7)(p:IC)(m:Nat):way t (step t.mask p) m=way t p (m+1):=rfl
theorem AEq{t:C7}(T:Tab t){hashAt:Nat->Int}{h:Int}:∀(fuel:Nat) (p:IC),p.dummy=none->(∃m,m<fuel/\way t p m∉t.place.toList) ->
  ∃m,(∀m',m'<m->∃i,t.place[i]?=some (way t p m')/\hashAt i≠h) /\
   (
    (way t p m∉t.place.toList/\MM t hashAt h fuel p=some (.empty (way t p m) none)) \/
    ∃i,t.place[i]?=some (way t p m)/\t.slot (way t p m)=.live i/\hashAt i=h/\MM t hashAt h fuel p=some (.candidate (way t p m) i (SB.iter (step t.mask) (m+1) p)))
 | 0,p,_,⟨m,hm,_⟩=>absurd hm (by lia)
 | fuel+1,p,hd,⟨m0,hm0,n0⟩=>by
  unfold MM;rcases slot_of T p.j with⟨e,ne⟩ | ⟨i,e,pi⟩
  ·refine ⟨0,λm' h=>absurd h (by lia),.inl ⟨ne,?_⟩⟩
   rw[e];show some (Met.empty p.j p.dummy)=_;rw[hd];rfl
  ·by_cases c:hashAt i=h
   ·refine ⟨0,λm' h=>absurd h (by lia),.inr ⟨i,pi,e,c,?_⟩⟩
    rw[e];simp only[c,beq_self_eq_true,if_true];rw[Gv];rfl
   ·have m1:m0≠0:=λz=>by
     subst z;exact n0 (by rw[DA];exact ⟨i,by rw[B8];exact pi⟩)
    have hd':(step t.mask p).dummy=none:=by unfold step;split<;>exact hd
    obtain ⟨m,h1,h2⟩:=AEq T (hashAt:=hashAt) (h:=h) fuel (step t.mask p) hd' ⟨m0-1,by lia,by rw[Rg,show m0-1+1=m0 by lia];exact n0⟩;have ee:MM t hashAt h (fuel+1) p=MM t hashAt h fuel (step t.mask p):=by
     show (match t.slot p.j with | .empty=>some (Met.empty p.j p.dummy) | .dummy=>MM t hashAt h fuel (t.advance {p with dummy:=some p.j}) | .live i=>if hashAt i==h then some (.candidate p.j i (t.advance p)) else MM t hashAt h fuel (t.advance p))=_;rw[e];have cb:(hashAt i==h)=false:=by simpa using c
     simp only[cb,A7,if_false];rw[Gv]
    refine ⟨m+1,λm' hm'=>?_,?_⟩
    ·by_cases z:m'=0
     ·subst z;exact ⟨i,pi,c⟩
     ·have:=h1 (m'-1) (by lia)
      rw[Rg,show m'-1+1=m' by lia] at this;exact this
    ·rw[e]
     have cb:(hashAt i==h)=false:=by simpa using c
     simp only[cb,A7,if_false,Gv];exact h2
def Loc(t:C7)(hs:List Int):Prop:=∀(idx j:Nat) (h:Int),t.place[idx]?=some j->hs[idx]?=some h->∃m,way t (t.probeStart h) m=j/\∀m',m'<m->way t (t.probeStart h) m'∈t.place.toList
theorem ABM{t:C7}(T:Tab t){hashAt:Nat->Int}{h:Int}{p:IC}(hp:Fine t.mask p)(hb:p.perturb<2 ^ 64) :
  ∃m,(∀m',m'<m->∃i,t.place[i]?=some (way t p m')/\hashAt i≠h) /\
   (
    (way t p m∉t.place.toList/\t.probe hashAt h p=some (.empty (way t p m) none)) \/
    ∃i,t.place[i]?=some (way t p m)/\t.slot (way t p m)=.live i/\hashAt i=h/\t.probe hashAt h p=some (.candidate (way t p m) i (SB.iter (step t.mask) (m+1) p))) :=
 AEq T _ p hp.dummy (Mx T.mask T.size hp hb)
theorem BX{α:Type}(xs:Array α)(p:Nat)(x:α):(Eg xs p x).toList=xs.toList.take p++[x]++xs.toList.drop p:=by
 unfold Eg;simp;exact He (by simp)
structure Put(t:C7)(j:Nat):Prop where
 le:j<=t.mask
 new:j∉t.place.toList
 room:t.place.size+1<=t.mask
theorem Ii{t:C7}(T:Tab t){j:Nat}:(t.put j).1={t with place:=Eg t.place (below t.place j) j}/\(t.put j).2=below t.place j:=by
 unfold put;have hd:has t.dummies j=false:=by rw[T.none];unfold has;simp
 simp[hd]
theorem ADw{t:C7}(T:Tab t){j:Nat}(P:Put t j):Tab (t.put j).1:=by
 obtain ⟨e,_⟩:=Ii T (j:=j);obtain ⟨b1,b2,b3⟩:=FJ (j:=j) T.rise;rw[e];refine ⟨T.mask,T.none,?_,λk hk=>?_,?_⟩
 ·show (Eg t.place (below t.place j) j).size<=t.mask
  have:=congrArg Fh (BX t.place (below t.place j) j);simp at this;have:=P.room;lia
 ·have hk':k∈(Eg t.place (below t.place j) j).toList:=hk
  rw[BX] at hk';rcases B9.mp hk' with hk' | hk'
  ·rcases B9.mp hk' with hk' | hk'
   ·exact T.le k (Mn hk')
   ·rw[Bn.mp hk'];exact P.le
  ·exact T.le k (Qr hk')
 ·show (Eg t.place (below t.place j) j).toList.Pairwise (· < ·)
  rw[BX];have so:=T.rise;have get:∀k (hk:k<t.place.size),t.place.getD k j=t.place.toList[k]'(by simpa using hk):=λk hk=>by simp[Ex,hk]
  refine C1.mpr ⟨C1.mpr ⟨so.sublist (HQ _ _),G7 _ _,λa ha b hb=>?_⟩,so.sublist (HU _ _),λa ha b hb=>?_⟩
  ·rw[Bn.mp hb]
   obtain ⟨k,hk,rfl⟩:=C0.mp ha;rw[BQ] at hk;have hk2:k<t.place.size:=by simp at hk;lia
   have:=b1 k (by lia);rw[get k hk2] at this;rw[J0];exact this
  ·obtain ⟨k,hk,rfl⟩:=C0.mp hb
   rw[Hb] at hk;have hk2:below t.place j+k<t.place.size:=by simp at hk;lia
   rw[NM];have z:=b2 (below t.place j+k) (by lia) hk2;rw[get _ hk2] at z;have ne:t.place.toList[below t.place j+k]'(by simpa using hk2)≠j:=λe=>P.new (e ▸ Fc _);rcases B9.mp ha with ha | ha
   ·obtain ⟨i,hi,rfl⟩:=C0.mp ha
    rw[BQ] at hi;rw[J0];exact C3.mp so i (below t.place j+k) (by lia) (by simpa using hk2) (by lia)
   ·rw[Bn.mp ha]
    lia
theorem ACx{t:C7}(T:Tab t){hs:List Int}(hl:hs.length=t.place.size)(L:Loc t hs){h:Int}{m:Nat}(hm:∀m',m'<m->way t (t.probeStart h) m'∈t.place.toList) :
  Loc (t.put (way t (t.probeStart h) m)).1 (hs.take (t.put (way t (t.probeStart h) m)).2++[h]++hs.drop (t.put (way t (t.probeStart h) m)).2):=by
 generalize hj:way t (t.probeStart h) m=j;obtain ⟨e,e2⟩:=Ii T (j:=j);obtain ⟨_,_,b3⟩:=FJ (j:=j) T.rise;rw[e,e2];generalize hp:below t.place j=p at *;have mem:∀k,k∈t.place.toList->k∈(Eg t.place p j).toList:=λk hk=>by
  rw[BX];rw[<- FV p t.place.toList] at hk;rcases B9.mp hk with hk | hk
  ·exact Fk _ (Fk _ hk)
  ·exact CC _ hk
 have memj:j∈(Eg t.place p j).toList:=by
  rw[BX];exact Fk _ (CC _ (Bn.mpr rfl))
 intro idx k h' hk hh;have hk':(Eg t.place p j).toList[idx]?=some k:=by simpa using hk
 rw[BX] at hk';have wy:∀(q:IC) m,way {t with place:=Eg t.place p j} q m=way t q m:=λ_ _=>rfl;have ps:∀h,({t with place:=Eg t.place p j}:C7).probeStart h=t.probeStart h:=λ_=>rfl;have lt:(t.place.toList.take p).length=p:=by rw[BQ,AX];lia
 have lh:(hs.take p).length=p:=by rw[BQ];lia
 rw[CD] at hk' hh;have old:∀i,t.place.toList[i]?=some k->hs[i]?=some h'->∃m,way {t with place:=Eg t.place p j} (({t with place:=Eg t.place p j}:C7).probeStart h') m=k/\∀m',m'<m->way {t with place:=Eg t.place p j} (({t with place:=Eg t.place p j}:C7).probeStart h') m'∈({t with place:=Eg t.place p j}:C7).place.toList:=λi a b=>by
  obtain ⟨m,x,y⟩:=L i k h' (by rw[<- B8];exact a) b;exact ⟨m,x,λm' hm'=>mem _ (y m' hm')⟩
 by_cases c:idx<p
 ·rw[By (by lia),F8 c] at hk' hh
  exact old idx hk' hh
 ·rw[Ct (by lia)] at hk' hh
  rw[lt] at hk';rw[lh] at hh;by_cases d:idx=p
  ·subst d
   simp at hk' hh;subst hk' hh;exact ⟨m,hj,λm' hm'=>mem _ (hm m' hm')⟩
  ·rw[Ct (by simp;lia)] at hk' hh
   simp only[Dx,Sc] at hk' hh;rw[show p+(idx-p-1)=idx-1 by lia] at hk' hh;exact old (idx-1) hk' hh
def Bw(M i perturb:Nat):IC:={j:=i,more:=FA M i-i,i:=i,perturb:=perturb,dummy:=none}
theorem MF{M:Nat}:∀(m:Nat) (p:IC),m<=p.more->SB.iter (step M) m p={p with j:=p.j+m,more:=p.more-m}
 | 0,p,_=>by cases p;rfl
 | m+1,p,h=>by
  have hs:step M p={p with j:=p.j+1,more:=p.more-1}:=by unfold step;rw[if_pos (by lia)]
  show SB.iter (step M) m (step M p)=_;rw[MF m (step M p) (by rw[hs];show m<=p.more-1;lia),hs];show ({p with j:=p.j+1+m,more:=p.more-1-m}:IC)={p with j:=p.j+(m+1),more:=p.more-(m+1)};rw[show p.j+1+m=p.j+(m+1) by lia,show p.more-1-m=p.more-(m+1) by lia]
theorem Wb{M i pe:Nat}:SB.iter (step M) (FA M i-i+1) (Bw M i pe)=Bw M (leap M i pe).1 (leap M i pe).2:=by
 rw[Zu,MF (FA M i-i) (Bw M i pe) (AE _)];unfold step;rw[if_neg (by show ¬ (FA M i-i-(FA M i-i)>0);lia)];rfl
theorem ZP(M i:Nat):i<=FA M i:=by
 unfold FA;split<;>lia
def wayM(M:Nat)(p:IC)(m:Nat):Nat:=(SB.iter (step M) m p).j
theorem Xy{M:Nat}{owner:Array (Option Nat)}:∀(fuel i pe:Nat),i<=M->(∃k,k<fuel/\owner.getD (leaps M k (i,pe)).1 (some 0)=none) ->
  ∃m,Kt M owner fuel i pe=some (wayM M (Bw M i pe) m)/\owner.getD (wayM M (Bw M i pe) m) (some 0)=none/\∀m',m'<m->(owner.getD (wayM M (Bw M i pe) m') (some 0)).isSome=true
 | 0,i,pe,_,⟨k,hk,_⟩=>absurd hk (by lia)
 | fuel+1,i,pe,hi,⟨k,hk,nk⟩=>by
  have ge:=ZP M i;have wy:∀m,m<=FA M i-i->wayM M (Bw M i pe) m=i+m:=λm hm=>by
   unfold wayM;rw[MF m (Bw M i pe) hm];rfl
  unfold Kt;cases hf:(AI (FA M i+1-i)).find? λk=>(owner.getD (i+k) (some 0)).isNone with
  | some k' =>
   have h1:=List.find?_some hf;have h2:=AS.mp (List.mem_of_find?_eq_some hf);refine ⟨k',?_,?_,λm' hm'=>?_⟩
   ·rw[wy k' (by lia)]
   ·rw[wy k' (by lia)]
    simpa using h1
   ·rw[wy m' (by lia)]
    obtain ⟨_,as,bs,e,hb⟩:=List.find?_eq_some_iff_append.mp hf;have hl:as.length=k':=by
     have:(AI (FA M i+1-i))[as.length]?=some k':=by rw[e];simp
     rw[D8 (by have:=congrArg Fh e;simp at this;lia)] at this;exact BH this
    have hm:m'∈as:=by
     have:(AI (FA M i+1-i))[m']?=some m':=D8 (by lia);rw[e,By (by lia)] at this;exact Bi this
    have:=hb m' hm;simpa [NV] using this
  | none =>
   have hn:=List.find?_eq_none.mp hf;have all:∀m,m<=FA M i-i->(owner.getD (i+m) (some 0)).isSome=true:=λm hm=>by
    have:=hn m (AS.mpr (by lia));simpa [NV] using this
   have k0:k≠0:=λz=>by
    subst z;have:=all 0 (A8 _);have nk':owner.getD i (some 0)=none:=nk;rw[Sb,nk'] at this;cases this
   obtain ⟨m,h1,h2,h3⟩:=Xy fuel (leap M i pe).1 (leap M i pe).2 (HY _ _ _) ⟨k-1,by lia,by
    have e:leaps M k (i,pe)=leaps M (k-1) (leap M i pe):=by
     obtain ⟨k',rfl⟩:∃k',k=k'+1:=⟨k-1,by lia⟩;rfl
    rw[e] at nk;exact nk⟩
   have sh:∀m,wayM M (Bw M (leap M i pe).1 (leap M i pe).2) m=wayM M (Bw M i pe) (FA M i-i+1+m):=λm=>by
    unfold wayM;rw[CP,Wb]
   rw[sh] at h1 h2;refine ⟨FA M i-i+1+m,h1,h2,λm' hm'=>?_⟩;by_cases c:m'<=FA M i-i
   ·rw[wy m' c]
    exact all m' c
   ·have:=h3 (m'-(FA M i-i+1)) (by lia)
    rw[sh,show FA M i-i+1+(m'-(FA M i-i+1))=m' by lia] at this;exact this
structure Own(M:Nat)(owner:Array (Option Nat))(hs:List Int):Prop where
 size:owner.size=M+1
 has:∀idx,idx<hs.length->∃j:Nat,owner[j]?=some (some idx)
 at_:∀(j idx:Nat),owner[j]?=some (some idx)->idx<hs.length/\∃m,wayM M (Bw M (bits (hs.getD idx 0)%(M+1)) (bits (hs.getD idx 0))) m=j/\∀m',m'<m->(owner.getD (wayM M (Bw M (bits (hs.getD idx 0)%(M+1)) (bits (hs.getD idx 0))) m') (some 0)).isSome=true
 one:∀(j j' idx:Nat),owner[j]?=some (some idx)->owner[j']?=some (some idx)->j=j'
theorem Own.start(M:Nat):Own M (UA (M+1) none) []:=by
 have no:∀(j idx:Nat),¬ (UA (M+1) (none:Option Nat))[j]?=some (some idx):=λj idx e=>by
  rw[Array.getElem?_replicate] at e;split at e<;>cases e
 exact ⟨Array.size_replicate ..,λidx h=>absurd h (by simp),λj idx e=>absurd e (no j idx),λj _ idx e=>absurd e (no j idx)⟩
theorem Own.free{M:Nat}{owner:Array (Option Nat)}{hs:List Int}(O:Own M owner hs)(h:hs.length<=M):∃j,j<M+1/\owner.getD j (some 0)=none:=by
 refine BO λc=>?_;have all:∀j,j<M+1->∃idx,owner[j]?=some (some idx):=λj hj=>by
  have hj':j<owner.size:=by rw[O.size];exact hj
  cases e:owner[j] with
  | none=>exact absurd ⟨j,hj,by simp[Ex,hj',e]⟩ c
  | some idx=>exact ⟨idx,by rw[Bz hj',e]⟩
 have key:∀n,n<=M+1->∃l:List Nat,l.length=n/\l.Nodup/\∀x∈l,∃j,j<n/\owner[j]?=some (some x):=by
  intro n
  induction n with
  | zero=>exact λ_=>⟨[],rfl,K7,λx hx=>by cases hx⟩
  | succ n ih =>
   intro hn;obtain ⟨l,l1,l2,l3⟩:=ih (by lia);obtain ⟨idx,e⟩:=all n (by lia);refine ⟨idx::l,by simp[l1],CU.mpr ⟨λhm=>?_,l2⟩,λx hx=>?_⟩
   ·obtain ⟨j,hj,ej⟩:=l3 idx hm
    have:=O.one _ _ _ ej e;lia
   ·rcases Be.mp hx with rfl | hx
    ·exact ⟨n,by lia,e⟩
    ·obtain ⟨j,hj,ej⟩:=l3 x hx
     exact ⟨j,by lia,ej⟩
 obtain ⟨l,l1,l2,l3⟩:=key (M+1) (AE _);have:=Br (l₂:=AI hs.length) l2 λx hx=>by
  obtain ⟨j,_,ej⟩:=l3 x hx;exact AS.mpr (O.at_ j x ej).1
 rw[BD] at this;lia
theorem TV{M:Nat}:∀(k:Nat) (x:Nat×Nat),x.1<=M->(leaps M k x).1<=M
 | 0,x,h=>h
 | k+1,x,h=>TV k (leap M x.1 x.2) (HY _ _ _)
theorem Zc{M:Nat}(a b:Nat)(x:Nat×Nat):leaps M (a+b) x=leaps M b (leaps M a x):=CP _ a b x
theorem Own.next{M:Nat}{owner:Array (Option Nat)}{hs:List Int}(hM:Mask M)(O:Own M owner hs)(hl:hs.length<=M)(h:Int) :
  ∃j,Kt M owner (NU M) (bits h%(M+1)) (bits h)=some j/\Own M (owner.setIfInBounds j (some hs.length)) (hs++[h]):=by
 obtain ⟨f,hf,nf⟩:=O.free hl;have hi:bits h%(M+1)<=M:=by
  have:=Mm (bits h) (show 0<M+1 by lia);lia
 have reach:∃k,k<NU M/\owner.getD (leaps M k (bits h%(M+1),bits h)).1 (some 0)=none:=by
  have p13:(leaps M 13 (bits h%(M+1),bits h)).2=0:=by
   rw[Er];exact Tx (CH (QF h) (by decide))
  have i13:=TV (M:=M) 13 (bits h%(M+1),bits h) hi;obtain ⟨k,hk,ek⟩:=Xz hM (i:=(leaps M 13 (bits h%(M+1),bits h)).1) (j:=f) (by lia) hf;refine ⟨13+k,by unfold NU;lia,?_⟩;have e:leaps M 13 (bits h%(M+1),bits h)=((leaps M 13 (bits h%(M+1),bits h)).1,0):=Kb rfl p13;rw[Zc,e,HF,ek];exact nf
 obtain ⟨m,h1,h2,h3⟩:=Xy (M:=M) (owner:=owner) (NU M) _ (bits h) hi reach;refine ⟨_,h1,?_⟩;generalize hj:wayM M (Bw M (bits h%(M+1)) (bits h)) m=j at h2;have hjs:j<owner.size:=by
  refine BO λc=>?_;have:owner.getD j (some 0)=some 0:=by simp[Ex,c]
  rw[this] at h2;cases h2
 have hjn:owner[j]?=some none:=by
  rw[Bz hjs];simp[Ex,hjs] at h2;rw[h2]
 have get:∀k,(owner.setIfInBounds j (some hs.length))[k]?=if k=j then some (some hs.length) else owner[k]?:=λk=>by
  rw[Array.getElem?_setIfInBounds];by_cases c:j=k
  ·subst c
   simp[hjs]
  ·rw[if_neg c,if_neg (DF c)]
 have some_of:∀k,(owner.getD k (some 0)).isSome=true->((owner.setIfInBounds j (some hs.length)).getD k (some 0)).isSome=true:=λk hk=>by
  rw[Hk,get];split
  ·rfl
  ·rw[Hk] at hk
   exact hk
 have gd:∀idx,idx<hs.length->(hs++[h]).getD idx 0=hs.getD idx 0:=λidx hi=>by
  rw[AD,AD,By hi]
 have gl:(hs++[h]).getD hs.length 0=h:=by rw[AD];simp
 refine ⟨by rw[IP];exact O.size,λidx hi=>?_,λk idx e=>?_,λk k' idx e e'=>?_⟩
 ·by_cases c:idx<hs.length
  ·obtain ⟨k,ek⟩:=O.has idx c
   refine ⟨k,?_⟩;rw[get,if_neg (λz=>by rw[z,hjn] at ek;cases ek)];exact ek
  ·have:idx=hs.length:=by simp at hi;lia
   exact ⟨j,by rw[get,if_pos rfl,this]⟩
 ·rw[get] at e
  by_cases c:k=j
  ·rw[if_pos c] at e
   have:hs.length=idx:=by simpa using e
   subst this;refine ⟨by simp,m,?_,λm' hm'=>?_⟩
   ·rw[gl,hj,c]
   ·rw[gl]
    exact some_of _ (h3 m' hm')
  ·rw[if_neg c] at e
   obtain ⟨i1,m1,w1,w2⟩:=O.at_ k idx e;refine ⟨by simp;lia,m1,?_,λm' hm'=>?_⟩
   ·rw[gd idx i1];exact w1
   ·rw[gd idx i1];exact some_of _ (w2 m' hm')
 ·rw[get] at e e'
  by_cases c:k=j
  ·by_cases c':k'=j
   ·rw[c,c']
   ·rw[if_pos c] at e
    rw[if_neg c'] at e';have:hs.length=idx:=by simpa using e
    have:=(O.at_ k' idx e').1;lia
  ·by_cases c':k'=j
   ·rw[if_neg c] at e
    rw[if_pos c'] at e';have:hs.length=idx:=by simpa using e'
    have:=(O.at_ k idx e).1;lia
   ·rw[if_neg c] at e
    rw[if_neg c'] at e';exact O.one _ _ _ e e'
set_option tactic.hygienic true in
theorem ACl{M:Nat}(hM:Mask M){hashes:Array Int}(h:hashes.size<=M):∃owner,layClean M hashes=some owner/\Own M owner hashes.toList:=by
 unfold layClean;rw[<- Array.foldl_toList];have key:∀(l done:List Int) (owner:Array (Option Nat)),Own M owner done->done.length+l.length<=M ->
   ∃owner',(l.foldl (λacc h=>do
    let (owner,k) <- acc
    let j <- Kt M owner (NU M) (bits h%(M+1)) (bits h)
    pure (owner.setIfInBounds j (some k),k+1)) (some (owner,done.length)))=some (owner',done.length+l.length)/\Own M owner' (done++l):=by
  intro l
  induction l with
  | nil=>exact λdone owner O _=>⟨owner,rfl,by rw[BI];exact O⟩
  | cons a t ih =>
   intro done owner O hl;simp at hl;obtain ⟨j,ej,O'⟩:=O.next hM (by lia) a
   obtain ⟨owner',e,O''⟩:=ih (done++[a]) _ O' (by simp;lia);refine ⟨owner',?_,by simpa using O''⟩;rw[OM];have:(do
    let (owner,k) <- some (owner,done.length)
    let j <- Kt M owner (NU M) (bits a%(M+1)) (bits a)
    pure (owner.setIfInBounds j (some k),k+1))=some (owner.setIfInBounds j (some done.length),done.length+1):=by
    show (do
     let j <- Kt M owner (NU M) (bits a%(M+1)) (bits a)
     pure (owner.setIfInBounds j (some done.length),done.length+1))=_
    rw[ej];rfl
   rw[this];rw[show (done++[a]).length=done.length+1 by simp] at e;rw[e];simp;lia
 obtain ⟨owner',e,O⟩:=key hashes.toList [] _ (Own.start M) (by simpa using h);refine ⟨owner',?_,by simpa using O⟩;have e':=congrArg (Option.map Prod.fst) e;exact e'
def pairs(owner:Array (Option Nat))(l:List Nat):List (Nat×Nat):=l.filterMap λj=>(owner.getD j none).map (j,·)
theorem Iu{owner:Array (Option Nat)}{l:List Nat}{j idx:Nat}:(j,idx)∈pairs owner l↔j∈l/\owner.getD j none=some idx:=by
 unfold pairs;rw[MV];constructor
 ·rintro⟨k,hk,e⟩
  cases o:owner.getD k none with
  | none=>rw[o] at e;cases e
  | some x =>
   rw[o] at e;have e':(k,x)=(j,idx):=BH e;cases e';exact ⟨hk,o⟩
 ·rintro⟨hj,e⟩
  exact ⟨j,hj,by rw[e];rfl⟩
theorem Kd{owner:Array (Option Nat)}:∀{l:List Nat},l.Pairwise (· < ·)->((pairs owner l).map (·.1)).Pairwise (· < ·)
 | [],_=>.nil
 | a::t,h=>by
  obtain ⟨h1,h2⟩:=Cf.mp h;have ih:=Kd (owner:=owner) h2;unfold pairs;rw[IS];cases o:owner.getD a none with
  | none=>exact ih
  | some x =>
   show ((a,x)::pairs owner t |>.map (·.1)).Pairwise (· < ·);rw[Cb];refine Cf.mpr ⟨λb hb=>?_,ih⟩;obtain ⟨⟨b',i⟩,hm,rfl⟩:=AY.mp hb;exact h1 b' (Iu.mp hm).1
theorem Fv:∀{l₁ l₂:List Nat},l₁.Nodup->(∀x∈l₁,x∈l₂)->l₂.length<=l₁.length->l₁.Perm l₂
 | [],l₂,_,_,h=>by
  have:l₂=[]:=G6.mp (by simpa using h);rw[this]
 | a::t,l₂,nd,hs,h=>by
  obtain ⟨n1,n2⟩:=CU.mp nd;have ha:a∈l₂:=hs a AC;have hp:=List.perm_cons_erase ha;have hl:(l₂.erase a).length=l₂.length-1:=E9 ha;have ih:=Fv (l₂:=l₂.erase a) n2 (λx hx=>(IA (λ(e:x=a)=>n1 (by rw[<- e];exact hx))).mpr (hs x (AG _ hx))) (by simp at h;lia);exact (Pl a ih).trans hp.symm
theorem ADt{M:Nat}(hM:Mask M){hashes:Array Int}(h:hashes.size<=M)(finger moves:Nat)(led plain:Bool) :
  ∃(place order:Array Nat),laid M finger moves led plain hashes=some ({mask:=M,place:=place,dummies:=#[],finger:=finger,led:=led,moves:=moves,plain:=plain},order) /\
   Tab {mask:=M,place:=place,dummies:=#[],finger:=finger,led:=led,moves:=moves,plain:=plain}/\place.size=hashes.size/\order.toList.Perm (AI hashes.size) /\
   Loc {mask:=M,place:=place,dummies:=#[],finger:=finger,led:=led,moves:=moves,plain:=plain} (order.toList.map λi=>hashes.toList.getD i 0):=by
 obtain ⟨owner,e,O⟩:=ACl hM h;have gd:∀j idx,owner.getD j none=some idx↔owner[j]?=some (some idx):=λj idx=>by
  rw[Hk];cases o:owner[j]? with
  | none=>simp
  | some x=>simp
 have rl:=JY (n:=M+1);have rise:=Kd (owner:=owner) rl;have mem:∀j idx,(j,idx)∈pairs owner (AI (M+1))↔owner[j]?=some (some idx):=λj idx=>by
  rw[Iu,gd];refine ⟨λz=>z.2,λz=>⟨AS.mpr ?_,z⟩⟩;have:=(C9.mp z).1;rw[O.size] at this;exact this
 have nd:((pairs owner (AI (M+1))).map (·.2)).Nodup:=by
  have r:=CS.mp rise;refine CS.mpr (r.imp_of_mem λ{a b} ha hb lt z=>?_);obtain ⟨a1,a2⟩:=a;obtain ⟨b1,b2⟩:=b;have z':a2=b2:=z;subst z';have:=O.one _ _ _ ((mem a1 a2).mp ha) ((mem b1 a2).mp hb);simp at lt;lia
 have sub:∀x∈(pairs owner (AI (M+1))).map (·.2),x∈AI hashes.size:=λx hx=>by
  obtain ⟨⟨j,i⟩,hm,rfl⟩:=AY.mp hx;have:=(O.at_ j i ((mem j i).mp hm)).1;exact AS.mpr (by simpa using this)
 have sup:∀x∈AI hashes.size,x∈(pairs owner (AI (M+1))).map (·.2):=λx hx=>by
  obtain ⟨j,ej⟩:=O.has x (by simpa using hx);exact AY.mpr ⟨(j,x),(mem j x).mpr ej,rfl⟩
 have l1:=Br D5 sup;have l2:=Br nd sub;rw[BD] at l1 l2;have perm:=Fv nd sub (by rw[BD];exact l1);have ll:(pairs owner (AI (M+1))).length=hashes.size:=by
  rw[AB] at l1 l2;lia
 refine ⟨((pairs owner (AI (M+1))).map (·.1)).toArray,((pairs owner (AI (M+1))).map (·.2)).toArray,?_,?_,?_,?_,?_⟩
 ·unfold laid
  rw[e];rfl
 ·refine ⟨hM,rfl,?_,λj hj=>?_,?_⟩
  ·show ((pairs owner (AI (M+1))).map (·.1)).toArray.size<=M
   rw[AZ,AB,ll];exact h
  ·have hj':j∈(pairs owner (AI (M+1))).map (·.1):=hj
   obtain ⟨⟨k,i⟩,hm,rfl⟩:=AY.mp hj';have:=AS.mp (Iu.mp hm).1;show k<=M;lia
  ·exact rise
 ·rw[AZ,AB,ll]
 ·exact perm
 ·intro idx j hh hj hh'
  have hj':((pairs owner (AI (M+1))).map (·.1))[idx]?=some j:=by simpa using hj
  have hh2:(((pairs owner (AI (M+1))).map (·.2)).map λi=>hashes.toList.getD i 0)[idx]?=some hh:=hh';rw[A2] at hj';rw[A2,A2] at hh2;cases o:(pairs owner (AI (M+1)))[idx]? with
  | none=>rw[o] at hj';cases hj'
  | some x =>
   obtain ⟨k,i⟩:=x;rw[o] at hj' hh2;have ek:k=j:=BH hj';have ei:hashes.toList.getD i 0=hh:=BH hh2;subst ek;obtain ⟨_,m,w1,w2⟩:=O.at_ k i ((mem k i).mp (Bi o));rw[ei] at w1 w2;refine ⟨m,w1,λm' hm'=>?_⟩;have z:=w2 m' hm';have hb:bits hh%(M+1)<=M:=by
    have:=Mm (bits hh) (show 0<M+1 by lia);lia
   have fine:Fine M (Bw M (bits hh%(M+1)) (bits hh)):=⟨Qv _ _,hb,hb,Vc hb,rfl⟩;have wl:wayM M (Bw M (bits hh%(M+1)) (bits hh)) m'<=M:=(fine.iter m').j;show wayM M (Bw M (bits hh%(M+1)) (bits hh)) m'∈(pairs owner (AI (M+1))).map (·.1);generalize wayM M (Bw M (bits hh%(M+1)) (bits hh)) m'=wv at z wl;have hw:wv<owner.size:=by rw[O.size];lia
   cases q:owner[wv] with
   | none =>
    have:owner.getD wv (some 0)=none:=by simp[Ex,hw,q]
    rw[this] at z;cases z
   | some i'=>exact AY.mpr ⟨(wv,i'),(mem wv i').mpr (by rw[Bz hw,q]),rfl⟩
section
variable{prog:AK}{w:AR}{A:B6}{E:Au->AA->Prop}{s:AA}
abbrev IK(prog:AK)(w:AR)(h:Heap)(ks:List Int)(a:Addr):Prop:=T9 (K5 prog w) h ks a
abbrev hsh(prog:AK)(w:AR)(ks:List Int):Int:=L9 (K5 prog w) ks
theorem RG{ks:List Int}{vs:List Au}(h:ItemsAre (K5 prog w) ks vs):∀v∈vs,∃n t,v=.int n t:=by
 induction h with
 | nil=>intro v hv;cases hv
 | cons h1 _ ih =>
  intro v hv;rcases Be.mp hv with rfl | hv
  ·obtain ⟨t,e⟩:=G3 h1
   exact ⟨_,t,e⟩
  ·exact ih v hv
theorem ACv{ks:List Int}{a:Addr}{Q:Bool->AA->Prop}(hk:IK prog w s.heap ks a)(h:Q true s):wpAny (AM prog w) A (hashByValue 8 (.ref a)) Q E s:=by
 have hT:=hk.typeIs;obtain ⟨o,items,n,ho,_,hd,hi⟩:=hk;have allI:=RG hi;unfold hashByValue;refine Ap (HG hT F.slot_tuple_hash.lookup ?_);show wpAny _ _ (VC (.ref a) >>= _) _ _ s;refine Ap (J2 ho hd ?_);refine Ap ?_;show wpAny _ _ (forIn items _ _) _ _ s;rw[<- JO];refine FK _ (λrest r s'=>r.1=none/\s'=s/\∀v∈rest,∃n t,v=KP n t) _ ?_ ?_ _ _ ⟨rfl,rfl,allI⟩
 ·rintro v rest r s' ⟨hr,rfl,hall⟩
  obtain ⟨n,t,rfl⟩:=hall v AC;refine Ap (wpAny_pure ?_);simp only[Ev,A7,if_false];exact wpAny_pure ⟨rfl,rfl,λu hu'=>hall u (AG _ hu')⟩
 ·rintro⟨r1,r2⟩ s' ⟨hr,rfl,_⟩
  simp only at hr;subst hr;exact wpAny_pure h
theorem Sg{ks:List Int}{a:Addr}{Q:Bool->AA->Prop}(hk:IK prog w s.heap ks a)(h:Q false s):wpAny (AM prog w) A (SD 8 (.ref a)) Q E s:=by
 have hT:=hk.typeIs;obtain ⟨o,items,n,ho,_,hd,hi⟩:=hk;have allI:=RG hi;unfold SD;refine Ap (KU hT ?_);show wpAny _ _ ((if ("tuple" == "tuple")=true then pure true else isSubtype (.type "tuple") (.type "tuple")) >>= _) _ _ s;rw[if_pos (by decide)];refine Ap (wpAny_pure ?_);simp only[Ev,A7,if_false];refine Ap (J2 ho hd ?_);show wpAny _ _ (forIn items _ _ >>= _) _ _ s;refine Ap ?_;rw[<- JO];refine FK _ (λrest r s'=>r.1=none/\s'=s/\∀v∈rest,∃n t,v=KP n t) _ ?_ ?_ _ _ ⟨rfl,rfl,allI⟩
 ·rintro v rest r s' ⟨hr,rfl,hall⟩
  obtain ⟨n,t,rfl⟩:=hall v AC;refine Ap (wpAny_pure ?_);simp only[A7,if_false];exact wpAny_pure ⟨rfl,rfl,λu hu'=>hall u (AG _ hu')⟩
 ·rintro⟨r1,r2⟩ s' ⟨hr,rfl,_⟩
  simp only at hr;subst hr;exact wpAny_pure h
theorem ACm{ks:List Int}{a:Addr}{Q:Bool->AA->Prop}(hk:IK prog w s.heap ks a)(stored:List Au)(hst:∀v∈stored,∃k b,v=.ref b/\IK prog w s.heap k b)(h:Q false s):wpAny (AM prog w) A (SE (.ref a) stored) Q E s:=by
 unfold SE;refine Ap ?_;refine FK _ (λrest r s'=>r.1=none/\s'=s/\∀v∈rest,∃k b,v=AV b/\IK prog w s.heap k b) _ ?_ ?_ _ _ ⟨rfl,rfl,hst⟩
 ·rintro v rest r s' ⟨hr,rfl,hall⟩
  have tl:∀u∈rest,∃k b,u=AV b/\IK prog w s'.heap k b:=λu hu'=>hall u (AG _ hu');obtain ⟨k,b,rfl,hb⟩:=hall v AC;dsimp only;by_cases c:(a==b)=true
  ·rw[if_pos (by rw[c];rfl)]
   exact wpAny_pure ⟨rfl,rfl,tl⟩
  ·rw[if_neg (by simp[c,U1])]
   refine Ap (Pm hk ?_);simp only[Ev,A7,if_false];refine Ap (Pm hb ?_);simp only[Ev,A7,if_false];refine Ap (Sg hk ?_);simp only[A7,if_false];refine Ap (Sg hb ?_);simp only[A7,if_false];exact wpAny_pure ⟨rfl,rfl,tl⟩
 ·rintro⟨r1,r2⟩ s' ⟨hr,rfl,_⟩
  simp only at hr;subst hr;exact wpAny_pure h
end
theorem Wn{P:Nat->Prop}:∀(m:Nat),P m->∃n,P n/\∀n',n'<n->¬ P n':=by
 intro m
 induction m using Nat.strongRecOn with
 | ind m ih =>
  intro h;by_cases c:∃n,n<m/\P n
  ·obtain ⟨n,hn,hp⟩:=c
   exact ih n hn hp
  ·exact ⟨m,h,λn' hn' hp=>c ⟨n',hn',hp⟩⟩
def ledOf(w:AR):Bool:=!w.params.followText "set-order"
structure TS(prog:AK)(w:AR)(h:Heap)(S:Addr)(es:Array (Int×Au))(t:C7)(ks:List (List Int×Addr)):Prop where
 obj:∃o ep,h.get? S=some o/\o.ExactSet/\o.data=.set es ep t
 tab:Tab t
 len:es.size=t.place.size
 loc:Loc t (es.toList.map (·.1))
 els:es.toList=ks.map λx=>(hsh prog w x.1,AV x.2)
 nd:(ks.map (·.1)).Nodup
 few:t.place.size*5<t.mask*3
 pl:t.plain=true
 ld:t.led=ledOf w
theorem Wz{t:C7}(T:Tab t):t.fill=t.place.size:=by unfold fill;rw[T.none];rfl
theorem Gi{t:C7}(T:Tab t){n:Nat}(e:n=t.place.size):t.fits n=true:=by
 unfold SetTable.fits;rw[Wz T,e];have:=T.size;simp[this]
section
variable{prog:AK}{w:AR}{A:B6}{E:Au->AA->Prop}{s:AA}{S:Addr}{es:Array (Int×Au)}{t:C7}{ks:List (List Int×Addr)}
theorem TS.at_{h:Heap}(X:TS prog w h S es t ks){i:Nat}{j:Nat}(hi:t.place[i]?=some j):∃x,ks[i]?=some x/\es[i]?=some (hsh prog w x.1,AV x.2):=by
 have hl:=(C9.mp hi).1;have hle:i<es.toList.length:=by rw[AX,X.len];exact hl
 cases o:ks[i]? with
 | none =>
  have l2:=congrArg Fh X.els;rw[AB] at l2;have:=List.getElem?_eq_none_iff.mp o;lia
 | some x =>
  refine ⟨x,rfl,?_⟩;rw[<- B8,X.els,A2,o];rfl
theorem Oa{t:C7}(T:Tab t){i i' j:Nat}(h:t.place[i]?=some j)(h':t.place[i']?=some j):i=i':=by
 obtain ⟨a,ea⟩:=C9.mp h;obtain ⟨b,eb⟩:=C9.mp h';have r:=C3.mp T.rise;rcases NL i i' with c | c | c
 ·have:=r i i' (by simpa using a) (by simpa using b) c
  simp at this;lia
 ·exact c
 ·have:=r i' i (by simpa using b) (by simpa using a) c
  simp at this;lia
set_option tactic.hygienic true in
theorem AAH{k:List Int}{a:Addr}(X:TS prog w s.heap S es t ks)(hK:∀x∈ks,IK prog w s.heap x.1 x.2)(hk:IK prog w s.heap k a)(hu:A.units<CO){N:Nat}
  (hN:way t (t.probeStart (hsh prog w k)) N∉t.place.toList) (hB:∀m,m<N->way t (t.probeStart (hsh prog w k)) m∈t.place.toList) {Q:SetFound->AA->Prop}
  (h1:k∈ks.map (·.1)->Q (.there none) s) (h2:k∉ks.map (·.1)->Q (.free (way t (t.probeStart (hsh prog w k)) N) false) s) :
  ∀(fuel c:Nat) (stand:Option IC),c<=N->N-c<fuel->stand.getD (t.probeStart (hsh prog w k))=SB.iter (step t.mask) c (t.probeStart (hsh prog w k)) ->
   (∀m,m<c->∀(i:Nat) (x:List Int×Addr),t.place[i]?=some (way t (t.probeStart (hsh prog w k)) m)->ks[i]?=some x->x.1≠k) ->
   wpAny (AM prog w) A (NC S (.ref a) (hsh prog w k) true fuel stand) Q E s:=by
 obtain ⟨o,ep,ho,hex,hd⟩:=X.obj;have hf:=Gi X.tab X.len;intro fuel
 induction fuel with
 | zero=>intro c stand _ h;lia
 | succ fuel ih =>
  intro c stand hc hfu hst hV;unfold NC;refine Ap (FB ho hd hf ?_);dsimp only;have hg:t.gaveWay=false:=by
   unfold SetTable.gaveWay;rcases X.tab.mask with e | e | e | e<;>rw[e]<;>decide
  rw[hg];simp only[A7,if_false];have fine:Fine t.mask (SB.iter (step t.mask) c (t.probeStart (hsh prog w k))):=(Fine.start t _).iter c;have hb:(SB.iter (step t.mask) c (t.probeStart (hsh prog w k))).perturb<2 ^ 64:=E7 (Lz c _) (QF _);obtain ⟨m,hm,hcase⟩:=ABM X.tab (hashAt:=λi=>(es[i]?.map (·.1)).getD 0) (h:=hsh prog w k) fine hb;have wy:∀m,way t (SB.iter (step t.mask) c (t.probeStart (hsh prog w k))) m=way t (t.probeStart (hsh prog w k)) (c+m):=λm=>by
   unfold way;rw[CP]
  have inpl:∀{i j:Nat},t.place[i]?=some j->j∈t.place.toList:=λ{i j} e=>by
   rw[DA];exact ⟨i,by rw[B8];exact e⟩
  have hV':∀m',m'<c+m->∀(i:Nat) (x:List Int×Addr),t.place[i]?=some (way t (t.probeStart (hsh prog w k)) m')->ks[i]?=some x->x.1≠k:=λm' hm' i x hi hx ek=>by
   by_cases z:m'<c
   ·exact hV m' z i x hi hx ek
   ·obtain ⟨i',hi',hne⟩:=hm (m'-c) (by lia)
    rw[wy,show c+(m'-c)=m' by lia] at hi';have:=Oa X.tab hi hi';subst this;obtain ⟨y,hy,ey⟩:=X.at_ hi;rw[hx] at hy;cases hy;refine hne ?_;show ((es[i]?.map (·.1)).getD 0)=_;rw[ey,<- ek];rfl
  have ltN:way t (t.probeStart (hsh prog w k)) (c+m)∈t.place.toList->c+m<N:=λz=>by
   refine BO λzz=>?_;by_cases q:c+m=N
   ·rw[q] at z;exact hN z
   ·obtain ⟨i',hi',_⟩:=hm (N-c) (by lia)
    rw[wy,show c+(N-c)=N by lia] at hi';exact hN (inpl hi')
  split
  ·rename_i met heq
   rw[hst] at heq;rcases hcase with⟨hne,e⟩ | ⟨i,hi,hsl,hhash,e⟩
   ·obtain rfl:=BH (heq.symm.trans e)
    dsimp only;have hcN:c+m=N:=by
     rw[wy] at hne;refine BO λq=>?_;by_cases z:c+m<N
     ·exact hne (hB _ z)
     ·obtain ⟨i',hi',_⟩:=hm (N-c) (by lia)
      rw[wy,show c+(N-c)=N by lia] at hi';exact hN (inpl hi')
    rw[wy,hcN];refine wpAny_pure (h2 λhmem=>?_);obtain ⟨x,hx,ex⟩:=AY.mp hmem;obtain ⟨i,hi⟩:=DA.mp hx;have hil:i<t.place.size:=by
     have l1:=(AL.mp hi).1;have l2:=congrArg Fh X.els;rw[AB,AX,X.len] at l2;lia
    obtain ⟨m1,w1,w2⟩:=X.loc i t.place[i] (hsh prog w x.1) (Bz hil) (by rw[X.els,DS,A2,hi];rfl);rw[ex] at w1 w2;have hm1:m1<N:=by
     refine BO λq=>?_;by_cases z:m1=N
     ·subst z
      rw[w1] at hN;exact hN (inpl (Bz hil))
     ·exact hN (w2 N (by lia))
    exact hV' m1 (by lia) i x (by rw[w1];exact Bz hil) hi ex
   ·obtain rfl:=BH (heq.symm.trans e)
    dsimp only;rw[wy] at hi hsl ⊢;have hlt:=ltN (inpl hi);obtain ⟨x,hx,hes⟩:=X.at_ hi;have hxb:=hK x (Bi hx);have tail:wpAny (AM prog w) A (do
      let some (_,y):=es[i]? | unsupported "internal:set-entry"
      let equal <- MC [y] (eqBool y (.ref a))
      let (es',_,t') <- setState S
      if true&&equal then return .there none
      let some same:=t'.sameMemory t.moves t.mask | unsupported "set.changed-during-lookup:is-the-new-block-at-the-old-address"
      let still <- match (if same then t'.slot (way t (t.probeStart (hsh prog w k)) (c+m)) else .empty) with
       | .live i'=>match es'[i']? with
        | some (_,y')=>do pure (if <- isSame y' y then some i' else none)
        | none=>pure none
       | _=>pure none
      match still with
      | none=>rule "set.search.anew";NC S (.ref a) (hsh prog w k) true fuel none
      | some i'=>if equal then return .there (some i') else NC S (.ref a) (hsh prog w k) true fuel (some (SB.iter (step t.mask) (m+1) (SB.iter (step t.mask) c (t.probeStart (hsh prog w k)))))) Q E s:=by
     rw[hes];dsimp only;refine Ap (D0 (R8 hu hxb hk ?_));refine Ap (FB ho hd hf ?_);dsimp only;by_cases ek:x.1=k
     ·rw[decide_eq_true ek]
      simp only[VX,if_true];exact wpAny_pure (h1 (AY.mpr ⟨x,Bi hx,ek⟩))
     ·rw[decide_eq_false ek]
      simp only[U2,A7,if_false];have sm:t.sameMemory t.moves t.mask=some true:=by unfold sameMemory;simp
      rw[sm];dsimp only;simp only[if_true,hsl];rw[hes];dsimp only;refine Ap (wpAny_isSame_ref_self ?_);simp only[if_true];refine Ap (wpAny_pure ?_);dsimp only;refine ih (c+m+1) _ (by lia) (by lia) ?_ ?_
      ·show SB.iter (step t.mask) (m+1) (SB.iter (step t.mask) c (t.probeStart (hsh prog w k)))=_
       rw[<- CP];rfl
      ·intro m' hm' i' x' hi' hx' ek'
       by_cases z:m'<c+m
       ·exact hV' m' z i' x' hi' hx' ek'
       ·have:m'=c+m:=by lia
        subst this;have:=Oa X.tab hi hi';subst this;rw[hx] at hx';cases hx';exact ek ek'
    cases hled:t.led with
    | true =>
     simp only[Ev,A7,if_false];exact tail
    | false =>
     simp only[ML,if_true];refine Ap (ACm hk _ ?_ ?_)
     ·intro v hv
      obtain ⟨e',he',rfl⟩:=AY.mp hv;have he2:e'∈es.toList:=by
       have:e'∈es/\e'.fst=hsh prog w k:=by simpa using he'
       simpa using this.1
      rw[X.els] at he2;obtain ⟨y,hy,rfl⟩:=AY.mp he2;exact ⟨y.1,y.2,rfl,hK y hy⟩
     ·simp only[A7,if_false]
      exact tail
  ·rename_i hno
   rcases hcase with⟨_,e⟩ | ⟨i,_,_,_,e⟩
   ·exact (hno _ (by rw[hst];exact e)).elim
   ·exact (hno _ (by rw[hst];exact e)).elim
end
theorem HX{α:Type}{l:List α}(d:α):∀{order:List Nat},(∀i∈order,i<l.length)->order.filterMap (λi=>l[i]?)=order.map λi=>l.getD i d
 | [],_=>rfl
 | i::r,h=>by
  have hi:=h i AC;rw[IS,AJ hi,Cb,HX d λj hj=>h j (AG _ hj)];simp[AD,hi]
theorem VP{α:Type}(l:List α):(AI l.length).filterMap (λi=>l[i]?)=l:=by
 cases l with
 | nil=>rfl
 | cons d r =>
  rw[HX d λi hi=>AS.mp hi];apply EV;intro i;by_cases hi:i<(d::r).length
  ·rw[A2,D8 hi,AJ hi]
   show some ((d::r).getD i d)=_;rw[AD,AJ hi];rfl
  ·rw[Ee (by simpa using hi),Ee (by lia)]
theorem JF{α:Type}{l:List α}{order:List Nat}(h:order.Perm (AI l.length)):(order.filterMap λi=>l[i]?).Perm l:=by
 have:=h.filterMap λi=>l[i]?;rw[VP] at this;exact this
section
variable{prog:AK}{w:AR}{A:B6}{E:Au->AA->Prop}{s:AA}{S:Addr}{es:Array (Int×Au)}{t:C7}{ks:List (List Int×Addr)}
theorem stored{h:Heap}{o:Obj}{ep:Nat}(ho:h.get? S=some o)(hex:o.ExactSet)(hd:o.data=.set es ep t)(es':Array (Int×Au))(t':C7) :
  ∃o' ep',(h.update S (UB es' t')).get? S=some o'/\o'.ExactSet/\o'.data=.set es' ep' t':=by
 have hg:(h.update S (UB es' t')).get? S=some {o with data:=.set es' (ep+1) t'}:=by
  have:=EH (UB es' t') ho (by rw[putSet_of es' t' hd];rfl);rw[putSet_of es' t' hd] at this;exact this
 exact ⟨_,_,hg,hex,rfl⟩
theorem AAc{h:Heap}(hs:s.heap=h){o:Obj}{ep:Nat}(ho:h.get? S=some o)(hex:o.ExactSet)(hd:o.data=.set es ep t)(T:Tab t)(hl:es.size=t.place.size)(hel:es.toList=ks.map λx=>(hsh prog w x.1,AV x.2))
  (nd:(ks.map (·.1)).Nodup) (hfull:t.mask*3<=t.place.size*5) (hfew:(t.place.size-1)*5<t.mask*3) (h61:ks.length<=301) (hpl:t.plain=true) (hld:t.led=ledOf w) {Q:Unit->AA->Prop}
  (q:∀h' es' t' ks',ES S h h'->TS prog w h' S es' t' ks'->ks'.Perm ks->Q () {s with heap:=h'}) :
  wpAny (AM prog w) A (XE S (UC es.size)) Q E s:=by
 subst hs;have hks:ks.length=es.size:=by
  have:=congrArg Fh hel;rw[AB,AX] at this;exact this.symm
 have key:∃M,sizeAbove (UC es.size)=M+1/\Mask M/\es.size<=M/\es.size*5<M*3:=by
  rcases T.mask with e | e | e | e
  ·have:es.size=5:=by rw[e] at hfull hfew;lia
   rw[this];exact ⟨31,by decide,.inr (.inl rfl),by decide,by decide⟩
  ·have:es.size=19:=by rw[e] at hfull hfew;lia
   rw[this];exact ⟨127,by decide,.inr (.inr (.inl rfl)),by decide,by decide⟩
  ·have:es.size=77:=by rw[e] at hfull hfew;lia
   rw[this];exact ⟨511,by decide,.inr (.inr (.inr rfl)),by decide,by decide⟩
  ·rw[e] at hfull
   lia
 obtain ⟨M,eM,hM,hle,hfew'⟩:=key;unfold XE;refine Ap (FB ho hd (Gi T hl) ?_);dsimp only;have hz:¬ (sizeAbove (UC es.size)>sizeLine):=by
  rw[eM,FX];rcases hM with e | e | e | e<;>lia
 rw[if_neg hz];obtain ⟨place,order,el,T2,hps,hpo,L2⟩:=ADt hM (hashes:=es.map (·.1)) (by simpa using hle) t.finger (t.movedTo M) t.led t.plain;have erl:t.relaid (es.map (·.1)) (UC es.size)=some ({mask:=M,place:=place,dummies:=#[],finger:=t.finger,led:=t.led,moves:=t.movedTo M,plain:=t.plain},order):=by
  unfold relaid;rw[eM];exact el
 refine Ap ?_;show wpAny _ _ (do
  let some (t,order):=t.relaid (es.map (·.1)) (UC es.size) | unsupported "internal:set-table-without-room"
  let es':=order.filterMap (es[·]?)
  if es'.size != es.size then unsupported "internal:set-table-lost-an-element"
  pure (es',t)) _ _ _
 rw[erl];dsimp only;have hsz:(es.map (·.1)).size=es.toList.length:=by simp
 rw[hsz] at hpo;have ef:(order.filterMap (es[·]?)).toList=order.toList.filterMap λi=>es.toList[i]?:=by
  rw[Array.toList_filterMap]
  congr 1
  funext i
  rw[B8]
 have hp:=JF hpo;have hes:(order.filterMap (es[·]?)).size=es.size:=by
  rw[<- AX,ef,hp.length_eq,AX]
 rw[if_neg (by rw[hes];simp)];refine wpAny_pure ?_;dsimp only;refine SF ho hd ?_ (by rw[hes,FX];rcases hM with e | e | e | e<;>lia);obtain ⟨o',ep',ho',hex',hd'⟩:=stored ho hex hd (order.filterMap (es[·]?)) {mask:=M,place:=place,dummies:=#[],finger:=t.finger,led:=t.led,moves:=t.movedTo M,plain:=t.plain};have hpk:(order.toList.filterMap λi=>ks[i]?).Perm ks:=JF (by rw[AX] at hpo;rw[hks];exact hpo);refine q _ _ _ (order.toList.filterMap λi=>ks[i]?) (D7 ..) ⟨⟨o',ep',ho',hex',hd'⟩,T2,?_,?_,?_,?_,?_,hpl,hld⟩ hpk
 ·rw[hes,hps];simp
 ·have e1:(order.filterMap (es[·]?)).toList.map (·.1)=order.toList.map λi=>(es.map (·.1)).toList.getD i 0:=by
   rw[ef,HX (0,CY) (λi hi=>by have:=AS.mp (hpo.mem_iff.mp hi);exact this),DS];refine G9 λi hi=>?_;have hi':i<es.toList.length:=AS.mp (hpo.mem_iff.mp hi);have hi2:i<es.size:=by simpa using hi'
   show (es.toList.getD i (0,CY)).1=_;simp[AD,hi2]
  rw[e1];exact L2
 ·rw[ef,hel,List.map_filterMap]
  congr 1
  funext i
  rw[A2]
 ·exact (MA (hpk.map (·.1))).mpr nd
 ·show place.size*5<M*3
  rw[hps];simpa using hfew'
def Added(ks:List (List Int×Addr))(k:List Int)(a:Addr)(ks':List (List Int×Addr)):Prop:=(k∈ks.map (·.1)/\ks'=ks)\/(k∉ks.map (·.1)/\ks'.Perm ((k,a)::ks))
theorem Wh{k:List Int}{a:Addr}(X:TS prog w s.heap S es t ks)(hK:∀x∈ks,IK prog w s.heap x.1 x.2)(hk:IK prog w s.heap k a)(hu:A.units<CO)(h60:ks.length<=300){Q:Bool->AA->Prop}
  (q:∀b h' es' t' ks',ES S s.heap h'->TS prog w h' S es' t' ks'->Added ks k a ks'->Q b {s with heap:=h'}) :
  wpAny (AM prog w) A (setAddHashed S (.ref a) (hsh prog w k)) Q E s:=by
 obtain ⟨o,ep,ho,hex,hd⟩:=X.obj;have hf:=Gi X.tab X.len;have fine:Fine t.mask (t.probeStart (hsh prog w k)):=Fine.start t _;have hks:ks.length=t.place.size:=by
  have:=congrArg Fh X.els;rw[AB,AX,X.len] at this;exact this.symm
 obtain ⟨m0,hm0,nm0⟩:=Mx X.tab.mask X.tab.size fine (QF (hsh prog w k));obtain ⟨N,hN,hNmin⟩:=Wn (P:=λm=>way t (t.probeStart (hsh prog w k)) m∉t.place.toList) m0 nm0;have hNle:N<=m0:=BO λc=>hNmin m0 (by lia) nm0;have hB:∀m,m<N->way t (t.probeStart (hsh prog w k)) m∈t.place.toList:=λm hm=>BO λc=>hNmin m hm c;have hM:t.mask<=511:=by rcases X.tab.mask with e | e | e | e<;>lia
 unfold setAddHashed setAddHashedIn;refine D0 (Ap (FB ho hd hf ?_));dsimp only;have hbs:byScan (.ref a) es=false:=rfl;rw[hbs];simp only[A7,if_false];unfold setSearch;refine Ap (AAH X hK hk hu hN hB ?_ ?_ 100000 0 none (A8 _) (by unfold NU at hm0;lia) rfl (λm hm=>absurd hm (by lia)))
 ·intro hmem
  exact wpAny_pure (by
   have:=q false s.heap es t ks (YY S s.heap) X (.inl ⟨hmem,rfl⟩);exact this)
 ·intro hnm
  dsimp only;refine Ap (FB ho hd hf ?_);dsimp only;generalize hj:way t (t.probeStart (hsh prog w k)) N=j;have P:Put t j:=by
   refine ⟨?_,?_,?_⟩
   ·rw[<- hj];exact (fine.iter N).j
   ·rw[<- hj];exact hN
   ·have:=X.few
    rcases X.tab.mask with e | e | e | e<;>rw[e] at this ⊢<;>lia
  have T1:=ADw X.tab P;have L1:=ACx X.tab (by rw[AB,AX,X.len]) X.loc hB;rw[hj] at L1;obtain ⟨e1,e2⟩:=Ii X.tab (j:=j);have b3:=(FJ (j:=j) X.tab.rise).2.2;have pm:(t.put j).1.mask=t.mask:=by rw[e1]
  have pp:(t.put j).1.plain=true:=by rw[e1];exact X.pl
  have pd:(t.put j).1.led=ledOf w:=by rw[e1];exact X.ld
  have ps:(t.put j).1.place.size=t.place.size+1:=by
   rw[e1];have:=congrArg Fh (BX t.place (below t.place j) j);simp at this;show (Eg t.place (below t.place j) j).size=_;lia
  rw[e2] at L1;generalize hp:below t.place j=p at *;generalize ht1:(t.put j).1=t1 at *;have hes1:(Eg es p (hsh prog w k,AV a)).toList=(ks.take p++[(k,a)]++ks.drop p).map λx=>(hsh prog w x.1,AV x.2):=by
   rw[BX,X.els,BU,BU,QQ,QR];rfl
  have hsz1:(Eg es p (hsh prog w k,AV a)).size=es.size+1:=by
   have:=congrArg Fh (BX es p (hsh prog w k,AV a));simp at this;have:=X.len;lia
  have hperm:(ks.take p++[(k,a)]++ks.drop p).Perm ((k,a)::ks):=by
   have:=List.perm_middle (a:=(k,a)) (l₁:=ks.take p) (l₂:=ks.drop p);rw[FV] at this;rw[CD];exact this
  have nd1:((ks.take p++[(k,a)]++ks.drop p).map (·.1)).Nodup:=(MA (hperm.map (·.1))).mpr (by rw[Cb];exact CU.mpr ⟨hnm,X.nd⟩);have hl1:(Eg es p (hsh prog w k,AV a)).toList.map (·.1)=(es.toList.map (·.1)).take p++[hsh prog w k]++(es.toList.map (·.1)).drop p:=by
   rw[BX,BU,BU,QQ,QR];rfl
  have e3:(t.put j).2=p:=e2;have go:∀(t2:C7),Tab t2->t2.mask=t1.mask->t2.place=t1.place->t2.plain=true->t2.led=ledOf w->wpAny (AM prog w) A (do
    storeSet S (Eg es p (hsh prog w k,AV a)) t2
    if (!false&&t2.tooFull)=true then do
     XE S (UC (es.size+1))
     pure true
    else pure true) Q E s:=by
   intro t2 T2 m2 p2 q2 r2;refine Ap (SF ho hd ?_ (by rw[hsz1,FX];have:=X.len;lia));obtain ⟨o',ep',ho',hex',hd'⟩:=stored ho hex hd (Eg es p (hsh prog w k,AV a)) t2;have L2:Loc t2 ((Eg es p (hsh prog w k,AV a)).toList.map (·.1)):=by
    rw[hl1];intro idx jj h' a1 a2;rw[p2] at a1;obtain ⟨m,w1,w2⟩:=L1 idx jj h' a1 a2;refine ⟨m,?_,λm' hm'=>?_⟩
    ·unfold way probeStart at w1 ⊢
     rw[m2];exact w1
    ·have:=w2 m' hm'
     unfold way probeStart at this ⊢;rw[m2,p2];exact this
   have tf:t2.tooFull=decide (t.mask*3<=(t.place.size+1)*5):=by
    unfold tooFull;rw[Wz T2,p2,m2,ps,pm]
   rw[tf];by_cases c:t.mask*3<=(t.place.size+1)*5
   ·rw[decide_eq_true c]
    simp only[ML,VX,if_true];rw[<- hsz1];refine Ap (AAc (ks:=ks.take p++[(k,a)]++ks.drop p) rfl ho' hex' hd' T2 (by rw[hsz1,p2,ps,X.len]) hes1 nd1 ?_ ?_ ?_ q2 r2 ?_)
    ·rw[p2,m2,ps,pm];exact c
    ·rw[p2,m2,ps,pm]
     have:=X.few;lia
    ·rw[hperm.length_eq]
     simp;lia
    ·intro h' es' t' ks' sb X' pk
     exact wpAny_pure (q true h' es' t' ks' ((D7 ..).trans sb) X' (.inr ⟨hnm,pk.trans hperm⟩))
   ·rw[decide_eq_false c]
    simp only[U2,A7,if_false];exact wpAny_pure (q true _ _ t2 _ (D7 ..) ⟨⟨o',ep',ho',hex',hd'⟩,T2,by rw[hsz1,p2,ps,X.len],L2,hes1,nd1,by rw[p2,m2,ps,pm];lia,q2,r2⟩ (.inr ⟨hnm,hperm⟩))
  rw[e3];simp only[pp,if_true];refine Ap (ACv hk ?_);simp only[if_true];exact go t1 T1 rfl rfl pp pd
theorem AFn{k:List Int}{a:Addr}(X:TS prog w s.heap S es t ks)(hK:∀x∈ks,IK prog w s.heap x.1 x.2)(hk:IK prog w s.heap k a)(hu:A.units<CO)(h60:ks.length<=300){Q:Bool->AA->Prop}
  (q:∀b h' es' t' ks',ES S s.heap h'->TS prog w h' S es' t' ks'->Added ks k a ks'->Q b {s with heap:=h',toks:=s.toks+(k.length+1)}) :
  wpAny (AM prog w) A (setAdd S (.ref a)) Q E s:=by
 unfold setAdd;refine D0 ?_;refine Ap (R7 hu hk ?_);exact Wh (s:={s with toks:=s.toks+(k.length+1)}) X hK hk hu h60 λb h' es' t' ks' sb X' ad=>q b h' es' t' ks' sb X' ad
end
structure Of(vals:Nat->List Int×Addr)(i:Nat)(ks:List (List Int×Addr)):Prop where
 sub:∀x∈ks,∃j,j<i/\x=vals j
 sup:∀j,j<i->(vals j).1∈ks.map (·.1)
 len:ks.length<=i
theorem Of.next{vals:Nat->List Int×Addr}{i:Nat}{ks ks':List (List Int×Addr)}(h:Of vals i ks)(a:Added ks (vals i).1 (vals i).2 ks'):Of vals (i+1) ks':=by
 rcases a with⟨hm,rfl⟩ | ⟨hm,p⟩
 ·refine ⟨λx hx=>?_,λj hj=>?_,by have:=h.len;lia⟩
  ·obtain ⟨j,hj,e⟩:=h.sub x hx
   exact ⟨j,by lia,e⟩
  ·by_cases c:j=i
   ·rw[c];exact hm
   ·exact h.sup j (by lia)
 ·refine ⟨λx hx=>?_,λj hj=>?_,by rw[p.length_eq];have:=h.len;simp;lia⟩
  ·rcases Be.mp (p.mem_iff.mp hx) with e | hx
   ·exact ⟨i,by lia,e⟩
   ·obtain ⟨j,hj,e⟩:=h.sub x hx
    exact ⟨j,by lia,e⟩
  ·have pm:=(p.map (·.1)).mem_iff (a:=(vals j).1)
   by_cases c:j=i
   ·subst c
    exact pm.mpr (by rw[Cb];exact AC)
   ·exact pm.mpr (by rw[Cb];exact AG _ (h.sup j (by lia)))
section
variable{prog:AK}{w:AR}{A:B6}{s:AA}
theorem Gf{h h':Heap}{k:List Int}{a:Addr}(hk:IK prog w h k a)(e:∀o,h.get? a=some o->h'.get? a=some o):IK prog w h' k a:=by
 obtain ⟨o,items,n,ho,r⟩:=hk;exact ⟨o,items,n,e o ho,r⟩
theorem YK{h h':Heap}{S:Addr}{es:Array (Int×Au)}{t:C7}{ks:List (List Int×Addr)}(X:TS prog w h S es t ks)(e:∀o,h.get? S=some o->h'.get? S=some o):TS prog w h' S es t ks:=by
 obtain ⟨o,ep,ho,r⟩:=X.obj;exact ⟨⟨o,ep,e o ho,r⟩,X.tab,X.len,X.loc,X.els,X.nd,X.few,X.pl,X.ld⟩
end
theorem ABt{prog:AK}{w:AR}{h:Heap}{S:Addr}{led:Bool}(hw:led=ledOf w)(hg:h.get? S=some {cls:=.type "set",dict:=none,data:=.set #[] 0 (.fresh 0 0 led)}):TS prog w h S #[] (.fresh 0 0 led) []:=by
 refine ⟨⟨_,0,hg,⟨rfl,rfl,rfl⟩,rfl⟩,⟨.inl rfl,rfl,A8 _,λj hj=>(by cases hj),.nil⟩,rfl,λidx j h' a=>?_,rfl,.nil,by show 0*5<7*3;decide,rfl,hw⟩;cases a
section
variable{prog:AK}{w:AR}{A:B6}{E:Au->AA->Prop}{s:AA}
theorem ABs(a:Au){Q₁:Au->AA->Prop}(h:Q₁ (.ref s.heap.objs.size) {s with heap:=s.heap.push {cls:=.type "set",dict:=none,data:=.set #[] 0 (.fresh 0 0 (ledOf w))}}) :
  codeAny (AM prog w) A (.call (.builtin "set.__new__") ⟨[.type "set",a],[]⟩) (wants Q₁ E) s:=by
 refine UD ?_;show wpAny _ A.in1 (checkBuiltinCall "set.__new__" ⟨[.type "set",a],[]⟩ >>= λ_=>again (.builtin "set.__new__" ⟨[.type "set",a],[]⟩)) _ _ s;refine Ap (LL (F.newCall_set_1 a) (wpAny_pure ⟨LP UE _,EW F.entry_set_new ?_⟩));rw[Fs UE _];unfold Builtin.«set.__new__» VY;have sself:=sub_set_self;obtain ⟨hp,g,d,tk,os⟩:=s;dsimp only
 wp_walk
 refine Kj (wpAny_pure ?_);dsimp only;simp only[newObj];refine Ap (wpAny_alloc (wpAny_pure ?_));exact wpAny_pure h
end
theorem ABx{α:Type}{l:List α}:∀{k:Nat}{y:α},l[k]?=some y->(y::l.eraseIdx k).Perm l:=by
 induction l with
 | nil=>intro k y h;simp at h
 | cons a t ih =>
  intro k y h;cases k with
  | zero =>
   obtain rfl:a=y:=by simpa using h
   exact K8 _
  | succ k =>
   have h':t[k]?=some y:=by simpa using h
   exact (Po a y _).trans (Pl a (ih h'))
set_option tactic.hygienic true in
theorem YT{α:Type}(next:Nat->Nat):∀(fuel k:Nat) (left:List α) (out:Array α),left.length<=fuel->(XG next fuel k left out).toList.Perm (out.toList++left)
 | 0,k,left,out,h=>by
  have:left=[]:=G6.mp (by lia);subst this;rw[BI];exact K8 _
 | fuel+1,k,left,out,h=>by
  unfold XG;cases e:left[next k%left.length]? with
  | none =>
   have hl:left=[]:=by
    cases left with
    | nil=>rfl
    | cons a t =>
     have:=Mm (next k) (show 0<(a::t).length by simp);rw[AJ this] at e;cases e
   subst hl;rw[BI]
  | some x =>
   have hi:=(AL.mp e).1;have hl:(left.eraseIdx (next k%left.length)).length=left.length-1:=List.length_eraseIdx_of_lt hi;have ih:=YT next fuel (k+1) (left.eraseIdx (next k%left.length)) (out.push x) (by lia)
   refine ih.trans ?_;rw[J1,CD];exact EZ _ (ABx e)
set_option tactic.hygienic true in
theorem ADM{α:Type}(next:Nat->Nat)(xs:Array α):(Se next xs).toList.Perm xs.toList:=by
 have:=YT next xs.size 0 xs.toList #[] (by simp)
 unfold Se;simpa using this
namespace F
theorem KD:XI table "set.__iter__" = some Builtin.«frozenset.__iter__» :=
 entryFor_alias (id':="frozenset.__iter__") (by kernel_rfl) (by first | rfl | decide +kernel) (by decide +kernel) (by kernel_rfl)
theorem RX:Manifest.owners.lookup (String.ofList ['r','o','t','a','r','e','t','i','_','t','e','s'].reverse)=some Manifest.sig_set_iterator:=by kernel_rfl
theorem Dw:Slot "set_iterator" "__next__" "set_iterator.__next__":=.of (owner:="set_iterator") (n:="__next__") (by rw[UF,Pp];kernel_rfl) (by decide +kernel) (by decide +kernel) (by decide +kernel) (by first | exact .inl (by decide +kernel) | exact .inr (by decide +kernel)) (by rw[Ps];kernel_rfl)
theorem Mj:XI table "set_iterator.__next__" = some Builtin.«set_iterator.__next__»:=entryFor_of_tree (by kernel_rfl)
theorem Qa(a:Au):XN "set_iterator.__next__" ⟨[a],[]⟩:=by
 unfold XN;rw[signature?_of (id:="set_iterator.__next__") (n:=['_','_','t','x','e','n','_','_']) (o:=['r','o','t','a','r','e','t','i','_','t','e','s']) (by kernel_rfl) RX];kernel_rfl
theorem Hz:Slot "set_iterator" "__iter__" "set_iterator.__iter__":=.of (owner:="set_iterator") (n:="__iter__") (by rw[UF,Pp];kernel_rfl) (by decide +kernel) (by decide +kernel) (by decide +kernel) (by first | exact .inl (by decide +kernel) | exact .inr (by decide +kernel)) (by rw[Ps];kernel_rfl)
theorem Ql(a:Au):XN "set_iterator.__iter__" ⟨[a],[]⟩:=by
 unfold XN;rw[signature?_of (id:="set_iterator.__iter__") (n:=['_','_','r','e','t','i','_','_']) (o:=['r','o','t','a','r','e','t','i','_','t','e','s']) (by kernel_rfl) RX];kernel_rfl
theorem Mq:XI table "set_iterator.__iter__" = some Builtin.«dict_keyiterator.__iter__» :=
 entryFor_alias (id':="dict_keyiterator.__iter__") (by kernel_rfl) (by first | rfl | decide +kernel | (unfold String.splitOn;simp +decide [String.splitOnAux])) (by decide +kernel) (by kernel_rfl)
end F
def SI(h:Heap)(I S:Addr)(slot i n ep:Nat):Prop:=∃o,h.get? I=some o/\o.cls=.type "set_iterator"/\o.data=.fields #[F4 slot,F4 i,.ref S,F4 n,F4 ep]
theorem SI.typeIs{s:AA}{I S:Addr}{slot i n ep:Nat}(x:SI s.heap I S slot i n ep):s.TypeIs (.ref I) "set_iterator":=let ⟨o,ho,hc,_⟩:=x;⟨o,ho,hc⟩
section
variable{prog:AK}{w:AR}{A:B6}{E:Au->AA->Prop}{s:AA}{S:Addr}{es:Array (Int×Au)}{t:C7}{ep:Nat}{o:Obj}
def text(w:AR):Bool:=w.params.followText "set-order"
def ord(w:AR)(S:Addr)(ep:Nat)(es:Array (Int×Au)):Array (Int×Au):=if text w=true then Se (w.params.setOrder S ep) es else es
theorem UL(w:AR)(S:Addr)(ep:Nat)(es:Array (Int×Au)):(ord w S ep es).toList.Perm es.toList:=by
 unfold ord;split
 ·exact ADM _ _
 ·exact K8 _
def slotAt(w:AR)(t:C7)(i:Nat):Nat:=if text w=true then 0 else if i=0 then 0 else t.place.getD (i-1) 0+1
theorem Wc(hx:text w=false)(T:Tab t){i:Nat}(hi:i<=t.place.size):below t.place (slotAt w t i)=i:=by
 obtain ⟨b1,b2,b3⟩:=FJ (j:=slotAt w t i) T.rise;have r:=C3.mp T.rise;have gd:∀k (hk:k<t.place.size) d,t.place.getD k d=t.place.toList[k]'(by simpa using hk):=λk hk d=>by simp[Ex,hk]
 have sl:∀h0:i≠0,slotAt w t i=t.place.toList[i-1]'(by simp;lia)+1:=λh0=>by
  unfold slotAt;rw[hx,if_neg (by decide),if_neg h0,gd (i-1) (by lia)]
 rcases NL (below t.place (slotAt w t i)) i with c | c | c
 ·have z:=b2 _ (AE _) (by lia)
  rw[gd _ (by lia)] at z;have slz:=sl (by lia);by_cases d:below t.place (slotAt w t i)=i-1
  ·have:t.place.toList[below t.place (slotAt w t i)]'(by simp;lia)=t.place.toList[i-1]'(by simp;lia):=by congr 1
   lia
  ·have:=r (below t.place (slotAt w t i)) (i-1) (by simp;lia) (by simp;lia) (by lia)
   lia
 ·exact c
 ·have z:=b1 i c
  rw[gd i (by lia)] at z;by_cases h0:i=0
  ·have:slotAt w t i=0:=by unfold slotAt;rw[hx,if_neg (by decide),if_pos h0]
   lia
  ·have slz:=sl h0
   have:=r (i-1) i (by simp;lia) (by simp;lia) (by lia);lia
theorem ADR(ho:s.heap.get? S=some o)(hd:o.data=.set es ep t)(T:Tab t)(hl:es.size=t.place.size)(hp:t.plain=true)(hled:t.led=ledOf w){i:Nat}{Q:Option (Au×Nat)->AA->Prop}
  (q:Q (((ord w S ep es)[i]?).map λe=>(e.2,slotAt w t (i+1))) s) (hi:i<=es.size):wpAny (AM prog w) A (setNext S (slotAt w t i) i ep) Q E s:=by
 have hf:=Gi T hl;unfold setNext;refine Ap (FB ho hd hf ?_);dsimp only;unfold UH;refine Ap (Ap (Kj (wpAny_pure ?_)));cases hx:text w with
 | true =>
  have hx':(AM prog w).w.params.followText "set-order" = true:=hx;simp only[hx',if_true,bne_self_eq_false,A7,if_false];unfold setWalk UH;refine Ap (Ap (FB ho hd hf ?_));dsimp only;refine Ap (Ap (Kj (wpAny_pure ?_)));simp only[hx',if_true];refine Ap (Kj (wpAny_pure ?_));refine wpAny_pure ?_;have e1:ord w S ep es=Se (w.params.setOrder S ep) es:=by unfold ord;rw[hx];rfl
  have e2:∀i,slotAt w t i=0:=λi=>by unfold slotAt;rw[hx];rfl
  rw[e1,e2] at q;rw[e2];exact q
 | false =>
  have hx':(AM prog w).w.params.followText "set-order" = false:=hx;have hledT:t.led=true:=by rw[hled];unfold ledOf;rw[show w.params.followText "set-order" = false from hx];rfl
  have e1:ord w S ep es=es:=by unfold ord;rw[hx];rfl
  rw[e1] at q;simp only[hx',A7,if_false];refine KL (λhab=>?_) (λ_=>?_)
  ·have hab':(!t.plain&&decide (es.size>1))=true:=hab
   rw[hp] at hab';cases hab'
  refine Ap ?_;show wpAny _ _ (if (!t.led && !es.isEmpty)=true then unsupported "set:maker-not-led" else pure ()) _ _ _;rw[hledT];simp only[Ev,O4,A7,if_false];refine wpAny_pure (wpAny_pure ?_);rw[Wc hx T (by rw[<- hl];exact hi)];by_cases c:i<es.size
  ·have c2:i<t.place.size:=by rw[<- hl];exact c
   rw[Bz c] at q ⊢;rw[Bz c2];have e3:slotAt w t (i+1)=t.place[i]+1:=by
    unfold slotAt;rw[hx,if_neg (by decide),if_neg (by lia)];simp[Ex,c2]
   rw[e3] at q;exact q
  ·rw[Hc (by lia)] at q ⊢
   exact q
def SSt(w:AR)(I S:Addr)(o:Obj)(es:Array (Int×Au))(t:C7)(ep i:Nat)(h:Heap):Prop:=h.get? S=some o/\SI h I S (slotAt w t i) i es.size ep
theorem Xa(hh:A.handled=none){I:Addr}(hne:S≠I)(hd:o.data=.set es ep t)(T:Tab t)(hl:es.size=t.place.size)(hp:t.plain=true)(hled:t.led=ledOf w){i:Nat}(st:SSt w I S o es t ep i s.heap)(hi:i<=es.size){Q:Option Au->AA->Prop}
  (q1:∀e h',(ord w S ep es)[i]?=some e->SSt w I S o es t ep (i+1) h'->ES I s.heap h'->Q (some e.2) {s with heap:=h'})
  (q2:(ord w S ep es)[i]?=none->∀h',SS I s.heap h'->Q none {s with heap:=h'}):wpAny (AM prog w) A (LH (.ref I)) Q E s:=by
 obtain ⟨ho,x⟩:=st;obtain ⟨oi,hoi,hci,hdi⟩:=id x;unfold LH;refine Ap (NA (wpAny_callSpecial?_slot (name:=IJ "__next__") x.typeIs F.Dw (DI F.Dw x.typeIs F.Mj ?_ (F.Qa _))));unfold Builtin.«set_iterator.__next__»;refine Ap (LL (a:=(AV I,[])) rfl ?_)
 try dsimp only
 refine Ap (Pc hoi hdi ?_);show wpAny _ _ (setEntries S >>= _) _ _ s;refine Ap (Q5 ho hd (Gi T hl) ?_);simp only[bne_self_eq_false,A7,if_false];show wpAny _ _ (setNext S (((slotAt w t i:Nat):Int)).toNat (((i:Nat):Int)).toNat (((ep:Nat):Int)).toNat >>= _) _ _ s;rw[CI,CI,CI];refine Ap (ADR ho hd T hl hp hled ?_ hi);cases e:(ord w S ep es)[i]? with
 | some v =>
  show wpAny _ _ (P9 (.ref I) 0 (F4 ((slotAt w t (i+1):Nat):Int)) >>= λ_=>P9 (.ref I) 1 (F4 ((i:Int)+1)) >>= λ_=>ret v.2) _ _ s;refine Ap (IG hoi hdi (by simp) ?_);have g1:=EH (NB (λfs=>fs.setIfInBounds 0 (F4 ((slotAt w t (i+1):Nat):Int)))) hoi (J3 (E8 hdi _));have d1:=E8 hdi (λfs=>fs.setIfInBounds 0 (F4 ((slotAt w t (i+1):Nat):Int)));refine Ap (IG g1 d1 (by simp) ?_);have g2:=EH (NB (λfs=>fs.setIfInBounds 1 (F4 ((i:Int)+1)))) g1 (J3 (E8 d1 _));have d2:=E8 d1 (λfs=>fs.setIfInBounds 1 (F4 ((i:Int)+1)));refine wpAny_pure ⟨_,rfl,wpAny_pure (q1 v _ e ⟨?_,_,g2,?_,?_⟩ ((D7 ..).trans (D7 ..)))⟩
  ·exact (ET _ _ (DF hne)).trans ((ET _ _ (DF hne)).trans ho)
  ·exact (Lu ..).trans ((Lu ..).trans hci)
  ·rw[d2]
   simp
 | none =>
  show wpAny _ _ (P9 (.ref I) 2 CY >>= λ_=>RO (DU "StopIteration") [] >>= λx=>Th x) _ _ s;refine Ap (IG hoi hdi (by simp) ?_);refine Ap ?_;simp only[RO,W8];refine Ap (C5 ?_ (by size_fits));refine Ap (m:=J4 _ _) (LL (a:=CY) (by first | rfl | (simp only[J4];rfl)) ?_);refine C5 ?_ (by size_fits);simp only[Th];refine Ap (QP ?_);rw[show A.in1.handled=none from hh];refine Ap (wpAny_pure (SU ?_));refine Ap (IM (T:="StopIteration") (b:=true) ⟨_,AU _ rfl,rfl⟩ U0 ?_);exact wpAny_pure (q2 e _ (((D7 ..).extBut.push _).push _))
theorem Lk(w:AR)(S:Addr)(ep:Nat)(es:Array (Int×Au)):(ord w S ep es).size=es.size:=by
 rw[<- AX,(UL w S ep es).length_eq,AX]
theorem ZV(hh:A.handled=none){I:Addr}(hne:S≠I)(hd:o.data=.set es ep t)(T:Tab t)(hl:es.size=t.place.size)(hp:t.plain=true)(hled:t.led=ledOf w) :
  Walks prog w A I [I,S] [I] es.size (λi v=>∃e,(ord w S ep es)[i]?=some e/\v=e.2) (λi h=>i<=es.size/\SSt w I S o es t ep i h) where
 sub:=λb hb=>by simp at hb;simp[hb]
 frame:=λi h h' ⟨hi,h1,oi,h2,r⟩ hk=>⟨hi,hk S (by simp) o h1,oi,hk I (by simp) oi h2,r⟩
 item:=λi s Q E hi ⟨hi',st⟩ hQ=>by
  refine Xa hh hne hd T hl hp hled st hi' (λe h' ge st' sb=>hQ _ h' s.toks ⟨e,ge,rfl⟩ ⟨hi,st'⟩ λb ob hb eo=>?_) (λz=>?_)
  ·rw[sb.2 b (λ(q:b=I)=>hb (by simp[q]))]
   exact eo
  ·have:=Lk w S ep es
   rw[Array.getElem?_eq_none_iff] at z;lia
 done:=λs Q E ⟨_,st⟩ hQ=>by
  refine Xa hh hne hd T hl hp hled st (AE _) (λe h' ge st' sb=>?_) (λz h' eb=>hQ h' s.toks λb ob hb eo=>eb b ob (λq=>hb (by simp[q])) eo);have:=(C9.mp ge).1;rw[Lk] at this;lia
 self:=λi s Q E ⟨_,_,x⟩ hQ=>by
  refine NJ x.typeIs F.Hz (DI F.Hz x.typeIs F.Mq ?_ (F.Ql _));show wpAny _ _ (ret (.ref I)) _ _ s;exact wpAny_pure ⟨_,rfl, "set_iterator",_,x.typeIs,F.Dw.lookup,hQ⟩
theorem AAk(ho:s.heap.get? S=some o)(hex:o.ExactSet)(hd:o.data=.set es ep t)(T:Tab t)(hl:es.size=t.place.size)(hp:t.plain=true){Q:Au->AA->Prop}
  (q:∀x,(s.heap.push x).get? s.heap.objs.size=some x->SSt w s.heap.objs.size S o es t ep 0 (s.heap.push x)->Q (.ref s.heap.objs.size) {s with heap:=s.heap.push x}):wpAny (AM prog w) A (O3 (.ref S)) Q E s:=by
 have hf:=Gi T hl;have tS:s.TypeIs (.ref S) "set":=⟨o,ho,hex.1⟩;refine NJ tS Pt (DI Pt tS F.KD ?_ (PySem.F.args_set_iter_1 _));unfold Builtin.«frozenset.__iter__»;refine Ap (LL (a:=S) rfl ?_);refine Ap (m:=XO S) (Ap (Q5 ho hd hf (wpAny_pure ?_)));refine Ap (m:=setDrawn S) ?_;unfold setDrawn UH;refine Ap (FB ho hd hf ?_);dsimp only;refine Ap (Ap (Kj (wpAny_pure ?_)));refine wpAny_pure ?_;refine KL (λhab=>?_) (λ_=>?_)
 ·have hab':(!w.params.followText "set-order" && (!t.plain&&decide (es.size>1)))=true:=hab
  rw[hp] at hab';simp at hab'
 refine Ap (wpAny_pure ?_);refine Ap (wpAny_setEpoch_of ho hd hf ?_);unfold newFields;refine Ap (C5 ?_);have z:slotAt w t 0=0:=by
  unfold slotAt;split
  ·rfl
  ·rfl
 refine wpAny_pure ⟨_,rfl, "set_iterator",_,⟨_,AU _ rfl,rfl⟩,F.Dw.lookup,q _ (AU _ rfl) ⟨AH _ ho,_,AU _ rfl,rfl,?_⟩⟩;rw[z];rfl
theorem ACh(ho:s.heap.get? S=some o)(hex:o.ExactSet){Q:Bool->AA->Prop}(h:Q false s):wpAny (AM prog w) A (M8 (.ref S)) Q E s:=by
 have tS:s.TypeIs (.ref S) "set":=⟨o,ho,hex.1⟩;unfold M8;refine Ap (HG tS PySem.F.slot_set_len.lookup ?_);generalize hid:("set.__len__" : String)=id0
 wp_delta
 rw[show splitId id0=some ("set","__len__") from by subst hid;decide +kernel];subst hid;refine Ap (IM (T:="set") (b:=true) tS (by rw[Ps];kernel_rfl) ?_);refine KL (λhab=>absurd hab (by decide)) (λ_=>?_);refine KL (λ_=>?_) (λhab=>absurd (by decide +kernel) hab);refine Ap (KU tS ?_);exact wpAny_pure h
theorem Vf{R:RC->AA->Prop}(hh:A.handled=none)(ho:s.heap.get? S=some o)(hex:o.ExactSet)(hd:o.data=.set es ep t)(T:Tab t)(hl:es.size=t.place.size)(hp:t.plain=true)(hled:t.led=ledOf w)(h61:es.size<=301)
  (D:Addr) (res:Au) (c₀:Nat) (hD:s.heap.get? D=some {cls:=.type "list",data:=.seq #[] c₀})
  (hR:∀h' tk acc' c',(∀b ob,b≠D->s.heap.get? b=some ob->h'.get? b=some ob)->h'.get? D=some {cls:=.type "list",dict:=none,data:=.seq acc' c',slots:=#[]} ->
   ItemsOf (λi v=>∃e,(ord w S ep es)[i]?=some e/\v=e.2) acc' es.size->R (.ok (.ret res)) {s with heap:=h',toks:=tk}) :
  wpAny (AM prog w) A.in1 (EN (.ref D) (.ref S) res)
   (λfin s'=>match fin with | .done f=>R (.ok f) s' | .again c'=>c'.quiet=true/\codeAny (AM prog w) A c' R s') (λe s'=>R (.error e) s') s:=by
 have tS:s.TypeIs (.ref S) "set":=⟨o,ho,hex.1⟩;have nDS:D≠S:=λe=>by
  rw[e,ho] at hD;cases hD;cases hd
 have nSI:S≠s.heap.objs.size:=Cn (BE ho);have nDI:D≠s.heap.objs.size:=Cn (BE hD);have nDf:D∉[s.heap.objs.size,S]:=λhm=>by
  rcases Be.mp hm with e | hm
  ·exact nDI e
  ·exact nDS (Bn.mp hm)
 have W:=(ZV (prog:=prog) (A:=A.in1) (o:=o) hh nSI hd T hl hp hled).toS;unfold EN;refine Ap (KU (T:="set") tS ?_);have c1:On (.ref D) (.ref S)=false:=by simp[On,nDS]
 have c2:(DU "set" == DU "list")=false:=by decide
 have c3:(DU "set" == DU "tuple")=false:=by decide
 simp only[c1,c2,c3,Bool.or_false,A7,if_false];refine Ap (AAk ho hex hd T hl hp λx gx st=>?_);refine Ap (D0 (ACh (s:={s with heap:=s.heap.push x}) (AH _ ho) hex ?_));refine KL (λ_=>?_) (λhab=>absurd (by decide +kernel) hab);have hD1:(s.heap.push x).get? D=some {cls:=.type "list",data:=.seq #[] c₀}:=AH _ hD;refine Ap (Iy ?_);refine Ap ?_;show wpAny _ _ (updateSeq D (·.push .none) >>= λ_=>updateSeq D (·.pop)) _ _ _;refine Ap (UI hD1 rfl ?_);have hD2:=EH (DV (·.push CY)) hD1 rfl;refine UI (hz:=by seq_fits) hD2 rfl ?_;have hD3:=EH (DV (·.pop)) hD2 rfl;have keep:∀b ob,b≠D->(s.heap.push x).get? b=some ob->(((s.heap.push x).update D (DV (·.push CY))).update D (DV (·.pop))).get? b=some ob:=λb ob hb e=>(ET _ _ (DF hb)).trans ((ET _ _ (DF hb)).trans e);obtain ⟨st1,oi,st2,st3⟩:=st;refine wpAny_pure ⟨LP F.plain_extend_loop _,?_⟩;refine codeAny_extend_loopS W (by rw[FX];lia) D nDf res es.size 0 _ _ _ rfl (A8 _) ⟨A8 _,keep S o nDS.symm st1,oi,keep _ oi (DF nDI) st2,st3⟩ hD3 (ItemsOf.nil _) λs' acc' c' hm hS' hacc=>?_;rw[Moved.eq_with hm];refine hR s'.heap s'.toks acc' c' (λb ob hb e=>hm.heap b ob (λhmem=>?_) (keep b ob hb (AH _ e))) hS' hacc;rcases Be.mp hmem with e' | hmem
 ·exact hb e'
 ·exact absurd (BE e) (by rw[Bn.mp hmem];exact FI _)
end
end SB
end
section
namespace SB
open PySem PySem.W PyProof.Rows
def kw{α:Type}(lt:Nat->Nat->Bool)(n:Nat):KasT α->(α->Prop)->Prop
 | .ret a,Q=>Q a
 | .ask i j k,Q=>i<n/\j<n/\kw lt n (k (lt i j)) Q
abbrev g(p:Array Nat)(k:Nat):Nat:=p.getD k 0
structure PP(n:Nat)(p:Array Nat):Prop where
 size:p.size=n
 lt:∀k,k<n->g p k<n
 inj:∀k k',k<n->k'<n->g p k=g p k'->k=k'
structure Tot(n:Nat)(lt:Nat->Nat->Bool):Prop where
 or:∀i j,i<n->j<n->i≠j->lt i j=false->lt j i=true
 as:∀i j,i<n->j<n->lt i j=true->lt j i=false
 tr:∀i j k,i<n->j<n->k<n->lt i j=true->lt j k=true->lt i k=true
def Up(lt:Nat->Nat->Bool)(p:Array Nat)(m:Nat):Prop:=∀a b,a<b->b<m->lt (g p a) (g p b)=true
section
variable{n:Nat}{lt:Nat->Nat->Bool}{p:Array Nat}
theorem AAj(n:Nat):PP n (K3 (AI n)):=by
 have ge:∀k,k<n->g (K3 (AI n)) k=k:=λk hk=>by
  unfold g;rw[Hk];simp[hk]
 refine ⟨by simp,λk hk=>by rw[ge k hk];exact hk,λk k' hk hk' e=>?_⟩;rw[ge k hk,ge k' hk'] at e;exact e
end
end SB
end
section
namespace TM
open PySem PyProof.Rows
def Im:Nat->Nat->StateT BF Sem (Option Nat):=sortPriv% PySem.Builtin.countRun
theorem Qo(lo nrem:Nat):Im lo nrem=(do
 let mut n:=1
 for _ in [1:nrem] do
  let some smaller <- ON (lo+n) (lo+n-1) | return none
  if smaller then break
  n:=n+1
 if n==nrem then return some n
 if n>1 then
  let some rose <- ON lo (lo+n-1) | return none
  if rose then return some n
  NE lo (lo+n)
 rule "list.sort.descending-run"
 n:=n+1
 let mut neq:=0
 for _ in [n:nrem] do
  let some smaller <- ON (lo+n) (lo+n-1) | return none
  if smaller then
   if neq>0 then NE (lo+n-(neq+1)) (lo+n)
   neq:=0
  else
   let some larger <- ON (lo+n-1) (lo+n) | return none
   if larger then break
   neq:=neq+1
  n:=n+1
 if neq>0 then NE (lo+n-(neq+1)) (lo+n)
 NE lo (lo+n)
 for _ in [n:nrem] do
  let some smaller <- ON (lo+n) (lo+n-1) | return none
  if smaller then break
  n:=n+1
 return some n):=rfl
def N(rk:AF->Int)(xs:Array AF)(i:Nat):Int:=match xs[i]? with
 | some p=>rk p
 | none=>0
variable{rk:AF->Int}
theorem El{xs ys:Array AF}{i j:Nat}(h:xs[i]?=ys[j]?):N rk xs i=N rk ys j:=by unfold N;rw[h]
def Al(G:AF->Prop)(xs:Array AF):Prop:=∀(i:Nat) (x:AF),xs[i]?=some x->G x
theorem Al.perm{G:AF->Prop}{xs ys:Array AF}(h:Al G xs)(p:ys.Perm xs):Al G ys:=λi x e=>by
 have m:x∈ys.toList:=by
  obtain ⟨hl,rfl⟩:=C9.mp e;exact Op hl
 have m2:=(HL.mp p).mem_iff.mp m;obtain ⟨k,hk,e⟩:=C0.mp m2;exact h k x (by rw[<- B8,AJ hk,e])
def Di(rk:AF->Int)(xs:Array AF):Prop:=(xs.toList.map rk).Nodup
theorem Di.perm{xs ys:Array AF}(h:Di rk xs)(p:ys.Perm xs):Di rk ys:=((HL.mp p).map rk).nodup_iff.mpr h
theorem Di.ne{xs:Array AF}(h:Di rk xs){i j:Nat}(ij:i<j)(jl:j<xs.size):N rk xs i≠N rk xs j:=by
 have il:i<xs.size:=by lia
 have:=C3.mp h i j (by simpa using il) (by simpa using jl) ij;unfold N;rw[Bz il,Bz jl];simpa using this
def Up(rk:AF->Int)(xs:Array AF)(lo hi:Nat):Prop:=∀i j,lo<=i->i<=j->j<hi->N rk xs i<=N rk xs j
def Down(rk:AF->Int)(xs:Array AF)(lo hi:Nat):Prop:=∀i j,lo<=i->i<=j->j<hi->N rk xs j<=N rk xs i
structure Ba(G:AF->Prop)(rk:AF->Int)(κ:EJ)(a₀:Array AF)(st:BF):Prop where
 perm:(AN st).Perm a₀
 kind:kindOf st=κ
 failed:FM st=none
 all:Al G a₀
 di:Di rk a₀
structure Nx(lo:Nat)(st st':BF):Prop where
 perm:(AN st').Perm (AN st)
 kind:kindOf st'=kindOf st
 failed:FM st'=FM st
 pend:BG st'=BG st
 low:∀i,i<lo->(AN st')[i]?=(AN st)[i]?
theorem Nx.refl(lo:Nat)(st:BF):Nx lo st st:=⟨UK _,rfl,rfl,rfl,λ_ _=>rfl⟩
theorem Nx.trans{lo:Nat}{a b c:BF}(h:Nx lo a b)(k:Nx lo b c):Nx lo a c:=⟨k.perm.trans h.perm,k.kind.trans h.kind,k.failed.trans h.failed,k.pend.trans h.pend,λi hi=>(k.low i hi).trans (h.low i hi)⟩
theorem Ba.nx{G:AF->Prop}{κ:EJ}{a₀:Array AF}{st st':BF}{lo:Nat}(h:Ba G rk κ a₀ st)(n:Nx lo st st'):Ba G rk κ a₀ st':=⟨n.perm.trans h.perm,n.kind.trans h.kind,n.failed.trans h.failed,h.all,h.di⟩
theorem Ba.size{G:AF->Prop}{κ:EJ}{a₀:Array AF}{st:BF}(h:Ba G rk κ a₀ st):(AN st).size=a₀.size:=h.perm.size_eq
theorem Ba.ne{G:AF->Prop}{κ:EJ}{a₀:Array AF}{st:BF}(h:Ba G rk κ a₀ st){i j:Nat}(ij:i<j)(jl:j<a₀.size):N rk (AN st) i≠N rk (AN st) j:=(h.di.perm h.perm).ne ij (by rw[h.size];exact jl)
section
variable{prog:AK}{w:AR}{A:B6}{E:Au->AA->Prop}{s:AA}{G:AF->Prop}{κ:EJ}{a₀:Array AF}
def Cmp(prog:AK)(w:AR)(A:B6)(E:Au->AA->Prop)(s:AA)(κ:EJ)(G:AF->Prop)(rk:AF->Int):Prop :=
 ∀x y,G x->G y->∀(st:BF) (Q:Option Bool->BF->Prop),kindOf st=κ->Q (some (decide (rk x<rk y))) st->wpS (AM prog w) A E s (lt' x y) Q st
theorem Bg{xs:Array AF}{i:Nat}{st:BF}{Q:AF->BF->Prop}(hi:i<xs.size)(h:Q xs[i] st):wpS (AM prog w) A E s (DH xs i) Q st:=by
 rw[elem'_eq,Bz hi];exact A1 h
theorem Fi{xs:Array AF}{i:Nat}(hi:i<xs.size):N rk xs i=rk xs[i]:=by unfold N;rw[Bz hi]
theorem Al.at{xs:Array AF}(h:Al G xs){i:Nat}(hi:i<xs.size):G xs[i]:=h i _ (Bz hi)
theorem Rh(C:Cmp prog w A E s κ G rk){st:BF}(B:Ba G rk κ a₀ st){i j:Nat}{Q:Option Bool->BF->Prop}(hi:i<a₀.size)(hj:j<a₀.size)(h:Q (some (decide (N rk (AN st) i<N rk (AN st) j))) st):wpS (AM prog w) A E s (ON i j) Q st:=by
 have hi':i<(AN st).size:=by rw[B.size];exact hi
 have hj':j<(AN st).size:=by rw[B.size];exact hj
 have al:=B.all.perm B.perm;rw[ltAt'_eq];refine AO (J6 ?_);show wpS _ _ _ _ (do let x <- DH (AN st) i;let y <- DH (AN st) j;lt' x y) Q st;refine AO (Bg hi' (AO (Bg hj' ?_)));refine C _ _ (al.at hi') (al.at hj') st Q B.kind ?_;rw[<- Fi (rk:=rk) hi',<- Fi (rk:=rk) hj'];exact h
theorem TQ{xs:Array AF}{i j:Nat}(hj:j<=xs.size)(k:Nat):N rk (Sf xs i j ((j-i) / 2)) k=if i<=k/\k<j then N rk xs (i+j-1-k) else N rk xs k:=by
 have e:=getElem?_mirror_all (i:=i) hj k;by_cases h1:i<=k/\k<j
 ·rw[if_pos h1] at e ⊢;exact El e
 ·rw[if_neg h1] at e ⊢;exact El e
theorem SX{xs:Array AF}{src d:Nat}(hs:src<xs.size)(hd:d<=src)(k:Nat):N rk (UM xs src d) k=if k=src-d then N rk xs src else if src-d<k/\k<=src then N rk xs (k-1) else N rk xs k:=by
 have e:=getElem?_bubble hs d hd k;by_cases h1:k=src-d
 ·rw[if_pos h1] at e ⊢;exact El e
 ·rw[if_neg h1] at e ⊢
  by_cases h2:src-d<k/\k<=src
  ·rw[if_pos h2] at e ⊢;exact El e
  ·rw[if_neg h2] at e ⊢;exact El e
theorem AFG{st:BF}{lo hi:Nat}(hh:hi<=(AN st).size):Nx lo st (Si st (Sf (AN st) lo hi ((hi-lo) / 2))):=⟨mirror_perm _ _ _ _,rfl,rfl,rfl,λi hi'=>by
 show (Sf (AN st) lo hi ((hi-lo) / 2))[i]?=_;rw[getElem?_mirror_all hh,if_neg (by lia)]⟩
theorem AAq(C:Cmp prog w A E s κ G rk){lo n nrem:Nat}{st:BF}(B:Ba G rk κ a₀ st)(h1:1<=n)(hn:n<nrem)(hs:lo+nrem<=a₀.size)(up:Up rk (AN st) lo (lo+n)){Q:Option Bool->BF->Prop}
  (hy:N rk (AN st) (lo+n)<N rk (AN st) (lo+n-1)->Q (some true) st) (hno:Up rk (AN st) lo (lo+(n+1))->Q (some false) st):wpS (AM prog w) A E s (ON (lo+n) (lo+n-1)) Q st:=by
 refine Rh C B (by lia) (by lia) ?_;by_cases c:N rk (AN st) (lo+n)<N rk (AN st) (lo+n-1)
 ·rw[decide_eq_true c]
  exact hy c
 ·rw[decide_eq_false c]
  refine hno λi j li ij jh=>?_;by_cases d:j<lo+n
  ·exact up i j li ij d
  ·by_cases e:i=j
   ·rw[e];exact JS _
   ·have:=up i (lo+n-1) li (by lia) (by lia)
    have ej:j=lo+n:=by lia
    rw[ej];lia
theorem XD(C:Cmp prog w A E s κ G rk){lo n0 nrem:Nat}{st:BF}(B:Ba G rk κ a₀ st)(h1:1<=n0)(hn:n0<=nrem)(hs:lo+nrem<=a₀.size)(up:Up rk (AN st) lo (lo+n0)){Q:(Option (Option Nat)×Nat)->BF->Prop}
  (h:∀n,n0<=n->n<=nrem->Up rk (AN st) lo (lo+n)->(n<nrem->N rk (AN st) (lo+n)<N rk (AN st) (lo+n-1))->Q (none,n) st) :
  wpS (AM prog w) A E s (forIn [n0:nrem] ((none,n0):Option (Option Nat)×Nat) λ_ r=>do
   let x <- ON (lo+r.snd) (lo+r.snd-1)
   match x with
   | some smaller=>if smaller=true then pure (BY (none,r.snd)) else pure (C6 (none,r.snd+1))
   | _=>pure (BY (some none,r.snd))) Q st:=by
 refine DT (I:=λx c st'=>st'=st/\c=(none,x)/\n0<=x/\x<=nrem/\Up rk (AN st) lo (lo+x)) ?_ ?_ ⟨rfl,rfl,AE _,hn,up⟩
 ·rintro x c st' ax xb ⟨rfl,rfl,_,_,up'⟩
  refine AO (AAq C B (by lia) xb hs up' (λlt=>?_) (λup2=>?_))
  ·exact A1 (h x ax (by lia) up' λ_=>lt)
  ·exact A1 ⟨rfl,rfl,by lia,by lia,up2⟩
 ·rintro c st' ⟨rfl,rfl,a1,a2,up'⟩
  refine h _ a1 a2 up' λz=>?_;lia
end
variable{rk:AF->Int}{prog:AK}{w:AR}{A:B6}{E:Au->AA->Prop}{s:AA}{G:AF->Prop}{κ:EJ}{a₀:Array AF}
theorem Mr(C:Cmp prog w A E s κ G rk){lo nrem:Nat}{st:BF}(B:Ba G rk κ a₀ st)(h1:1<=nrem)(hs:lo+nrem<=a₀.size){Q:Option Nat->BF->Prop}
  (h:∀n st',1<=n->n<=nrem->Nx lo st st'->Up rk (AN st') lo (lo+n)->Q (some n) st'):wpS (AM prog w) A E s (Im lo nrem) Q st:=by
 rw[Qo];refine AO (XD C B (AE 1) h1 hs (λi j li ij jh=>by
  have:i=j:=by lia
  rw[this];exact JS _) λn n1 nn up lt=>?_)
 dsimp only;by_cases c:n=nrem
 ·rw[if_pos (by rw[c];exact beq_self_eq_true _)]
  exact A1 (h n st n1 nn (Nx.refl _ _) up)
 rw[if_neg (by intro z;exact c (beq_iff_eq.mp z))];have sm:=lt (by lia);by_cases d:n>1
 ·rw[if_pos d]
  refine AO (Rh C B (by lia) (by lia) ?_);have a1:=up lo (lo+n-1) (AE _) (by lia) (by lia);have a2:=B.ne (i:=lo) (j:=lo+n-1) (by lia) (by lia);rw[decide_eq_true (show N rk (AN st) lo<N rk (AN st) (lo+n-1) by lia)];exact A1 (h n st n1 nn (Nx.refl _ _) up)
 rw[if_neg d];have e1:n=1:=by lia
 subst e1;have wn:lo+1-1=lo:=by lia
 rw[wn] at sm;refine AO (MO (Iy ⟨rfl,?_⟩));refine AO (EB (DT (I:=λx c st'=>st'=st/\c=(none,x,0)/\2<=x/\x<=nrem/\Down rk (AN st) lo (lo+x)) (Q:=λc st'=>st'=st/\∃m,c=(none,m,0)/\2<=m/\m<=nrem/\Down rk (AN st) lo (lo+m)) ?_ ?_ ⟨rfl,rfl,AE _,by lia,?_⟩) ?_)
 ·rintro x c st' ax xb ⟨rfl,rfl,x2,_,dn⟩
  dsimp only;refine AO (Rh C B (by lia) (by lia) ?_);by_cases c1:N rk (AN st') (lo+x)<N rk (AN st') (lo+x-1)
  ·rw[decide_eq_true c1]
   dsimp only;rw[if_pos rfl,if_neg (by lia)];refine A1 ⟨rfl,rfl,by lia,by lia,λi j li ij jh=>?_⟩;by_cases d1:j<lo+x
   ·exact dn i j li ij d1
   ·have ej:j=lo+x:=by lia
    subst ej;by_cases e:i=lo+x
    ·rw[e];exact JS _
    ·have:=dn i (lo+x-1) li (by lia) (by lia)
     lia
  ·rw[decide_eq_false c1]
   dsimp only;rw[if_neg (by decide)];refine AO (Rh C B (by lia) (by lia) ?_);have a2:=B.ne (i:=lo+x-1) (j:=lo+x) (by lia) (by lia);rw[decide_eq_true (show N rk (AN st') (lo+x-1)<N rk (AN st') (lo+x) by lia)];dsimp only;rw[if_pos rfl];exact A1 ⟨rfl,x,rfl,x2,by lia,dn⟩
 ·rintro c st' ⟨rfl,rfl,a1,a2,dn⟩
  exact ⟨rfl,_,rfl,a1,a2,dn⟩
 ·intro i j li ij jh
  by_cases e:i=j
  ·rw[e];exact JS _
  ·rw[show i=lo by lia,show j=lo+1 by lia]
   lia
 ·rintro c st' ⟨rfl,m,rfl,m2,mn,dn⟩
  dsimp only;rw[if_neg (by lia),reverseSlice'_eq];have sz:lo+m<=(AN st').size:=by rw[B.size];lia
  have nx:=AFG (st:=st') (lo:=lo) sz;refine AO (ID ?_);have up2:Up rk (AN (Si st' (Sf (AN st') lo (lo+m) ((lo+m-lo) / 2)))) lo (lo+m):=λi j li ij jh=>by
   show N rk (Sf (AN st') lo (lo+m) ((lo+m-lo) / 2)) i<=N rk (Sf (AN st') lo (lo+m) ((lo+m-lo) / 2)) j;rw[TQ sz,TQ sz,if_pos (by lia),if_pos (by lia)];exact dn _ _ (by lia) (by lia) (by lia)
  refine AO (XD C (B.nx nx) (by lia) mn hs up2 λn' n1' nn' up' _=>?_);exact A1 (h n' _ (by lia) nn' nx up')
def Lh:Nat->Nat->Nat->StateT BF Sem Bool:=sortPriv% PySem.Builtin.binarySort
theorem Tr(lo n ok:Nat):Lh lo n ok=(do
 for k in [max ok 1:n] do
  let mut l:=0
  let mut r:=k
  for _ in [0:k] do
   if l >= r then break
   let m:=(l+r) / 2
   let some less <- ON (lo+k) (lo+m) | return false
   if less then r:=m else l:=m+1
  moveDown' (lo+k) (lo+l)
 return true):=rfl
theorem RK(C:Cmp prog w A E s κ G rk){lo n ok:Nat}{st:BF}(B:Ba G rk κ a₀ st)(hn:lo+n<=a₀.size)(hok:ok<=n)(up:Up rk (AN st) lo (lo+ok)){Q:Bool->BF->Prop}
  (h:∀st',Nx lo st st'->Up rk (AN st') lo (lo+n)->Q true st'):wpS (AM prog w) A E s (Lh lo n ok) Q st:=by
 rw[Tr];refine AO (EB (DT (I:=λk c st'=>c=(none,())/\Nx lo st st'/\Up rk (AN st') lo (lo+min k n))
  (Q:=λc st'=>c=(none,())/\Nx lo st st'/\Up rk (AN st') lo (lo+n)) ?step ?fin ?init) ?post)
 case post =>
  rintro c st' ⟨rfl,nx,up'⟩;exact A1 (h st' nx up')
 case init =>
  refine ⟨rfl,Nx.refl _ _,λi j li ij jh=>?_⟩;by_cases e:i=j
  ·rw[e];exact JS _
  ·exact up i j li ij (by lia)
 case fin =>
  rintro c st' ⟨hc,nx,up'⟩;refine ⟨hc,nx,?_⟩
  rwa [show min (max (max ok 1) n) n=n by lia] at up'
 case step =>
  rintro k c st' hak hkn ⟨rfl,nx,up'⟩;rw[show min k n=k by lia] at up';have B':=B.nx nx;have hk:lo+k<a₀.size:=by lia
  refine AO (EB (DT (I:=λx c st''=>st''=st'/\∃l r,c=(none,l,r)/\l<=r/\r<=k/\r-l<=k-x /\
    (∀i,lo<=i->i<lo+l->N rk (AN st') i<=N rk (AN st') (lo+k))/\(∀i,lo+r<=i->i<lo+k->N rk (AN st') (lo+k)<N rk (AN st') i))
   (Q:=λc st''=>st''=st'/\∃l r,c=(none,l,r)/\l<=k /\
    (∀i,lo<=i->i<lo+l->N rk (AN st') i<=N rk (AN st') (lo+k))/\(∀i,lo+l<=i->i<lo+k->N rk (AN st') (lo+k)<N rk (AN st') i)) ?istep ?ifin ?iinit) ?ipost)
  case iinit=>exact ⟨rfl,0,k,rfl,by lia,by lia,by lia,λi hi=>by lia,λi h1 h2=>by lia⟩
  case ifin =>
   rintro c st'' ⟨rfl,l,r,rfl,hlr,hrk,hm,hlo,hhi⟩;have:l=r:=by lia
   subst this;exact ⟨rfl,l,l,rfl,hrk,hlo,hhi⟩
  case istep =>
   rintro x c st'' _ hxk ⟨rfl,l,r,rfl,hlr,hrk,hm,hlo,hhi⟩;dsimp only;by_cases hge:l >= r
   ·rw[if_pos hge]
    have:l=r:=by lia
    subst this;exact A1 ⟨rfl,l,l,rfl,hrk,hlo,hhi⟩
   ·rw[if_neg hge]
    refine AO (Rh C B' hk (by lia) ?_);by_cases hless:N rk (AN st'') (lo+k)<N rk (AN st'') (lo+(l+r) / 2)
    ·simp only[hless,decide_true,if_true]
     refine A1 ⟨rfl,l,(l+r) / 2,rfl,by lia,by lia,by lia,hlo,λi h1 h2=>?_⟩;exact Int.lt_of_lt_of_le hless (up' _ _ (by lia) h1 h2)
    ·simp only[hless,decide_false,A7,if_false]
     refine A1 ⟨rfl,(l+r) / 2+1,r,rfl,by lia,by lia,by lia,λi h0 h1=>?_,hhi⟩;exact EK (up' i (lo+(l+r) / 2) h0 (by lia) (by lia)) (IE.mp hless)
  case ipost =>
   rintro c st'' ⟨rfl,l,r,rfl,hlk,hlo,hhi⟩;show wpS _ _ _ _ (do moveDown' (lo+k) (lo+l);pure (C6 (none,()))) _ _;rw[moveDown'_eq];have hks:lo+k<(AN st'').size:=by rw[B'.size];exact hk
   have nx2:Nx lo st'' (Si st'' (UM (AN st'') (lo+k) (lo+k-(lo+l)))):=⟨bubble_perm _ _ _,rfl,rfl,rfl,λi hi=>by
    show (UM (AN st'') (lo+k) (lo+k-(lo+l)))[i]?=_;rw[getElem?_bubble hks _ (by lia),if_neg (by lia),if_neg (by lia)]⟩
   refine AO (ID (A1 ⟨rfl,nx.trans nx2,?_⟩));rw[show min (k+1) n=k+1 by lia];intro i j li hij hj;show N rk (UM (AN st'') (lo+k) (lo+k-(lo+l))) i<=N rk (UM (AN st'') (lo+k) (lo+k-(lo+l))) j;rw[SX hks (by lia),SX hks (by lia),show lo+k-(lo+k-(lo+l))=lo+l by lia]
   repeat' split
   all_goals first
    | (exfalso;omega)
    | exact JS _
    | exact hlo _ (by omega) (by omega)
    | exact G0 (hhi _ (by lia) (by lia))
    | exact up' _ _ (by lia) (by lia) (by lia)
variable{rk:AF->Int}{prog:AK}{w:AR}{A:B6}{E:Au->AA->Prop}{s:AA}{G:AF->Prop}{κ:EJ}{a₀:Array AF}
def Cv:Bool->AF->Array AF->Nat->Nat->Nat->StateT BF Sem (Option Nat):=sortPriv% PySem.Builtin.gallop
def Em(left:Bool)(key:AF)(arr:Array AF)(base i:Nat):StateT BF Sem (Option Bool):=do
  let x <- DH arr (base+i)
  if left then lt' x key else return (<- lt' key x).map (!·)
theorem VN(left:Bool)(key:AF)(arr:Array AF)(base n hint:Nat):Cv left key arr base n hint=(do
 let mut lastofs:=0
 let mut ofs:=1
 let mut lo:=0
 let mut hi:=0
 let some right <- Em left key arr base hint | return none
 if right then
  let maxofs:=n-hint
  for _ in [0:n] do
   if ofs >= maxofs then break
   let some more <- Em left key arr base (hint+ofs) | return none
   if !more then break
   lastofs:=ofs
   ofs:=2*ofs+1
  lo:=hint+lastofs+1
  hi:=hint+min ofs maxofs
 else
  let maxofs:=hint+1
  for _ in [0:n] do
   if ofs >= maxofs then break
   let some found <- Em left key arr base (hint-ofs) | return none
   if found then break
   lastofs:=ofs
   ofs:=2*ofs+1
  lo:=hint+1-min ofs maxofs
  hi:=hint-lastofs
 for _ in [0:n] do
  if lo >= hi then break
  let m:=lo+(hi-lo) / 2
  let some more <- Em left key arr base m | return none
  if more then lo:=m+1 else hi:=m
 return some hi):=rfl
def bey(rk:AF->Int)(left:Bool)(key:AF)(arr:Array AF)(base i:Nat):Bool:=if left then decide (N rk arr (base+i)<rk key) else !decide (rk key<N rk arr (base+i))
theorem VB(C:Cmp prog w A E s κ G rk){left:Bool}{key:AF}{arr:Array AF}{base i:Nat}{st:BF}{Q:Option Bool->BF->Prop}(hk:G key)(al:Al G arr)(kd:kindOf st=κ)(hi:base+i<arr.size)(h:Q (some (bey rk left key arr base i)) st) :
  wpS (AM prog w) A E s (Em left key arr base i) Q st:=by
 unfold Em;refine AO (Bg hi ?_);unfold bey at h;rw[Fi hi] at h;cases left with
 | true =>
  rw[if_pos rfl] at h ⊢;exact C _ _ (al.at hi) hk st _ kd h
 | false =>
  rw[if_neg (by decide)] at h ⊢;refine AO (C _ _ hk (al.at hi) st _ kd (A1 ?_));exact h
def Mono(p:Nat->Bool)(n:Nat):Prop:=∀i j,i<=j->j<n->p j=true->p i=true
theorem Ez{left:Bool}{key:AF}{arr:Array AF}{base n:Nat}(up:Up rk arr base (base+n)):Mono (bey rk left key arr base) n:=λi j ij jn h=>by
 have:=up (base+i) (base+j) (by lia) (by lia) (by lia);unfold bey at h ⊢;cases left with
 | true =>
  rw[if_pos rfl] at h ⊢;have:=of_decide_eq_true h;exact decide_eq_true (by lia)
 | false =>
  rw[if_neg (by decide)] at h ⊢;have h':¬ rk key<N rk arr (base+j):=λz=>by rw[decide_eq_true z] at h;cases h
  rw[decide_eq_false (by lia)];rfl
theorem DX(C:Cmp prog w A E s κ G rk){left:Bool}{key:AF}{arr:Array AF}{base n hint:Nat}{st:BF}{Q:Option Nat->BF->Prop}(hk:G key)(al:Al G arr)(kd:kindOf st=κ)(hn:base+n<=arr.size)(hh:hint<n)(mo:Mono (bey rk left key arr base) n)
  (h:∀k,k<=n->(∀i,i<k->bey rk left key arr base i=true)->(∀i,k<=i->i<n->bey rk left key arr base i=false)->Q (some k) st):wpS (AM prog w) A E s (Cv left key arr base n hint) Q st:=by
 rw[VN];generalize hp:bey rk left key arr base=p at mo h;have ask:∀{i:Nat}{Q:Option Bool->BF->Prop},i<n->Q (some (p i)) st->wpS (AM prog w) A E s (Em left key arr base i) Q st:=λ{i Q} hi q=>VB C hk al kd (by lia) (by rw[hp];exact q);have down:∀{k:Nat},(k<n->p k=false)->∀i,k<=i->i<n->p i=false:=λ{k} hk i ki il=>by
  cases e:p i with
  | false=>rfl
  | true =>
   have:=mo k i ki il e;rw[hk (by lia)] at this;cases this
 have fin:∀{lo hi:Nat},lo<=hi->hi<=n->(∀i,i<lo->p i=true)->(∀i,hi<=i->i<n->p i=false) ->
   ∀{Q':(Option (Option Nat)×Nat×Nat)->BF->Prop},(∀l,l<=n->(∀i,i<l->p i=true)->(∀i,l<=i->i<n->p i=false)->Q' (none,l,l) st) ->
   wpS (AM prog w) A E s (forIn [0:n] ((none,lo,hi):Option (Option Nat)×Nat×Nat) λ_ r =>
     if r.snd.fst >= r.snd.snd then pure (BY (none,r.snd.fst,r.snd.snd))
     else do
      let x <- Em left key arr base (r.snd.fst+(r.snd.snd-r.snd.fst) / 2)
      match x with
      | some more =>
       if more=true then pure (C6 (none,r.snd.fst+(r.snd.snd-r.snd.fst) / 2+1,r.snd.snd))
       else pure (C6 (none,r.snd.fst,r.snd.fst+(r.snd.snd-r.snd.fst) / 2))
      | _=>pure (BY (some none,r.snd.fst,r.snd.snd))) Q' st:=λ{lo hi} lh hn' ht hf {Q'} h'=>by
  refine EB (DT (I:=λx c st'=>st'=st/\∃l r,c=(none,l,r)/\l<=r/\r<=n/\r-l<=n-x/\(∀i,i<l->p i=true)/\(∀i,r<=i->i<n->p i=false))
   (Q:=λc st'=>st'=st/\∃l,c=(none,l,l)/\l<=n/\(∀i,i<l->p i=true)/\(∀i,l<=i->i<n->p i=false)) ?_ ?_ ⟨rfl,lo,hi,rfl,lh,hn',by lia,ht,hf⟩) ?_
  ·rintro x c st' _ xn ⟨rfl,l,r,rfl,lr,rn,sz,tr,fa⟩
   dsimp only;by_cases c1:l >= r
   ·rw[if_pos c1]
    have:l=r:=by lia
    subst this;exact A1 ⟨rfl,l,rfl,rn,tr,fa⟩
   ·rw[if_neg c1]
    refine AO (ask (by lia) ?_);cases e:p (l+(r-l) / 2) with
    | true =>
     dsimp only;rw[if_pos rfl];exact A1 ⟨rfl,_,r,rfl,by lia,rn,by lia,λi hi=>mo i _ (by lia) (by lia) e,fa⟩
    | false =>
     dsimp only;rw[if_neg (by decide)];exact A1 ⟨rfl,l,_,rfl,by lia,by lia,by lia,tr,down λ_=>e⟩
  ·rintro c st' ⟨rfl,l,r,rfl,lr,rn,sz,tr,fa⟩
   have:l=r:=by lia
   subst this;exact ⟨rfl,l,rfl,rn,tr,fa⟩
  ·rintro c st' ⟨rfl,l,rfl,ln,tr,fa⟩
   exact h' l ln tr fa
 refine AO (ask hh ?_);cases ph:p hint with
 | true =>
  dsimp only;rw[if_pos rfl];refine AO (EB (DT (I:=λx c st'=>st'=st/\∃l o,c=(none,l,o)/\l<o/\x+1<=o/\hint+l<n/\p (hint+l)=true)
   (Q:=λc st'=>st'=st/\∃l o,c=(none,l,o)/\l<o/\hint+l<n/\p (hint+l)=true/\(o<n-hint->p (hint+o)=false)) ?_ ?_ ⟨rfl,0,1,rfl,by lia,by lia,by lia,ph⟩) ?_)
  ·rintro x c st' _ xn ⟨rfl,l,o,rfl,lo,xo,ln,pl⟩
   dsimp only;by_cases c1:o >= n-hint
   ·rw[if_pos c1]
    exact A1 ⟨rfl,l,o,rfl,lo,ln,pl,λz=>absurd z (by lia)⟩
   ·rw[if_neg c1]
    refine AO (ask (by lia) ?_);cases e:p (hint+o) with
    | true =>
     dsimp only;rw[if_neg (by decide)];exact A1 ⟨rfl,o,_,rfl,by lia,by lia,by lia,e⟩
    | false =>
     dsimp only;rw[if_pos (by decide)];exact A1 ⟨rfl,l,o,rfl,lo,ln,pl,λ_=>e⟩
  ·rintro c st' ⟨rfl,l,o,rfl,lo,xo,ln,pl⟩
   exact ⟨rfl,l,o,rfl,lo,ln,pl,λz=>absurd z (by lia)⟩
  ·rintro c st' ⟨rfl,l,o,rfl,lo,ln,pl,pf⟩
   dsimp only;refine AO (fin (lo:=hint+l+1) (hi:=hint+min o (n-hint)) (by lia) (by lia) (λi hi=>mo i (hint+l) (by lia) ln pl) ?_ λk kn kt kf=>A1 (h k kn kt kf));by_cases c1:o<n-hint
   ·rw[show hint+min o (n-hint)=hint+o by lia]
    exact down λ_=>pf c1
   ·rw[show hint+min o (n-hint)=n by lia]
    exact λi a b=>absurd a (by lia)
 | false =>
  dsimp only;rw[if_neg (by decide)];refine AO (EB (DT (I:=λx c st'=>st'=st/\∃l o,c=(none,l,o)/\l<o/\x+1<=o/\l<=hint/\p (hint-l)=false)
   (Q:=λc st'=>st'=st/\∃l o,c=(none,l,o)/\l<o/\l<=hint/\p (hint-l)=false/\(o<hint+1->p (hint-o)=true)) ?_ ?_ ⟨rfl,0,1,rfl,by lia,by lia,by lia,ph⟩) ?_)
  ·rintro x c st' _ xn ⟨rfl,l,o,rfl,lo,xo,ln,pl⟩
   dsimp only;by_cases c1:o >= hint+1
   ·rw[if_pos c1]
    exact A1 ⟨rfl,l,o,rfl,lo,ln,pl,λz=>absurd z (by lia)⟩
   ·rw[if_neg c1]
    refine AO (ask (by lia) ?_);cases e:p (hint-o) with
    | true =>
     dsimp only;rw[if_pos rfl];exact A1 ⟨rfl,l,o,rfl,lo,ln,pl,λ_=>e⟩
    | false =>
     dsimp only;rw[if_neg (by decide)];exact A1 ⟨rfl,o,_,rfl,by lia,by lia,by lia,e⟩
  ·rintro c st' ⟨rfl,l,o,rfl,lo,xo,ln,pl⟩
   exact ⟨rfl,l,o,rfl,lo,ln,pl,λz=>absurd z (by lia)⟩
  ·rintro c st' ⟨rfl,l,o,rfl,lo,ln,pl,pt⟩
   dsimp only;refine AO (fin (lo:=hint+1-min o (hint+1)) (hi:=hint-l) (by lia) (by lia) ?_ (down λ_=>pl) λk kn kt kf=>A1 (h k kn kt kf));by_cases c1:o<hint+1
   ·rw[show hint+1-min o (hint+1)=hint+1-o by lia]
    exact λi hi=>mo i (hint-o) (by lia) (by lia) (pt c1)
   ·rw[show hint+1-min o (hint+1)=0 by lia]
    exact λi hi=>absurd hi (by lia)
variable{rk:AF->Int}{prog:AK}{w:AR}{A:B6}{E:Au->AA->Prop}{s:AA}{G:AF->Prop}{κ:EJ}{a₀:Array AF}
def Srt(rk:AF->Int)(l:List AF):Prop:=l.Pairwise λx y=>rk x<=rk y
structure MI(rk:AF->Int)(a b out:List AF)(ia ib:Nat):Prop where
 perm:(out++(a.drop ia++b.drop ib)).Perm (a++b)
 srt:Srt rk out
 oa:∀x∈out,∀y∈a.drop ia,rk x<=rk y
 ob:∀x∈out,∀y∈b.drop ib,rk x<=rk y
theorem Tn{α:Type}(l:List α)(i k:Nat):l.drop i=(l.drop i).take k++l.drop (i+k):=by rw[<- Pw];exact (FV k (l.drop i)).symm
theorem MI.takeA{a b out:List AF}{ia ib:Nat}(m:MI rk a b out ia ib)(sa:Srt rk a)(k:Nat)(h:∀y∈(a.drop ia).take k,∀z∈b.drop ib,rk y<=rk z):MI rk a b (out++(a.drop ia).take k) (ia+k) ib:=by
 have e:=Tn a ia k;have sd:Srt rk (a.drop ia):=sa.sublist (HU ..);refine ⟨?_,?_,?_,?_⟩
 ·refine OO ?_ m.perm
  rw[CD];refine EZ _ ?_;rw[<- CD,<- e]
 ·refine C1.mpr ⟨m.srt,sd.sublist (HQ ..),λx hx y hy=>m.oa x hx y (Mn hy)⟩
 ·intro x hx y hy
  rcases B9.mp hx with hx | hx
  ·exact m.oa x hx y (by rw[e];exact CC _ hy)
  ·unfold Srt at sd
   rw[e] at sd;exact (C1.mp sd).2.2 x hx y hy
 ·intro x hx y hy
  rcases B9.mp hx with hx | hx
  ·exact m.ob x hx y hy
  ·exact h x hx y hy
theorem MI.takeB{a b out:List AF}{ia ib:Nat}(m:MI rk a b out ia ib)(sb:Srt rk b)(k:Nat)(h:∀y∈(b.drop ib).take k,∀z∈a.drop ia,rk y<=rk z):MI rk a b (out++(b.drop ib).take k) ia (ib+k):=by
 have e:=Tn b ib k;have sd:Srt rk (b.drop ib):=sb.sublist (HU ..);refine ⟨?_,?_,?_,?_⟩
 ·refine OO ?_ m.perm
  rw[CD];refine EZ _ ?_;rw[<- CD];refine (LM _ (HH)).trans ?_;rw[CD,<- e]
 ·refine C1.mpr ⟨m.srt,sd.sublist (HQ ..),λx hx y hy=>m.ob x hx y (Mn hy)⟩
 ·intro x hx y hy
  rcases B9.mp hx with hx | hx
  ·exact m.oa x hx y hy
  ·exact h x hx y hy
 ·intro x hx y hy
  rcases B9.mp hx with hx | hx
  ·exact m.ob x hx y (by rw[e];exact CC _ hy)
  ·unfold Srt at sd
   rw[e] at sd;exact (C1.mp sd).2.2 x hx y hy
def Mg(rk:AF->Int)(a b r:List AF):Prop:=r.Perm (a++b)/\Srt rk r
theorem MI.doneB{a b out:List AF}{ia ib:Nat}(m:MI rk a b out ia ib)(sa:Srt rk a)(h:b.length<=ib):Mg rk a b (out++a.drop ia++b.drop ib):=by
 rw[FH h,BI];have p:=m.perm;rw[FH h,BI] at p;exact ⟨p,C1.mpr ⟨m.srt,sa.sublist (HU ..),m.oa⟩⟩
theorem MI.doneA{a b out:List AF}{ia ib:Nat}(m:MI rk a b out ia ib)(sb:Srt rk b)(h:a.length<=ia):Mg rk a b (out++a.drop ia++b.drop ib):=by
 rw[FH h,BI];have p:=m.perm;rw[FH h,UN] at p;exact ⟨p,C1.mpr ⟨m.srt,sb.sublist (HU ..),m.ob⟩⟩
theorem MI.last{a b out:List AF}{ia ib:Nat}(m:MI rk a b out ia ib)(sb:Srt rk b)(h:ia+1=a.length)(hl:∀y∈b,∀z∈a.drop ia,rk y<=rk z):Mg rk a b (out++b.drop ib++a.drop ia):=by
 refine ⟨?_,?_⟩
 ·refine OO ?_ m.perm
  rw[CD];exact EZ _ HH
 ·have one:Srt rk (a.drop ia):=by
   have l1:(a.drop ia).length=1:=by rw[Hb];lia
   obtain ⟨x,ex⟩:=List.length_eq_one_iff.mp l1;rw[ex];exact G7 ..
  refine C1.mpr ⟨C1.mpr ⟨m.srt,sb.sublist (HU ..),m.ob⟩,one,λx hx y hy=>?_⟩;rcases B9.mp hx with hx | hx
  ·exact m.oa x hx y hy
  ·exact hl x (Qr hx) y hy
variable{rk:AF->Int}{prog:AK}{w:AR}{A:B6}{E:Au->AA->Prop}{s:AA}{G:AF->Prop}{κ:EJ}{a₀:Array AF}
theorem ifc{c:Prop}{α:Type}{i j:Decidable c}{x y u v:α}(h1:x=u)(h2:y=v):(@ite α c i x y)=(@ite α c j u v):=by rw[h1,h2];congr
def Dh:Nat->StateT BF Sem Unit:=sortPriv% PySem.Builtin.setMinGallop
theorem Vs(g:Nat):Dh g=modify λs=>JP (kindOf s) (AN s) (BG s) g (FM s):=rfl
abbrev loDone(a b out:Array AF)(ia ib:Nat):Array AF:=out++a.extract ia a.size++b.extract ib b.size
abbrev loLast(a b out:Array AF)(ia ib:Nat):Array AF:=out++b.extract ib b.size++a.extract ia a.size
abbrev S1:=Option (Array AF)×Array AF×Nat×Nat×Nat×Nat
abbrev S2:=Option (Array AF)×Array AF×Nat×Nat×Nat×Nat×Nat
abbrev S0:=Option (Array AF)×Array AF×Nat×Nat×Nat
def loOne(a b:Array AF)(mg:Nat)(r:S1):StateT BF Sem (ForInStep S1):=do
 let y <- DH b r.snd.snd.snd.fst
 let x <- DH a r.snd.snd.fst
 let c <- lt' y x
 match c with
 | some bWins =>
  if bWins=true then do
   let y <- DH b r.snd.snd.snd.fst
   if (r.snd.snd.snd.fst+1==b.size)=true then
    pure (BY (some (loDone a b (r.snd.fst.push y) r.snd.snd.fst (r.snd.snd.snd.fst+1)),r.snd.fst.push y,r.snd.snd.fst,r.snd.snd.snd.fst+1,0,r.snd.snd.snd.snd.snd+1))
   else if r.snd.snd.snd.snd.snd+1 >= mg then
    pure (BY (none,r.snd.fst.push y,r.snd.snd.fst,r.snd.snd.snd.fst+1,0,r.snd.snd.snd.snd.snd+1))
   else pure (C6 (none,r.snd.fst.push y,r.snd.snd.fst,r.snd.snd.snd.fst+1,0,r.snd.snd.snd.snd.snd+1))
  else do
   let x <- DH a r.snd.snd.fst
   if (r.snd.snd.fst+1+1==a.size)=true then
    pure (BY (some (loLast a b (r.snd.fst.push x) (r.snd.snd.fst+1) r.snd.snd.snd.fst),r.snd.fst.push x,r.snd.snd.fst+1,r.snd.snd.snd.fst,r.snd.snd.snd.snd.fst+1,0))
   else if r.snd.snd.snd.snd.fst+1 >= mg then
    pure (BY (none,r.snd.fst.push x,r.snd.snd.fst+1,r.snd.snd.snd.fst,r.snd.snd.snd.snd.fst+1,0))
   else pure (C6 (none,r.snd.fst.push x,r.snd.snd.fst+1,r.snd.snd.snd.fst,r.snd.snd.snd.snd.fst+1,0))
 | _=>pure (BY (some (loDone a b r.snd.fst r.snd.snd.fst r.snd.snd.snd.fst),r.snd.fst,r.snd.snd.fst,r.snd.snd.snd.fst,r.snd.snd.snd.snd.fst,r.snd.snd.snd.snd.snd))
def loEnd(a b:Array AF)(mg ac bc:Nat)(out:Array AF)(ia ib:Nat):StateT BF Sem (ForInStep S2):=do
 let x <- DH a ia
 if (ia+1+1==a.size)=true then pure (BY (some (loLast a b (out.push x) (ia+1) ib),out.push x,ia+1,ib,mg,ac,bc))
 else if (decide (ac<7)&&decide (bc<7))=true then pure (BY (none,out.push x,ia+1,ib,mg,ac,bc))
 else pure (C6 (none,out.push x,ia+1,ib,mg,ac,bc))
def loMid(a b:Array AF)(mg k bc:Nat)(out:Array AF)(ia ib:Nat):StateT BF Sem (ForInStep S2):=do
 let y <- DH b ib
 if (ib+1==b.size)=true then pure (BY (some (loDone a b (out.push y) ia (ib+1)),out.push y,ia,ib+1,mg,k,bc))
 else do
  let x <- DH a ia
  let r <- Cv true x b (ib+1) (b.size-(ib+1)) 0
  match r with
  | some k' =>
   if k'>0 then
    if (ib+1+k'==b.size)=true then pure (BY (some (loDone a b (out.push y++b.extract (ib+1) (ib+1+k')) ia (ib+1+k')),out.push y++b.extract (ib+1) (ib+1+k'),ia,ib+1+k',mg,k,k'))
    else loEnd a b mg k k' (out.push y++b.extract (ib+1) (ib+1+k')) ia (ib+1+k')
   else loEnd a b mg k k' (out.push y) ia (ib+1)
  | _=>pure (BY (some (loDone a b (out.push y) ia (ib+1)),out.push y,ia,ib+1,mg,k,bc))
def loGal(a b:Array AF)(mg ac bc:Nat)(out:Array AF)(ia ib:Nat):StateT BF Sem (ForInStep S2):=do
 Dh mg
 let y <- DH b ib
 let r <- Cv false y a ia (a.size-ia) 0
 match r with
 | some k =>
  if k>0 then
   if (ia+k+1==a.size)=true then pure (BY (some (loLast a b (out++a.extract ia (ia+k)) (ia+k) ib),out++a.extract ia (ia+k),ia+k,ib,mg,k,bc))
   else if (ia+k==a.size)=true then pure (BY (some (loDone a b (out++a.extract ia (ia+k)) (ia+k) ib),out++a.extract ia (ia+k),ia+k,ib,mg,k,bc))
   else loMid a b mg k bc (out++a.extract ia (ia+k)) (ia+k) ib
  else loMid a b mg k bc out ia ib
 | _=>pure (BY (some (loDone a b out ia ib),out,ia,ib,mg,ac,bc))
def Hr:Array AF->Array AF->StateT BF Sem (Array AF):=sortPriv% PySem.Builtin.mergeLo
theorem Uv(a b:Array AF):Hr a b=(do
 rule "list.sort.merge-lo"
 let total:=a.size+b.size
 let done (out:Array AF) (ia ib:Nat):=out++a.extract ia a.size++b.extract ib b.size
 let lastOfA (out:Array AF) (ia ib:Nat):=out++b.extract ib b.size++a.extract ia a.size
 let mut out:Array AF:=#[<- DH b 0]
 let mut ia:=0
 let mut ib:=1
 if ib==b.size then return done out ia ib
 if ia+1==a.size then return lastOfA out ia ib
 let mut minGallop:=QA (<- get)
 for _ in [0:total] do
  let mut acount:=0
  let mut bcount:=0
  for _ in [0:total] do
   let some bWins <- lt' (<- DH b ib) (<- DH a ia) | return done out ia ib
   if bWins then
    out:=out.push (<- DH b ib);ib:=ib+1;bcount:=bcount+1;acount:=0
    if ib==b.size then return done out ia ib
    if bcount >= minGallop then break
   else
    out:=out.push (<- DH a ia);ia:=ia+1;acount:=acount+1;bcount:=0
    if ia+1==a.size then return lastOfA out ia ib
    if acount >= minGallop then break
  rule "list.sort.gallop"
  minGallop:=minGallop+1
  for _ in [0:total] do
   if minGallop>1 then minGallop:=minGallop-1
   Dh minGallop
   let some k <- Cv false (<- DH b ib) a ia (a.size-ia) 0 | return done out ia ib
   acount:=k
   if k>0 then
    out:=out++a.extract ia (ia+k);ia:=ia+k
    if ia+1==a.size then return lastOfA out ia ib
    if ia==a.size then return done out ia ib
   out:=out.push (<- DH b ib);ib:=ib+1
   if ib==b.size then return done out ia ib
   let some k <- Cv true (<- DH a ia) b ib (b.size-ib) 0 | return done out ia ib
   bcount:=k
   if k>0 then
    out:=out++b.extract ib (ib+k);ib:=ib+k
    if ib==b.size then return done out ia ib
   out:=out.push (<- DH a ia);ia:=ia+1
   if ia+1==a.size then return lastOfA out ia ib
   if acount<7&&bcount<7 then break
  minGallop:=minGallop+1
  Dh minGallop
 unsupported "internal:list.sort.merge-bound"):=rfl
set_option pp.proofs true in
theorem Rv(a b:Array AF):Hr a b=(do
 liftM (rule "list.sort.merge-lo")
 let y <- DH b 0
 if (1==b.size)=true then pure (loDone a b #[y] 0 1)
 else if (0+1==a.size)=true then pure (loLast a b #[y] 0 1)
 else do
  let g <- get
  let r <- forIn [0:a.size+b.size] ((none,#[y],0,1,QA g):S0) λ_ r0=>do
   let r1 <- forIn [0:a.size+b.size] ((none,r0.snd.fst,r0.snd.snd.fst,r0.snd.snd.snd.fst,0,0):S1) λ_ r=>loOne a b r0.snd.snd.snd.snd r
   match r1.fst with
   | some x=>pure (BY ((some x,r1.snd.fst,r1.snd.snd.fst,r1.snd.snd.snd.fst,r0.snd.snd.snd.snd):S0))
   | none=>do
    liftM (rule "list.sort.gallop")
    let r2 <- forIn [0:a.size+b.size] ((none,r1.snd.fst,r1.snd.snd.fst,r1.snd.snd.snd.fst,r0.snd.snd.snd.snd+1,r1.snd.snd.snd.snd.fst,r1.snd.snd.snd.snd.snd):S2) λ_ r =>
     if r.snd.snd.snd.snd.fst>1 then loGal a b (r.snd.snd.snd.snd.fst-1) r.snd.snd.snd.snd.snd.fst r.snd.snd.snd.snd.snd.snd r.snd.fst r.snd.snd.fst r.snd.snd.snd.fst
     else loGal a b r.snd.snd.snd.snd.fst r.snd.snd.snd.snd.snd.fst r.snd.snd.snd.snd.snd.snd r.snd.fst r.snd.snd.fst r.snd.snd.snd.fst
    match r2.fst with
    | some x=>pure (BY ((some x,r2.snd.fst,r2.snd.snd.fst,r2.snd.snd.snd.fst,r2.snd.snd.snd.snd.fst):S0))
    | none=>do
     Dh (r2.snd.snd.snd.snd.fst+1)
     pure (C6 ((none,r2.snd.fst,r2.snd.snd.fst,r2.snd.snd.snd.fst,r2.snd.snd.snd.snd.fst+1):S0))
  match r.fst with
  | some x=>pure x
  | none=>unsupported "internal:list.sort.merge-bound"):=by
 rw[Uv];dsimp only
 congr 1
 funext _
 congr 1
 funext y
 refine ifc rfl (ifc rfl ?_)
 congr 1
 funext g
 congr 1
 ·congr 1
  funext x r0
  congr 1
  funext r1
  obtain ⟨o1,r1⟩:=r1;cases o1 with
  | some x=>rfl
  | none =>
   dsimp only
   congr 1
   funext u
   congr 1
   funext r2
   obtain ⟨o2,r2⟩:=r2;cases o2<;>rfl
 ·funext r
  obtain ⟨o,r⟩:=r;cases o<;>rfl
variable{rk:AF->Int}{prog:AK}{w:AR}{A:B6}{E:Au->AA->Prop}{s:AA}{G:AF->Prop}{κ:EJ}{a₀:Array AF}
structure Gx(st st':BF):Prop where
 arr:AN st'=AN st
 kind:kindOf st'=kindOf st
 failed:FM st'=FM st
 pend:BG st'=BG st
theorem Gx.refl(st:BF):Gx st st:=⟨rfl,rfl,rfl,rfl⟩
theorem Ri{out b:Array AF}{ib:Nat}(h:ib<b.size):(out.push b[ib]).toList=out.toList++(b.toList.drop ib).take 1:=by
 rw[J1]
 congr 1
 have hl:ib<b.toList.length:=by simpa using h
 rw[KM hl,MB,MQ];simp
theorem YW{out a:Array AF}(i k:Nat):(out++a.extract i (i+k)).toList=out.toList++(a.toList.drop i).take k:=by
 rw[DD,G1]
 congr 1
 simp[Sj]
theorem Ih(a:Array AF)(i:Nat):(a.extract i a.size).toList=a.toList.drop i:=by
 rw[G1];simp[Sj];rw[He (by simp)]
theorem Tq(a b out:Array AF)(ia ib:Nat):(loDone a b out ia ib).toList=out.toList++a.toList.drop ia++b.toList.drop ib:=by
 unfold loDone;rw[DD,DD,Ih,Ih]
theorem ABa(a b out:Array AF)(ia ib:Nat):(loLast a b out ia ib).toList=out.toList++b.toList.drop ib++a.toList.drop ia:=by
 unfold loLast;rw[DD,DD,Ih,Ih]
theorem Dn{a:Array AF}{i:Nat}{z:AF}(h:z∈a.toList.drop i):∃j,i<=j/\∃hj:j<a.size,z=a[j]:=by
 obtain ⟨k,hk,e⟩:=C0.mp h;rw[Hb] at hk;refine ⟨i+k,by lia,by
               have:a.toList.length=a.size:=by simp
               lia,?_⟩
 rw[<- e,NM];simp
theorem CT{a:Array AF}{i k:Nat}{z:AF}(h:z∈(a.toList.drop i).take k):∃j,i<=j/\j<i+k/\∃hj:j<a.size,z=a[j]:=by
 obtain ⟨n,hk,e⟩:=C0.mp h;rw[BQ,Hb] at hk;have:a.toList.length=a.size:=by simp
 refine ⟨i+n,by lia,by lia,by lia,?_⟩;rw[<- e,J0,NM];simp
theorem Ep{a:Array AF}(sa:Srt rk a.toList){i j:Nat}(ij:i<=j)(hj:j<a.size):rk (a[i]'(by lia))<=rk a[j]:=by
 by_cases e:i=j
 ·subst e;exact JS _
 ·have:=C3.mp sa i j (by simp;lia) (by simpa using hj) (by lia)
  simpa using this
theorem QD{a:Array AF}(sa:Srt rk a.toList){lo hi:Nat}(h:hi<=a.size):Up rk a lo hi:=λi j li ij jh=>by
 rw[Fi (show i<a.size by lia),Fi (show j<a.size by lia)];exact Ep sa ij (by lia)
section
variable{a b:Array AF}{st:BF}
def At(rk:AF->Int)(a b out:Array AF)(ia ib:Nat):Prop:=MI rk a.toList b.toList out.toList ia ib/\ia+1<a.size/\ib<b.size
structure Lo(G:AF->Prop)(rk:AF->Int)(a b:Array AF):Prop where
 ga:Al G a
 gb:Al G b
 sa:Srt rk a.toList
 sb:Srt rk b.toList
 hl:∀y∈b.toList,∀z∈a.toList.drop (a.size-1),rk y<=rk z
theorem Lo.done(L:Lo G rk a b){out:Array AF}{ia ib:Nat}(m:MI rk a.toList b.toList out.toList ia ib)(h:b.size<=ib):Mg rk a.toList b.toList (loDone a b out ia ib).toList:=by
 rw[Tq];exact m.doneB L.sa (by simpa using h)
theorem Lo.doneA(L:Lo G rk a b){out:Array AF}{ia ib:Nat}(m:MI rk a.toList b.toList out.toList ia ib)(h:a.size<=ia):Mg rk a.toList b.toList (loDone a b out ia ib).toList:=by
 rw[Tq];exact m.doneA L.sb (by simpa using h)
theorem Lo.last(L:Lo G rk a b){out:Array AF}{ia ib:Nat}(m:MI rk a.toList b.toList out.toList ia ib)(h:ia+1=a.size):Mg rk a.toList b.toList (loLast a b out ia ib).toList:=by
 rw[ABa];refine m.last L.sb (by simpa using h) λy hy z hz=>L.hl y hy z ?_;rw[show a.size-1=ia by lia];exact hz
theorem Lo.stepB(L:Lo G rk a b){out:Array AF}{ia ib:Nat}(m:MI rk a.toList b.toList out.toList ia ib)(hb:ib<b.size)(h:∀j,ia<=j->∀hj:j<a.size,rk b[ib]<=rk a[j]):MI rk a.toList b.toList (out.push b[ib]).toList ia (ib+1):=by
 rw[Ri hb];refine m.takeB L.sb 1 λy hy z hz=>?_;obtain ⟨j,j1,j2,hj,rfl⟩:=CT hy;have:j=ib:=by lia
 subst this;obtain ⟨i,i1,hi,rfl⟩:=Dn hz;exact h i i1 hi
theorem Lo.stepA(L:Lo G rk a b){out:Array AF}{ia ib:Nat}(m:MI rk a.toList b.toList out.toList ia ib)(ha:ia<a.size)(h:∀j,ib<=j->∀hj:j<b.size,rk a[ia]<=rk b[j]):MI rk a.toList b.toList (out.push a[ia]).toList (ia+1) ib:=by
 rw[Ri ha];refine m.takeA L.sa 1 λy hy z hz=>?_;obtain ⟨j,j1,j2,hj,rfl⟩:=CT hy;have:j=ia:=by lia
 subst this;obtain ⟨i,i1,hi,rfl⟩:=Dn hz;exact h i i1 hi
theorem Lo.manyA(L:Lo G rk a b){out:Array AF}{ia ib k:Nat}(m:MI rk a.toList b.toList out.toList ia ib)(h:∀i,ia<=i->i<ia+k->∀hi:i<a.size,∀j,ib<=j->∀hj:j<b.size,rk a[i]<=rk b[j]):MI rk a.toList b.toList (out++a.extract ia (ia+k)).toList (ia+k) ib:=by
 rw[YW];refine m.takeA L.sa k λy hy z hz=>?_;obtain ⟨i,i1,i2,hi,rfl⟩:=CT hy;obtain ⟨j,j1,hj,rfl⟩:=Dn hz;exact h i i1 i2 hi j j1 hj
theorem Lo.manyB(L:Lo G rk a b){out:Array AF}{ia ib k:Nat}(m:MI rk a.toList b.toList out.toList ia ib)(h:∀i,ib<=i->i<ib+k->∀hi:i<b.size,∀j,ia<=j->∀hj:j<a.size,rk b[i]<=rk a[j]):MI rk a.toList b.toList (out++b.extract ib (ib+k)).toList ia (ib+k):=by
 rw[YW];refine m.takeB L.sb k λy hy z hz=>?_;obtain ⟨i,i1,i2,hi,rfl⟩:=CT hy;obtain ⟨j,j1,hj,rfl⟩:=Dn hz;exact h i i1 i2 hi j j1 hj
theorem Qe{st st':BF}(g:Gx st st')(m:Nat):Gx st (JP (kindOf st') (AN st') (BG st') m (FM st')):=⟨g.arr,g.kind,g.failed,g.pend⟩
theorem setMin{st:BF}{g:Nat}{Q:Unit->BF->Prop}(h:Q () (JP (kindOf st) (AN st) (BG st) g (FM st))):wpS (AM prog w) A E s (Dh g) Q st:=by
 rw[Vs];exact ID h
def E1(rk:AF->Int)(a b:Array AF)(st:BF)(m:Nat)(r:S1)(st':BF):Prop:=Gx st st'/\((∃x y,r=(some x,y)/\Mg rk a.toList b.toList x.toList)\/∃out ia ib ac bc,r=(none,out,ia,ib,ac,bc)/\At rk a b out ia ib/\m<=ia+ib)
def E2(rk:AF->Int)(a b:Array AF)(st:BF)(m:Nat)(r:S2)(st':BF):Prop:=Gx st st'/\((∃x y,r=(some x,y)/\Mg rk a.toList b.toList x.toList)\/∃out ia ib mg ac bc,r=(none,out,ia,ib,mg,ac,bc)/\At rk a b out ia ib/\m<=ia+ib)
def Y1(rk:AF->Int)(a b:Array AF)(st:BF)(m:Nat)(r:S1)(st':BF):Prop:=Gx st st'/\∃out ia ib ac bc,r=(none,out,ia,ib,ac,bc)/\At rk a b out ia ib/\m<=ia+ib
def Y2(rk:AF->Int)(a b:Array AF)(st:BF)(m:Nat)(r:S2)(st':BF):Prop:=Gx st st'/\∃out ia ib mg ac bc,r=(none,out,ia,ib,mg,ac,bc)/\At rk a b out ia ib/\m<=ia+ib
theorem AAG(C:Cmp prog w A E s κ G rk)(L:Lo G rk a b){mg m ia ib ac bc:Nat}{out:Array AF}{st0:BF}(kd:kindOf st0=κ)(g:Gx st0 st)(at_:At rk a b out ia ib)(hm:m<=ia+ib) :
  wpS (AM prog w) A E s (loOne a b mg (none,out,ia,ib,ac,bc)) (λr st'=>match r with | .done c'=>E1 rk a b st0 (m+1) c' st' | .yield c'=>Y1 rk a b st0 (m+1) c' st') st:=by
 obtain ⟨mi,la,lb⟩:=at_;have la':ia<a.size:=by lia
 unfold loOne;dsimp only;refine AO (Bg lb (AO (Bg la' (AO (C _ _ (L.gb.at lb) (L.ga.at la') st _ (g.kind.trans kd) ?_)))));by_cases c:rk b[ib]<rk a[ia]
 ·rw[decide_eq_true c]
  dsimp only;rw[if_pos rfl];refine AO (Bg lb ?_);have mi':=L.stepB mi lb λj j1 hj=>EK (G0 c) (Ep L.sa j1 hj);by_cases c1:ib+1=b.size
  ·rw[if_pos (by rw[c1];exact beq_self_eq_true _)]
   exact A1 ⟨g,.inl ⟨_,_,rfl,L.done mi' (by lia)⟩⟩
  ·rw[if_neg (by intro z;exact c1 (beq_iff_eq.mp z))]
   by_cases c2:bc+1 >= mg
   ·rw[if_pos c2]
    exact A1 ⟨g,.inr ⟨_,_,_,_,_,rfl,⟨mi',la,by lia⟩,by lia⟩⟩
   ·rw[if_neg c2]
    exact A1 ⟨g,_,_,_,_,_,rfl,⟨mi',la,by lia⟩,by lia⟩
 ·rw[decide_eq_false c]
  dsimp only;rw[if_neg (by decide)];refine AO (Bg la' ?_);have mi':=L.stepA mi la' λj j1 hj=>EK (IE.mp c) (Ep L.sb j1 hj);by_cases c1:ia+1+1=a.size
  ·rw[if_pos (by rw[c1];exact beq_self_eq_true _)]
   exact A1 ⟨g,.inl ⟨_,_,rfl,L.last mi' (by lia)⟩⟩
  ·rw[if_neg (by intro z;exact c1 (beq_iff_eq.mp z))]
   by_cases c2:ac+1 >= mg
   ·rw[if_pos c2]
    exact A1 ⟨g,.inr ⟨_,_,_,_,_,rfl,⟨mi',by lia,lb⟩,by lia⟩⟩
   ·rw[if_neg c2]
    exact A1 ⟨g,_,_,_,_,_,rfl,⟨mi',by lia,lb⟩,by lia⟩
theorem Oe(L:Lo G rk a b){mg m ia ib ac bc:Nat}{out:Array AF}{st0:BF}(g:Gx st0 st)(mi:MI rk a.toList b.toList out.toList ia ib)(la:ia+1<a.size)(lb:ib<b.size)(h:∀j,ib<=j->∀hj:j<b.size,rk (a[ia]'(by lia))<=rk b[j])(hm:m<=ia+ib) :
  wpS (AM prog w) A E s (loEnd a b mg ac bc out ia ib) (λr st'=>match r with | .done c'=>E2 rk a b st0 m c' st' | .yield c'=>Y2 rk a b st0 m c' st') st:=by
 have la':ia<a.size:=by lia
 unfold loEnd;refine AO (Bg la' ?_);have mi':=L.stepA mi la' h;by_cases c1:ia+1+1=a.size
 ·rw[if_pos (by rw[c1];exact beq_self_eq_true _)]
  exact A1 ⟨g,.inl ⟨_,_,rfl,L.last mi' (by lia)⟩⟩
 ·rw[if_neg (by intro z;exact c1 (beq_iff_eq.mp z))]
  by_cases c2:(decide (ac<7)&&decide (bc<7))=true
  ·rw[if_pos c2]
   exact A1 ⟨g,.inr ⟨_,_,_,_,_,_,rfl,⟨mi',by lia,lb⟩,by lia⟩⟩
  ·rw[if_neg c2]
   exact A1 ⟨g,_,_,_,_,_,_,rfl,⟨mi',by lia,lb⟩,by lia⟩
theorem Ea{key:AF}{arr:Array AF}{base i:Nat}(h:base+i<arr.size):bey rk false key arr base i=!decide (rk key<rk arr[base+i]):=by
 unfold bey;rw[if_neg (by decide),Fi h]
theorem Es{key:AF}{arr:Array AF}{base i:Nat}(h:base+i<arr.size):bey rk true key arr base i=decide (rk arr[base+i]<rk key):=by
 unfold bey;rw[if_pos rfl,Fi h]
theorem Oq(C:Cmp prog w A E s κ G rk)(L:Lo G rk a b){mg m k bc ia ib:Nat}{out:Array AF}{st0:BF}(kd:kindOf st0=κ)(g:Gx st0 st)(mi:MI rk a.toList b.toList out.toList ia ib)(la:ia+1<a.size)(lb:ib<b.size)(h:∀j,ia<=j->∀hj:j<a.size,rk b[ib]<=rk a[j])(hm:m<=ia+ib) :
  wpS (AM prog w) A E s (loMid a b mg k bc out ia ib) (λr st'=>match r with | .done c'=>E2 rk a b st0 m c' st' | .yield c'=>Y2 rk a b st0 m c' st') st:=by
 have la':ia<a.size:=by lia
 unfold loMid;refine AO (Bg lb ?_);have mi':=L.stepB mi lb h;by_cases c1:ib+1=b.size
 ·rw[if_pos (by rw[c1];exact beq_self_eq_true _)]
  exact A1 ⟨g,.inl ⟨_,_,rfl,L.done mi' (by lia)⟩⟩
 ·rw[if_neg (by intro z;exact c1 (beq_iff_eq.mp z))]
  refine AO (Bg la' ?_);refine AO (DX C (L.ga.at la') L.gb (g.kind.trans kd) (by lia) (by lia) (Ez (QD L.sb (by lia))) λk' kn kt kf=>?_);dsimp only;have t1:∀i,ib+1<=i->i<ib+1+k'->∀hi:i<b.size,rk b[i]<rk a[ia]:=λi i1 i2 hi=>by
   have z:=kt (i-(ib+1)) (by lia);rw[Es (by lia)] at z;have e:ib+1+(i-(ib+1))=i:=by lia
   simp only[e] at z;exact of_decide_eq_true z
  have t2:∀j,ib+1+k'<=j->∀hj:j<b.size,rk a[ia]<=rk b[j]:=λi i1 hi=>by
   have z:=kf (i-(ib+1)) (by lia) (by lia);rw[Es (by lia)] at z;have e:ib+1+(i-(ib+1))=i:=by lia
   simp only[e] at z;exact IE.mp (of_decide_eq_false z)
  by_cases c2:k'>0
  ·rw[if_pos c2]
   have mi2:=L.manyB (k:=k') mi' λi i1 i2 hi j j1 hj=>EK (G0 (t1 i i1 i2 hi)) (Ep L.sa j1 hj);by_cases c3:ib+1+k'=b.size
   ·rw[if_pos (by rw[c3];exact beq_self_eq_true _)]
    exact A1 ⟨g,.inl ⟨_,_,rfl,L.done mi2 (by lia)⟩⟩
   ·rw[if_neg (by intro z;exact c3 (beq_iff_eq.mp z))]
    exact Oe L g mi2 la (by lia) t2 (by lia)
  ·rw[if_neg c2]
   have:k'=0:=by lia
   subst this;exact Oe L g mi' la (by lia) t2 (by lia)
theorem Ni(C:Cmp prog w A E s κ G rk)(L:Lo G rk a b){mg m ac bc ia ib:Nat}{out:Array AF}{st0:BF}(kd:kindOf st0=κ)(g:Gx st0 st)(at_:At rk a b out ia ib)(hm:m<=ia+ib) :
  wpS (AM prog w) A E s (loGal a b mg ac bc out ia ib) (λr st'=>match r with | .done c'=>E2 rk a b st0 m c' st' | .yield c'=>Y2 rk a b st0 m c' st') st:=by
 obtain ⟨mi,la,lb⟩:=at_;have la':ia<a.size:=by lia
 unfold loGal;refine AO (setMin ?_);have g':=Qe g mg;generalize JP (kindOf st) (AN st) (BG st) mg (FM st)=st1 at g';refine AO (Bg lb ?_);refine AO (DX C (L.gb.at lb) L.ga (g'.kind.trans kd) (by lia) (by lia) (Ez (QD L.sa (by lia))) λk kn kt kf=>?_);dsimp only;have t1:∀i,ia<=i->i<ia+k->∀hi:i<a.size,rk a[i]<=rk b[ib]:=λi i1 i2 hi=>by
  have z:=kt (i-ia) (by lia);rw[Ea (by lia)] at z;have e:ia+(i-ia)=i:=by lia
  simp only[e] at z;refine IE.mp λy=>?_;rw[decide_eq_true y] at z;cases z
 have t2:∀j,ia+k<=j->∀hj:j<a.size,rk b[ib]<=rk a[j]:=λi i1 hi=>by
  have z:=kf (i-ia) (by lia) (by lia);rw[Ea (by lia)] at z;have e:ia+(i-ia)=i:=by lia
  simp only[e] at z;have z':decide (rk b[ib]<rk a[i])=true:=by
   cases q:decide (rk b[ib]<rk a[i]) with
   | true=>rfl
   | false=>rw[q] at z;cases z
  exact G0 (of_decide_eq_true z')
 by_cases c2:k>0
 ·rw[if_pos c2]
  have mi2:=L.manyA (k:=k) mi λi i1 i2 hi j j1 hj=>EK (t1 i i1 i2 hi) (Ep L.sb j1 hj);by_cases c3:ia+k+1=a.size
  ·rw[if_pos (by rw[c3];exact beq_self_eq_true _)]
   exact A1 ⟨g',.inl ⟨_,_,rfl,L.last mi2 (by lia)⟩⟩
  ·rw[if_neg (by intro z;exact c3 (beq_iff_eq.mp z))]
   by_cases c4:ia+k=a.size
   ·rw[if_pos (by rw[c4];exact beq_self_eq_true _)]
    exact A1 ⟨g',.inl ⟨_,_,rfl,L.doneA mi2 (by lia)⟩⟩
   ·rw[if_neg (by intro z;exact c4 (beq_iff_eq.mp z))]
    exact Oq C L kd g' mi2 (by lia) lb t2 (by lia)
 ·rw[if_neg c2]
  have:k=0:=by lia
  subst this;exact Oq C L kd g' mi la lb t2 hm
theorem Ua(C:Cmp prog w A E s κ G rk)(L:Lo G rk a b)(kd:kindOf st=κ)(a1:1<=a.size)(b1:1<=b.size)(hf:∀j,∀hj:j<a.size,rk b[0]<=rk a[j]){Q:Array AF->BF->Prop}(h:∀r st',Gx st st'->Mg rk a.toList b.toList r.toList->Q r st'):wpS (AM prog w) A E s (Hr a b) Q st:=by
 rw[Rv];refine AO (MO (Iy ⟨rfl,?_⟩));refine AO (Bg b1 ?_);have mi0:MI rk a.toList b.toList (#[]:Array AF).toList 0 0:=⟨K8 _,Lm,λx hx=>(by cases hx),λx hx=>(by cases hx)⟩;have mi:MI rk a.toList b.toList (#[b[0]]:Array AF).toList 0 1:=L.stepB mi0 b1 λj _ hj=>hf j hj;by_cases c1:1=b.size
 ·rw[if_pos (by rw[<- c1];rfl)]
  exact A1 (h _ _ (Gx.refl _) (L.done mi (by lia)))
 rw[if_neg (by intro z;exact c1 (beq_iff_eq.mp z))];by_cases c2:0+1=a.size
 ·rw[if_pos (by rw[<- c2];rfl)]
  exact A1 (h _ _ (Gx.refl _) (L.last mi (by lia)))
 rw[if_neg (by intro z;exact c2 (beq_iff_eq.mp z))];refine AO (J6 ?_);refine AO (EB (DT (I:=λx c st'=>Gx st st'/\∃out ia ib mg,c=(none,out,ia,ib,mg)/\At rk a b out ia ib/\x+1<=ia+ib)
  (Q:=λc st'=>Gx st st'/\∃x y,c=(some x,y)/\Mg rk a.toList b.toList x.toList) ?_ ?_ ⟨Gx.refl _,_,_,_,_,rfl,⟨mi,by lia,by lia⟩,by lia⟩) ?_)
 ·rintro x c st' _ xn ⟨g,out,ia,ib,mg,rfl,at_,xm⟩
  dsimp only;refine AO (EB (DT (I:=λy c st'=>Y1 rk a b st (x+1+y) c st') (Q:=E1 rk a b st (x+2)) ?_ ?_ ⟨g,_,_,_,_,_,rfl,at_,by lia⟩) ?_)
  ·rintro y c st2 _ yn ⟨g2,out2,ia2,ib2,ac,bc,rfl,at2,hm⟩
   refine EB (AAG C L kd g2 at2 hm) λr st3 hr=>?_;cases r with
   | done c' =>
    obtain ⟨g3,q⟩:=hr;refine ⟨g3,q.imp id λ⟨o,i,j,k,l,e,a',b'⟩=>⟨o,i,j,k,l,e,a',by lia⟩⟩
   | yield c'=>exact hr
  ·rintro c st2 ⟨g2,out2,ia2,ib2,ac,bc,rfl,at2,hm⟩
   exact ⟨g2,.inr ⟨_,_,_,_,_,rfl,at2,by lia⟩⟩
  ·rintro c st2 ⟨g2,⟨r,y,rfl,m⟩ | ⟨out2,ia2,ib2,ac,bc,rfl,at2,hm⟩⟩
   ·exact A1 ⟨g2,_,_,rfl,m⟩
   ·dsimp only
    refine AO (MO (Iy ⟨rfl,?_⟩));refine AO (EB (DT (I:=λy c st'=>Y2 rk a b st (x+2) c st') (Q:=E2 rk a b st (x+2)) ?_ ?_ ⟨g2,_,_,_,_,_,_,rfl,at2,hm⟩) ?_)
    ·rintro y c st3 _ yn ⟨g3,out3,ia3,ib3,mg3,ac3,bc3,rfl,at3,hm3⟩
     dsimp only;split
     ·exact EB (Ni C L kd g3 at3 hm3) λr st4 hr=>by cases r<;>exact hr
     ·exact EB (Ni C L kd g3 at3 hm3) λr st4 hr=>by cases r<;>exact hr
    ·rintro c st3 ⟨g3,out3,ia3,ib3,mg3,ac3,bc3,rfl,at3,hm3⟩
     exact ⟨g3,.inr ⟨_,_,_,_,_,_,rfl,at3,hm3⟩⟩
    ·rintro c st3 ⟨g3,⟨r,y,rfl,m⟩ | ⟨out3,ia3,ib3,mg3,ac3,bc3,rfl,at3,hm3⟩⟩
     ·exact A1 ⟨g3,_,_,rfl,m⟩
     ·refine AO (setMin (A1 ⟨Qe g3 _,_,_,_,_,rfl,at3,by lia⟩))
 ·rintro c st' ⟨g,out,ia,ib,mg,rfl,⟨_,la,lb⟩,xm⟩
  lia
 ·rintro c st' ⟨g,x,y,rfl,m⟩
  exact A1 (h _ _ g m)
end
variable{rk:AF->Int}{prog:AK}{w:AR}{A:B6}{E:Au->AA->Prop}{s:AA}{G:AF->Prop}{κ:EJ}{a₀:Array AF}
abbrev hiDone(a b out:Array AF)(na nb:Nat):Array AF:=a.extract 0 na++b.extract 0 nb++out.reverse
abbrev Gn(a b out:Array AF)(na nb:Nat):Array AF:=b.extract 0 nb++a.extract 0 na++out.reverse
abbrev T1:=Option (Array AF)×Nat×Nat×Array AF×Nat×Nat
abbrev T2:=Option (Array AF)×Nat×Nat×Array AF×Nat×Nat×Nat
abbrev T0:=Option (Array AF)×Nat×Nat×Array AF×Nat
def hiOne(a b:Array AF)(mg:Nat)(r:T1):StateT BF Sem (ForInStep T1):=do
 let y <- DH b (r.snd.snd.fst-1)
 let x <- DH a (r.snd.fst-1)
 let c <- lt' y x
 match c with
 | some aWins =>
  if aWins=true then do
   let x <- DH a (r.snd.fst-1)
   if (r.snd.fst-1==0)=true then
    pure (BY (some (hiDone a b (r.snd.snd.snd.fst.push x) (r.snd.fst-1) r.snd.snd.fst),r.snd.fst-1,r.snd.snd.fst,r.snd.snd.snd.fst.push x,r.snd.snd.snd.snd.fst+1,0))
   else if r.snd.snd.snd.snd.fst+1 >= mg then
    pure (BY (none,r.snd.fst-1,r.snd.snd.fst,r.snd.snd.snd.fst.push x,r.snd.snd.snd.snd.fst+1,0))
   else pure (C6 (none,r.snd.fst-1,r.snd.snd.fst,r.snd.snd.snd.fst.push x,r.snd.snd.snd.snd.fst+1,0))
  else do
   let y <- DH b (r.snd.snd.fst-1)
   if (r.snd.snd.fst-1==1)=true then
    pure (BY (some (Gn a b (r.snd.snd.snd.fst.push y) r.snd.fst (r.snd.snd.fst-1)),r.snd.fst,r.snd.snd.fst-1,r.snd.snd.snd.fst.push y,0,r.snd.snd.snd.snd.snd+1))
   else if r.snd.snd.snd.snd.snd+1 >= mg then
    pure (BY (none,r.snd.fst,r.snd.snd.fst-1,r.snd.snd.snd.fst.push y,0,r.snd.snd.snd.snd.snd+1))
   else pure (C6 (none,r.snd.fst,r.snd.snd.fst-1,r.snd.snd.snd.fst.push y,0,r.snd.snd.snd.snd.snd+1))
 | _=>pure (BY (some (hiDone a b r.snd.snd.snd.fst r.snd.fst r.snd.snd.fst),r.snd.fst,r.snd.snd.fst,r.snd.snd.snd.fst,r.snd.snd.snd.snd.fst,r.snd.snd.snd.snd.snd))
def hiEnd(a b:Array AF)(mg ac bc:Nat)(out:Array AF)(na nb:Nat):StateT BF Sem (ForInStep T2):=do
 let x <- DH a (na-1)
 if (na-1==0)=true then pure (BY (some (hiDone a b (out.push x) (na-1) nb),na-1,nb,out.push x,mg,ac,bc))
 else if (decide (ac<7)&&decide (bc<7))=true then pure (BY (none,na-1,nb,out.push x,mg,ac,bc))
 else pure (C6 (none,na-1,nb,out.push x,mg,ac,bc))
def hiMid(a b:Array AF)(mg k bc:Nat)(out:Array AF)(na nb:Nat):StateT BF Sem (ForInStep T2):=do
 let y <- DH b (nb-1)
 if (nb-1==1)=true then pure (BY (some (Gn a b (out.push y) na (nb-1)),na,nb-1,out.push y,mg,k,bc))
 else do
  let x <- DH a (na-1)
  let r <- Cv true x b 0 (nb-1) (nb-1-1)
  match r with
  | some t =>
   if nb-1-t>0 then
    if (t==1)=true then pure (BY (some (Gn a b (out.push y++(b.extract t (nb-1)).reverse) na t),na,t,out.push y++(b.extract t (nb-1)).reverse,mg,k,nb-1-t))
    else if (t==0)=true then pure (BY (some (hiDone a b (out.push y++(b.extract t (nb-1)).reverse) na t),na,t,out.push y++(b.extract t (nb-1)).reverse,mg,k,nb-1-t))
    else hiEnd a b mg k (nb-1-t) (out.push y++(b.extract t (nb-1)).reverse) na t
   else hiEnd a b mg k (nb-1-t) (out.push y) na (nb-1)
  | _=>pure (BY (some (hiDone a b (out.push y) na (nb-1)),na,nb-1,out.push y,mg,k,bc))
def hiGal(a b:Array AF)(mg ac bc:Nat)(out:Array AF)(na nb:Nat):StateT BF Sem (ForInStep T2):=do
 Dh mg
 let y <- DH b (nb-1)
 let r <- Cv false y a 0 na (na-1)
 match r with
 | some t =>
  if na-t>0 then
   if (t==0)=true then pure (BY (some (hiDone a b (out++(a.extract t na).reverse) t nb),t,nb,out++(a.extract t na).reverse,mg,na-t,bc))
   else hiMid a b mg (na-t) bc (out++(a.extract t na).reverse) t nb
  else hiMid a b mg (na-t) bc out na nb
 | _=>pure (BY (some (hiDone a b out na nb),na,nb,out,mg,ac,bc))
def Ia:Array AF->Array AF->StateT BF Sem (Array AF):=sortPriv% PySem.Builtin.mergeHi
theorem WD(a b:Array AF):Ia a b=(do
 rule "list.sort.merge-hi"
 let total:=a.size+b.size
 let done (out:Array AF) (na nb:Nat):=a.extract 0 na++b.extract 0 nb++out.reverse
 let firstOfB (out:Array AF) (na nb:Nat):=b.extract 0 nb++a.extract 0 na++out.reverse
 let mut na:=a.size-1
 let mut nb:=b.size
 let mut out:Array AF:=#[<- DH a na]
 if na==0 then return done out na nb
 if nb==1 then return firstOfB out na nb
 let mut minGallop:=QA (<- get)
 for _ in [0:total] do
  let mut acount:=0
  let mut bcount:=0
  for _ in [0:total] do
   let some aWins <- lt' (<- DH b (nb-1)) (<- DH a (na-1)) | return done out na nb
   if aWins then
    na:=na-1;out:=out.push (<- DH a na);acount:=acount+1;bcount:=0
    if na==0 then return done out na nb
    if acount >= minGallop then break
   else
    nb:=nb-1;out:=out.push (<- DH b nb);bcount:=bcount+1;acount:=0
    if nb==1 then return firstOfB out na nb
    if bcount >= minGallop then break
  rule "list.sort.gallop"
  minGallop:=minGallop+1
  for _ in [0:total] do
   if minGallop>1 then minGallop:=minGallop-1
   Dh minGallop
   let some at_ <- Cv false (<- DH b (nb-1)) a 0 na (na-1) | return done out na nb
   let k:=na-at_
   acount:=k
   if k>0 then
    out:=out++(a.extract at_ na).reverse;na:=at_
    if na==0 then return done out na nb
   nb:=nb-1;out:=out.push (<- DH b nb)
   if nb==1 then return firstOfB out na nb
   let some at_ <- Cv true (<- DH a (na-1)) b 0 nb (nb-1) | return done out na nb
   let k:=nb-at_
   bcount:=k
   if k>0 then
    out:=out++(b.extract at_ nb).reverse;nb:=at_
    if nb==1 then return firstOfB out na nb
    if nb==0 then return done out na nb
   na:=na-1;out:=out.push (<- DH a na)
   if na==0 then return done out na nb
   if acount<7&&bcount<7 then break
  minGallop:=minGallop+1
  Dh minGallop
 unsupported "internal:list.sort.merge-bound"):=rfl
theorem Uj(a b:Array AF):Ia a b=(do
 liftM (rule "list.sort.merge-hi")
 let x <- DH a (a.size-1)
 if (a.size-1==0)=true then pure (hiDone a b #[x] (a.size-1) b.size)
 else if (b.size==1)=true then pure (Gn a b #[x] (a.size-1) b.size)
 else do
  let g <- get
  let r <- forIn [0:a.size+b.size] ((none,a.size-1,b.size,#[x],QA g):T0) λ_ r0=>do
   let r1 <- forIn [0:a.size+b.size] ((none,r0.snd.fst,r0.snd.snd.fst,r0.snd.snd.snd.fst,0,0):T1) λ_ r=>hiOne a b r0.snd.snd.snd.snd r
   match r1.fst with
   | some x=>pure (BY ((some x,r1.snd.fst,r1.snd.snd.fst,r1.snd.snd.snd.fst,r0.snd.snd.snd.snd):T0))
   | none=>do
    liftM (rule "list.sort.gallop")
    let r2 <- forIn [0:a.size+b.size] ((none,r1.snd.fst,r1.snd.snd.fst,r1.snd.snd.snd.fst,r0.snd.snd.snd.snd+1,r1.snd.snd.snd.snd.fst,r1.snd.snd.snd.snd.snd):T2) λ_ r =>
     if r.snd.snd.snd.snd.fst>1 then hiGal a b (r.snd.snd.snd.snd.fst-1) r.snd.snd.snd.snd.snd.fst r.snd.snd.snd.snd.snd.snd r.snd.snd.snd.fst r.snd.fst r.snd.snd.fst
     else hiGal a b r.snd.snd.snd.snd.fst r.snd.snd.snd.snd.snd.fst r.snd.snd.snd.snd.snd.snd r.snd.snd.snd.fst r.snd.fst r.snd.snd.fst
    match r2.fst with
    | some x=>pure (BY ((some x,r2.snd.fst,r2.snd.snd.fst,r2.snd.snd.snd.fst,r2.snd.snd.snd.snd.fst):T0))
    | none=>do
     Dh (r2.snd.snd.snd.snd.fst+1)
     pure (C6 ((none,r2.snd.fst,r2.snd.snd.fst,r2.snd.snd.snd.fst,r2.snd.snd.snd.snd.fst+1):T0))
  match r.fst with
  | some x=>pure x
  | none=>unsupported "internal:list.sort.merge-bound"):=by
 rw[WD];dsimp only
 congr 1
 funext _
 congr 1
 funext y
 refine ifc rfl (ifc rfl ?_)
 congr 1
 funext g
 congr 1
 ·congr 1
  funext x r0
  congr 1
  funext r1
  obtain ⟨o1,r1⟩:=r1;cases o1 with
  | some x=>rfl
  | none =>
   dsimp only
   congr 1
   funext u
   congr 1
   funext r2
   obtain ⟨o2,r2⟩:=r2;cases o2<;>rfl
 ·funext r
  obtain ⟨o,r⟩:=r;cases o<;>rfl
variable{rk:AF->Int}{prog:AK}{w:AR}{A:B6}{E:Au->AA->Prop}{s:AA}{G:AF->Prop}{κ:EJ}{a₀:Array AF}
abbrev nk(rk:AF->Int):AF->Int:=λx=>- rk x
theorem Vn{a b l q:List AF}(m:Mg (nk rk) b.reverse a.reverse l)(e:q=l.reverse):Mg rk a b q:=by
 obtain ⟨p,sr⟩:=m;subst e;refine ⟨(NN l).trans (p.trans ?_),?_⟩
 ·exact (((NN b).append (NN a))).trans HH
 ·exact PD.mpr (sr.imp λ{x y} h=>by
   have:- rk x<=- rk y:=h;lia)
theorem Dm{a:Array AF}{n:Nat}(h:n<=a.size):a.toList.reverse.drop (a.size-n)=(a.toList.take n).reverse:=by
 rw[List.drop_reverse]
 congr 2
 simp;lia
section
variable{a b:Array AF}{st:BF}
def HAt(rk:AF->Int)(a b out:Array AF)(na nb:Nat):Prop:=MI (nk rk) b.toList.reverse a.toList.reverse out.toList (b.size-nb) (a.size-na)/\na<=a.size/\nb<=b.size
structure Hi(G:AF->Prop)(rk:AF->Int)(a b:Array AF):Prop where
 ga:Al G a
 gb:Al G b
 sa:Srt rk a.toList
 sb:Srt rk b.toList
 hf:∀j,∀hj:j<a.size,∀h0:0<b.size,rk b[0]<=rk a[j]
theorem Fj{l:List AF}(h:Srt rk l):Srt (nk rk) l.reverse:=PD.mpr (h.imp λ{x y} h=>by show-rk y<=- rk x;lia)
theorem Eu{a:Array AF}{n:Nat}{z:AF}(hn:n<=a.size)(h:z∈a.toList.reverse.drop (a.size-n)):∃j,j<n/\∃hj:j<a.size,z=a[j]:=by
 rw[Dm hn] at h;have h':=IQ.mp h;obtain ⟨k,hk,e⟩:=C0.mp h';rw[BQ] at hk;have:a.toList.length=a.size:=by simp
 refine ⟨k,by lia,by lia,?_⟩;rw[<- e,J0];simp
theorem rtake{a:Array AF}{n t:Nat}(hn:n<=a.size)(ht:t<=n):(a.toList.reverse.drop (a.size-n)).take (n-t)=((a.toList.drop t).take (n-t)).reverse:=by
 rw[Dm hn,List.take_reverse]
 congr 1
 have:a.toList.length=a.size:=by simp
 rw[BQ,show min n a.toList.length-(n-t)=t by lia,List.drop_take]
theorem Tf{out a:Array AF}{n t:Nat}(hn:n<=a.size)(ht:t<=n):(out++(a.extract t n).reverse).toList=out.toList++(a.toList.reverse.drop (a.size-n)).take (n-t):=by
 rw[rtake hn ht,DD,Kk,G1]
theorem PK{out a:Array AF}{n:Nat}(h1:1<=n)(hn:n<=a.size):(out.push (a[n-1]'(by lia))).toList=out.toList++(a.toList.reverse.drop (a.size-n)).take 1:=by
 have:=rtake (a:=a) (n:=n) (t:=n-1) hn (by lia);rw[show n-(n-1)=1 by lia] at this;rw[this,J1]
 congr 1
 have hl:n-1<a.toList.length:=by simp;lia
 rw[KM hl,MB,MQ];simp
theorem Hi.stepA(L:Hi G rk a b){out:Array AF}{na nb:Nat}(m:HAt rk a b out na nb)(h1:1<=na)(h:∀j,j<nb->∀hj:j<b.size,rk b[j]<=rk (a[na-1]'(by have:=m.2.1;lia))):HAt rk a b (out.push (a[na-1]'(by have:=m.2.1;lia))) (na-1) nb:=by
 obtain ⟨mi,ha,hb⟩:=m;refine ⟨?_,by lia,hb⟩;rw[PK h1 ha,show a.size-(na-1)=a.size-na+1 by lia];refine mi.takeB (Fj L.sa) 1 λy hy z hz=>?_;rw[show (1:Nat)=na-(na-1) by lia,rtake ha (by lia)] at hy;obtain ⟨j,j1,j2,hj,rfl⟩:=CT (IQ.mp hy);have:j=na-1:=by lia
 subst this;obtain ⟨i,i1,hi,rfl⟩:=Eu hb hz;have:=h i i1 hi;show-_<=- _;lia
theorem Hi.stepB(L:Hi G rk a b){out:Array AF}{na nb:Nat}(m:HAt rk a b out na nb)(h1:1<=nb)(h:∀j,j<na->∀hj:j<a.size,rk a[j]<=rk (b[nb-1]'(by have:=m.2.2;lia))):HAt rk a b (out.push (b[nb-1]'(by have:=m.2.2;lia))) na (nb-1):=by
 obtain ⟨mi,ha,hb⟩:=m;refine ⟨?_,ha,by lia⟩;rw[PK h1 hb,show b.size-(nb-1)=b.size-nb+1 by lia];refine mi.takeA (Fj L.sb) 1 λy hy z hz=>?_;rw[show (1:Nat)=nb-(nb-1) by lia,rtake hb (by lia)] at hy;obtain ⟨j,j1,j2,hj,rfl⟩:=CT (IQ.mp hy);have:j=nb-1:=by lia
 subst this;obtain ⟨i,i1,hi,rfl⟩:=Eu ha hz;have:=h i i1 hi;show-_<=- _;lia
theorem Hi.manyA(L:Hi G rk a b){out:Array AF}{na nb t:Nat}(m:HAt rk a b out na nb)(ht:t<=na)(h:∀i,t<=i->i<na->∀hi:i<a.size,∀j,j<nb->∀hj:j<b.size,rk b[j]<=rk a[i]):HAt rk a b (out++(a.extract t na).reverse) t nb:=by
 obtain ⟨mi,ha,hb⟩:=m;refine ⟨?_,by lia,hb⟩;rw[Tf ha ht,show a.size-t=a.size-na+(na-t) by lia];refine mi.takeB (Fj L.sa) _ λy hy z hz=>?_;rw[rtake ha ht] at hy;obtain ⟨i,i1,i2,hi,rfl⟩:=CT (IQ.mp hy);obtain ⟨j,j1,hj,rfl⟩:=Eu hb hz;have:=h i i1 (by lia) hi j j1 hj;show-_<=- _;lia
theorem Hi.manyB(L:Hi G rk a b){out:Array AF}{na nb t:Nat}(m:HAt rk a b out na nb)(ht:t<=nb)(h:∀i,t<=i->i<nb->∀hi:i<b.size,∀j,j<na->∀hj:j<a.size,rk a[j]<=rk b[i]):HAt rk a b (out++(b.extract t nb).reverse) na t:=by
 obtain ⟨mi,ha,hb⟩:=m;refine ⟨?_,ha,by lia⟩;rw[Tf hb ht,show b.size-t=b.size-nb+(nb-t) by lia];refine mi.takeA (Fj L.sb) _ λy hy z hz=>?_;rw[rtake hb ht] at hy;obtain ⟨i,i1,i2,hi,rfl⟩:=CT (IQ.mp hy);obtain ⟨j,j1,hj,rfl⟩:=Eu ha hz;have:=h i i1 (by lia) hi j j1 hj;show-_<=- _;lia
theorem Gg(a:Array AF)(n:Nat):(a.extract 0 n).toList=a.toList.take n:=by
 rw[G1];simp[Sj]
theorem Hi.doneA(L:Hi G rk a b){out:Array AF}{na nb:Nat}(m:HAt rk a b out na nb)(z:na=0):Mg rk a.toList b.toList (hiDone a b out na nb).toList:=by
 subst z;obtain ⟨mi,ha,hb⟩:=m;refine Vn (mi.doneB (Fj L.sb) (by simp)) ?_;rw[Dm hb,Dm ha];unfold hiDone;rw[DD,DD,Kk,Gg,Gg,Ha,Ha,G2,G2,CD]
theorem Hi.doneB(L:Hi G rk a b){out:Array AF}{na nb:Nat}(m:HAt rk a b out na nb)(z:nb=0):Mg rk a.toList b.toList (hiDone a b out na nb).toList:=by
 subst z;obtain ⟨mi,ha,hb⟩:=m;refine Vn (mi.doneA (Fj L.sa) (by simp)) ?_;rw[Dm hb,Dm ha];unfold hiDone;rw[DD,DD,Kk,Gg,Gg,Ha,Ha,G2,G2,CD]
theorem Hi.first(L:Hi G rk a b){out:Array AF}{na nb:Nat}(m:HAt rk a b out na nb)(z:nb=1):Mg rk a.toList b.toList (Gn a b out na nb).toList:=by
 subst z;obtain ⟨mi,ha,hb⟩:=m;refine Vn (mi.last (Fj L.sa) (by simp;lia) λy hy z hz=>?_) ?_
 ·obtain ⟨j,j1,hj,rfl⟩:=Eu hb hz
  have:j=0:=by lia
  subst this;obtain ⟨i,hi,rfl⟩:=C0.mp (IQ.mp hy);have hi':i<a.size:=by simpa using hi
  have:=L.hf i hi' hj;show-rk _<=- rk _;simp;lia
 ·rw[Dm hb,Dm ha]
  unfold Gn;rw[DD,DD,Kk,Gg,Gg,Ha,Ha,G2,G2,CD]
def F1(rk:AF->Int)(a b:Array AF)(st:BF)(m:Nat)(r:T1)(st':BF):Prop:=Gx st st'/\((∃x y,r=(some x,y)/\Mg rk a.toList b.toList x.toList)\/∃out na nb ac bc,r=(none,na,nb,out,ac,bc)/\HAt rk a b out na nb/\1<=na/\2<=nb/\na+nb+m<=a.size+b.size)
def F2(rk:AF->Int)(a b:Array AF)(st:BF)(m:Nat)(r:T2)(st':BF):Prop:=Gx st st'/\((∃x y,r=(some x,y)/\Mg rk a.toList b.toList x.toList)\/∃out na nb mg ac bc,r=(none,na,nb,out,mg,ac,bc)/\HAt rk a b out na nb/\1<=na/\2<=nb/\na+nb+m<=a.size+b.size)
def Z1(rk:AF->Int)(a b:Array AF)(st:BF)(m:Nat)(r:T1)(st':BF):Prop:=Gx st st'/\∃out na nb ac bc,r=(none,na,nb,out,ac,bc)/\HAt rk a b out na nb/\1<=na/\2<=nb/\na+nb+m<=a.size+b.size
def Z2(rk:AF->Int)(a b:Array AF)(st:BF)(m:Nat)(r:T2)(st':BF):Prop:=Gx st st'/\∃out na nb mg ac bc,r=(none,na,nb,out,mg,ac,bc)/\HAt rk a b out na nb/\1<=na/\2<=nb/\na+nb+m<=a.size+b.size
theorem Zh(C:Cmp prog w A E s κ G rk)(L:Hi G rk a b){mg m na nb ac bc:Nat}{out:Array AF}{st0:BF}(kd:kindOf st0=κ)(g:Gx st0 st)(at_:HAt rk a b out na nb)(n1:1<=na)(n2:2<=nb)(hm:na+nb+m<=a.size+b.size) :
  wpS (AM prog w) A E s (hiOne a b mg (none,na,nb,out,ac,bc)) (λr st'=>match r with | .done c'=>F1 rk a b st0 (m+1) c' st' | .yield c'=>Z1 rk a b st0 (m+1) c' st') st:=by
 obtain ⟨_,ha,hb⟩:=id at_;have la:na-1<a.size:=by lia
 have lb:nb-1<b.size:=by lia
 unfold hiOne;dsimp only;refine AO (Bg lb (AO (Bg la (AO (C _ _ (L.gb.at lb) (L.ga.at la) st _ (g.kind.trans kd) ?_)))));by_cases c:rk b[nb-1]<rk a[na-1]
 ·rw[decide_eq_true c]
  dsimp only;rw[if_pos rfl];refine AO (Bg la ?_);have mi':=L.stepA at_ n1 λj j1 hj=>EK (Ep L.sb (show j<=nb-1 by lia) lb) (G0 c);by_cases c1:na-1=0
  ·rw[if_pos (by rw[c1];rfl)]
   exact A1 ⟨g,.inl ⟨_,_,rfl,L.doneA mi' c1⟩⟩
  ·rw[if_neg (by intro z;exact c1 (beq_iff_eq.mp z))]
   by_cases c2:ac+1 >= mg
   ·rw[if_pos c2]
    exact A1 ⟨g,.inr ⟨_,_,_,_,_,rfl,mi',by lia,n2,by lia⟩⟩
   ·rw[if_neg c2]
    exact A1 ⟨g,_,_,_,_,_,rfl,mi',by lia,n2,by lia⟩
 ·rw[decide_eq_false c]
  dsimp only;rw[if_neg (by decide)];refine AO (Bg lb ?_);have mi':=L.stepB at_ (by lia) λj j1 hj=>EK (Ep L.sa (show j<=na-1 by lia) la) (IE.mp c);by_cases c1:nb-1=1
  ·rw[if_pos (by rw[c1];rfl)]
   exact A1 ⟨g,.inl ⟨_,_,rfl,L.first mi' c1⟩⟩
  ·rw[if_neg (by intro z;exact c1 (beq_iff_eq.mp z))]
   by_cases c2:bc+1 >= mg
   ·rw[if_pos c2]
    exact A1 ⟨g,.inr ⟨_,_,_,_,_,rfl,mi',n1,by lia,by lia⟩⟩
   ·rw[if_neg c2]
    exact A1 ⟨g,_,_,_,_,_,rfl,mi',n1,by lia,by lia⟩
theorem Ox(L:Hi G rk a b){mg m na nb ac bc:Nat}{out:Array AF}{st0:BF}(g:Gx st0 st)(at_:HAt rk a b out na nb)(n1:1<=na)(n2:2<=nb)(h:∀j,j<nb->∀hj:j<b.size,rk b[j]<=rk (a[na-1]'(by have:=at_.2.1;lia)))(hm:na+nb+m<=a.size+b.size) :
  wpS (AM prog w) A E s (hiEnd a b mg ac bc out na nb) (λr st'=>match r with | .done c'=>F2 rk a b st0 m c' st' | .yield c'=>Z2 rk a b st0 m c' st') st:=by
 obtain ⟨_,ha,hb⟩:=id at_;have la:na-1<a.size:=by lia
 unfold hiEnd;refine AO (Bg la ?_);have mi':=L.stepA at_ n1 h;by_cases c1:na-1=0
 ·rw[if_pos (by rw[c1];rfl)]
  exact A1 ⟨g,.inl ⟨_,_,rfl,L.doneA mi' c1⟩⟩
 ·rw[if_neg (by intro z;exact c1 (beq_iff_eq.mp z))]
  by_cases c2:(decide (ac<7)&&decide (bc<7))=true
  ·rw[if_pos c2]
   exact A1 ⟨g,.inr ⟨_,_,_,_,_,_,rfl,mi',by lia,n2,by lia⟩⟩
  ·rw[if_neg c2]
   exact A1 ⟨g,_,_,_,_,_,_,rfl,mi',by lia,n2,by lia⟩
theorem Oc(C:Cmp prog w A E s κ G rk)(L:Hi G rk a b){mg m k bc na nb:Nat}{out:Array AF}{st0:BF}(kd:kindOf st0=κ)(g:Gx st0 st)(at_:HAt rk a b out na nb)(n1:1<=na)(n2:2<=nb)(h:∀j,j<na->∀hj:j<a.size,rk a[j]<=rk (b[nb-1]'(by have:=at_.2.2;lia)))(hm:na+nb+m<=a.size+b.size) :
  wpS (AM prog w) A E s (hiMid a b mg k bc out na nb) (λr st'=>match r with | .done c'=>F2 rk a b st0 m c' st' | .yield c'=>Z2 rk a b st0 m c' st') st:=by
 obtain ⟨_,ha,hb⟩:=id at_;have la:na-1<a.size:=by lia
 have lb:nb-1<b.size:=by lia
 unfold hiMid;refine AO (Bg lb ?_);have mi':=L.stepB at_ (by lia) h;by_cases c1:nb-1=1
 ·rw[if_pos (by rw[c1];rfl)]
  exact A1 ⟨g,.inl ⟨_,_,rfl,L.first mi' c1⟩⟩
 ·rw[if_neg (by intro z;exact c1 (beq_iff_eq.mp z))]
  refine AO (Bg la ?_);refine AO (DX C (L.ga.at la) L.gb (g.kind.trans kd) (by lia) (by lia) (Ez (QD L.sb (by lia))) λt kn kt kf=>?_);dsimp only;have t1:∀i,i<t->∀hi:i<b.size,rk b[i]<rk a[na-1]:=λi i1 hi=>by
   have z:=kt i i1;rw[Es (by lia)] at z;simp only[K2] at z;exact of_decide_eq_true z
  have t2:∀j,t<=j->j<nb-1->∀hj:j<b.size,rk a[na-1]<=rk b[j]:=λi i1 i2 hi=>by
   have z:=kf i i1 i2;rw[Es (by lia)] at z;simp only[K2] at z;exact IE.mp (of_decide_eq_false z)
  by_cases c2:nb-1-t>0
  ·rw[if_pos c2]
   have mi2:=L.manyB (t:=t) mi' (by lia) λi i1 i2 hi j j1 hj=>EK (Ep L.sa (show j<=na-1 by lia) la) (t2 i i1 i2 hi);by_cases c3:t=1
   ·rw[if_pos (by rw[c3];rfl)]
    exact A1 ⟨g,.inl ⟨_,_,rfl,L.first mi2 c3⟩⟩
   ·rw[if_neg (by intro z;exact c3 (beq_iff_eq.mp z))]
    by_cases c4:t=0
    ·rw[if_pos (by rw[c4];rfl)]
     exact A1 ⟨g,.inl ⟨_,_,rfl,L.doneB mi2 c4⟩⟩
    ·rw[if_neg (by intro z;exact c4 (beq_iff_eq.mp z))]
     exact Ox L g mi2 n1 (by lia) (λj j1 hj=>G0 (t1 j j1 hj)) (by lia)
  ·rw[if_neg c2]
   exact Ox L g mi' n1 (by lia) (λj j1 hj=>G0 (t1 j (by lia) hj)) (by lia)
theorem Ny(C:Cmp prog w A E s κ G rk)(L:Hi G rk a b){mg m ac bc na nb:Nat}{out:Array AF}{st0:BF}(kd:kindOf st0=κ)(g:Gx st0 st)(at_:HAt rk a b out na nb)(n1:1<=na)(n2:2<=nb)(hm:na+nb+m<=a.size+b.size) :
  wpS (AM prog w) A E s (hiGal a b mg ac bc out na nb) (λr st'=>match r with | .done c'=>F2 rk a b st0 m c' st' | .yield c'=>Z2 rk a b st0 m c' st') st:=by
 obtain ⟨_,ha,hb⟩:=id at_;have lb:nb-1<b.size:=by lia
 unfold hiGal;refine AO (setMin ?_);have g':=Qe g mg;generalize JP (kindOf st) (AN st) (BG st) mg (FM st)=st1 at g';refine AO (Bg lb ?_);refine AO (DX C (L.gb.at lb) L.ga (g'.kind.trans kd) (by lia) (by lia) (Ez (QD L.sa (by lia))) λt kn kt kf=>?_);dsimp only;have t1:∀i,i<t->∀hi:i<a.size,rk a[i]<=rk b[nb-1]:=λi i1 hi=>by
  have z:=kt i i1;rw[Ea (by lia)] at z;simp only[K2] at z;refine IE.mp λy=>?_;rw[decide_eq_true y] at z;cases z
 have t2:∀j,t<=j->j<na->∀hj:j<a.size,rk b[nb-1]<=rk a[j]:=λi i1 i2 hi=>by
  have z:=kf i i1 i2;rw[Ea (by lia)] at z;simp only[K2] at z;have z':decide (rk b[nb-1]<rk a[i])=true:=by
   cases q:decide (rk b[nb-1]<rk a[i]) with
   | true=>rfl
   | false=>rw[q] at z;cases z
  exact G0 (of_decide_eq_true z')
 by_cases c2:na-t>0
 ·rw[if_pos c2]
  have mi2:=L.manyA (t:=t) at_ kn λi i1 i2 hi j j1 hj=>EK (Ep L.sb (show j<=nb-1 by lia) lb) (t2 i i1 i2 hi);by_cases c3:t=0
  ·rw[if_pos (by rw[c3];rfl)]
   exact A1 ⟨g',.inl ⟨_,_,rfl,L.doneA mi2 c3⟩⟩
  ·rw[if_neg (by intro z;exact c3 (beq_iff_eq.mp z))]
   exact Oc C L kd g' mi2 (by lia) n2 (λj j1 hj=>t1 j j1 hj) (by lia)
 ·rw[if_neg c2]
  exact Oc C L kd g' at_ n1 n2 (λj j1 hj=>t1 j (by lia) hj) hm
theorem Sy(C:Cmp prog w A E s κ G rk)(L:Hi G rk a b)(kd:kindOf st=κ)(a1:1<=a.size)(b1:1<=b.size)(hl:∀j,∀hj:j<b.size,rk b[j]<=rk (a[a.size-1]'(by lia))){Q:Array AF->BF->Prop}(h:∀r st',Gx st st'->Mg rk a.toList b.toList r.toList->Q r st'):wpS (AM prog w) A E s (Ia a b) Q st:=by
 rw[Uj];refine AO (MO (Iy ⟨rfl,?_⟩));refine AO (Bg (by lia) ?_);have mi0:HAt rk a b #[] a.size b.size:=⟨by
  rw[IN,IN];exact ⟨HH.trans HH,Lm,λx hx=>(by cases hx),λx hx=>(by cases hx)⟩,AE _,AE _⟩
 have mi:HAt rk a b #[a[a.size-1]] (a.size-1) b.size:=L.stepA mi0 a1 λj _ hj=>hl j hj;by_cases c1:a.size-1=0
 ·rw[if_pos (by rw[c1];rfl)]
  exact A1 (h _ _ (Gx.refl _) (L.doneA mi c1))
 rw[if_neg (by intro z;exact c1 (beq_iff_eq.mp z))];by_cases c2:b.size=1
 ·rw[if_pos (by rw[c2];rfl)]
  exact A1 (h _ _ (Gx.refl _) (L.first mi c2))
 rw[if_neg (by intro z;exact c2 (beq_iff_eq.mp z))];refine AO (J6 ?_);refine AO (EB (DT (I:=λx c st'=>Gx st st'/\∃out na nb mg,c=(none,na,nb,out,mg)/\HAt rk a b out na nb/\1<=na/\2<=nb/\na+nb+(x+1)<=a.size+b.size)
  (Q:=λc st'=>Gx st st'/\∃x y,c=(some x,y)/\Mg rk a.toList b.toList x.toList) ?_ ?_ ⟨Gx.refl _,_,_,_,_,rfl,mi,by lia,by lia,by lia⟩) ?_)
 ·rintro x c st' _ xn ⟨g,out,na,nb,mg,rfl,at_,n1,n2,xm⟩
  dsimp only;refine AO (EB (DT (I:=λy c st'=>Z1 rk a b st (x+1+y) c st') (Q:=F1 rk a b st (x+2)) ?_ ?_ ⟨g,_,_,_,_,_,rfl,at_,n1,n2,by lia⟩) ?_)
  ·rintro y c st2 _ yn ⟨g2,out2,na2,nb2,ac,bc,rfl,at2,m1,m2,hm⟩
   refine EB (Zh C L kd g2 at2 m1 m2 hm) λr st3 hr=>?_;cases r with
   | done c' =>
    obtain ⟨g3,q⟩:=hr;refine ⟨g3,q.imp id λ⟨o,i,j,k,l,e,a',b',c',d'⟩=>⟨o,i,j,k,l,e,a',b',c',by lia⟩⟩
   | yield c'=>exact hr
  ·rintro c st2 ⟨g2,out2,na2,nb2,ac,bc,rfl,at2,m1,m2,hm⟩
   exact ⟨g2,.inr ⟨_,_,_,_,_,rfl,at2,m1,m2,by lia⟩⟩
  ·rintro c st2 ⟨g2,⟨r,y,rfl,m⟩ | ⟨out2,na2,nb2,ac,bc,rfl,at2,m1,m2,hm⟩⟩
   ·exact A1 ⟨g2,_,_,rfl,m⟩
   ·dsimp only
    refine AO (MO (Iy ⟨rfl,?_⟩));refine AO (EB (DT (I:=λy c st'=>Z2 rk a b st (x+2) c st') (Q:=F2 rk a b st (x+2)) ?_ ?_ ⟨g2,_,_,_,_,_,_,rfl,at2,m1,m2,hm⟩) ?_)
    ·rintro y c st3 _ yn ⟨g3,out3,na3,nb3,mg3,ac3,bc3,rfl,at3,k1,k2,hm3⟩
     dsimp only;split
     ·exact EB (Ny C L kd g3 at3 k1 k2 hm3) λr st4 hr=>by cases r<;>exact hr
     ·exact EB (Ny C L kd g3 at3 k1 k2 hm3) λr st4 hr=>by cases r<;>exact hr
    ·rintro c st3 ⟨g3,out3,na3,nb3,mg3,ac3,bc3,rfl,at3,k1,k2,hm3⟩
     exact ⟨g3,.inr ⟨_,_,_,_,_,_,rfl,at3,k1,k2,hm3⟩⟩
    ·rintro c st3 ⟨g3,⟨r,y,rfl,m⟩ | ⟨out3,na3,nb3,mg3,ac3,bc3,rfl,at3,k1,k2,hm3⟩⟩
     ·exact A1 ⟨g3,_,_,rfl,m⟩
     ·refine AO (setMin (A1 ⟨Qe g3 _,_,_,_,_,rfl,at3,k1,k2,by lia⟩))
 ·rintro c st' ⟨g,out,na,nb,mg,rfl,at_,n1,n2,xm⟩
  lia
 ·rintro c st' ⟨g,x,y,rfl,m⟩
  exact A1 (h _ _ g m)
end
variable{rk:AF->Int}{prog:AK}{w:AR}{A:B6}{E:Au->AA->Prop}{s:AA}{G:AF->Prop}{κ:EJ}{a₀:Array AF}
def lay(arr:Array AF)(sa:Nat)(r:Array AF):Array AF:=r.toList.zipIdx.foldl (λa (p,j)=>a.setIfInBounds (sa+j) p) arr
theorem Rf(sa:Nat):∀(l:List AF) (k:Nat) (arr:Array AF),sa+k+l.length<=arr.size->∀q:Nat,
  ((l.zipIdx k).foldl (λa (x:AF×Nat)=>a.setIfInBounds (sa+x.2) x.1) arr).size=arr.size/\((l.zipIdx k).foldl (λa (x:AF×Nat)=>a.setIfInBounds (sa+x.2) x.1) arr)[q]?=if sa+k<=q/\q<sa+k+l.length then l[q-(sa+k)]? else arr[q]?
 | [],k,arr,h,q=>by
  refine ⟨rfl,?_⟩;rw[if_neg (by simp)];rfl
 | x::l,k,arr,h,q=>by
  rw[CM] at h;rw[List.zipIdx_cons,OM];have ih:=Rf sa l (k+1) (arr.setIfInBounds (sa+k) x) (by rw[IP];lia) q;refine ⟨ih.1.trans IP,ih.2.trans ?_⟩;rw[CM];by_cases c:sa+k<=q/\q<sa+k+(l.length+1)
  ·rw[if_pos c]
   by_cases d:q=sa+k
   ·subst d
    rw[if_neg (by lia),Array.getElem?_setIfInBounds_self_of_lt (by lia)];simp
   ·rw[if_pos (by lia),show q-(sa+k)=(q-(sa+(k+1)))+1 by lia,List.getElem?_cons_succ]
  ·rw[if_neg c,if_neg (by lia),Array.getElem?_setIfInBounds_ne (by lia)]
theorem QC{arr r:Array AF}{sa:Nat}(h:sa+r.size<=arr.size)(q:Nat):(lay arr sa r)[q]?=if sa<=q/\q<sa+r.size then r[q-sa]? else arr[q]?:=by
 have:=(Rf sa r.toList 0 arr (by simpa using h) q).2;unfold lay;simpa using this
theorem ABj{arr r:Array AF}{lo mid hi:Nat}(lm:lo<=mid)(mh:mid<=hi)(ha:hi<=arr.size)(p:r.toList.Perm ((arr.extract lo mid).toList++(arr.extract mid hi).toList)):(lay arr lo r).Perm arr:=by
 have rl:r.size=hi-lo:=by
  have:=p.length_eq;simp at this;lia
 have e:(lay arr lo r).toList=arr.toList.take lo++(r.toList++arr.toList.drop hi):=by
  apply EV;intro q;rw[B8,QC (by lia)];by_cases c:q<lo
  ·rw[if_neg (by lia),By (by simp;lia),F8 c,B8]
  ·rw[Ct (by simp;lia)]
   have e1:(arr.toList.take lo).length=lo:=by simp;lia
   rw[e1];by_cases d:q<hi
   ·rw[if_pos (by lia),By (by simp;lia),B8]
   ·rw[if_neg (by lia),Ct (by simp;lia),Sc,AX,rl,B8]
    congr 1
    lia
 have e2:arr.toList=arr.toList.take lo++(((arr.extract lo mid).toList++(arr.extract mid hi).toList)++arr.toList.drop hi):=by
  have x1:(arr.extract lo mid).toList=(arr.toList.drop lo).take (mid-lo):=by rw[G1]
  have x2:(arr.extract mid hi).toList=(arr.toList.drop mid).take (hi-mid):=by rw[G1]
  rw[x1,x2,CD];have y2:(arr.toList.drop mid).take (hi-mid)++arr.toList.drop hi=arr.toList.drop mid:=by
   rw[show arr.toList.drop hi=(arr.toList.drop mid).drop (hi-mid) by rw[Pw];congr 1;lia];exact FV ..
  rw[y2];have y1:(arr.toList.drop lo).take (mid-lo)++arr.toList.drop mid=arr.toList.drop lo:=by
   rw[show arr.toList.drop mid=(arr.toList.drop lo).drop (mid-lo) by rw[Pw];congr 1;lia];exact FV ..
  rw[y1];exact (FV ..).symm
 refine HL.mpr ?_;rw[e,e2];have e3:(VI lo arr.toList++(((arr.extract lo mid).toList++(arr.extract mid hi).toList)++arr.toList.drop hi)).take lo=VI lo arr.toList:=by rw[<- e2]
 have e4:(VI lo arr.toList++(((arr.extract lo mid).toList++(arr.extract mid hi).toList)++arr.toList.drop hi)).drop hi=arr.toList.drop hi:=by rw[<- e2]
 first
  | exact EZ _ (LM _ p)
  | (rw[e3,e4];exact EZ _ (LM _ p))
theorem Fg{arr:Array AF}(h:Al G arr)(i j:Nat):Al G (arr.extract i j):=λk x e=>by
 rw[Array.getElem?_extract] at e;split at e
 ·exact h _ x e
 ·cases e
theorem srt_extract{arr:Array AF}{i j:Nat}(h:Up rk arr i j)(hj:j<=arr.size):Srt rk (arr.extract i j).toList:=by
 unfold Srt;rw[C3];intro p q hp hq pq;simp at hp hq;have:=h (i+p) (i+q) (by lia) (by lia) (by lia);rw[Fi (by lia),Fi (by lia)] at this;simpa using this
theorem AAu{arr:Array AF}{i j k:Nat}(h:k<(arr.extract i j).size):(arr.extract i j)[k]=arr[i+k]'(by simp at h;lia):=by simp
def Ch(rk:AF->Int)(arr:Array AF):List (Nat×Nat×Nat)->Nat->Nat->Prop
 | [],lo,hi=>lo=hi
 | (s,n,_)::rest,lo,hi=>s=lo/\1<=n/\Up rk arr lo (lo+n)/\Ch rk arr rest (lo+n) hi
theorem Ch.le{arr:Array AF}:∀{l:List (Nat×Nat×Nat)}{lo hi:Nat},Ch rk arr l lo hi->lo+l.length<=hi
 | [],lo,hi,h=>by have h':lo=hi:=h;simp;lia
 | (s,n,_)::rest,lo,hi,⟨_,h1,_,h⟩=>by have:=Ch.le h;simp;lia
theorem Up.congr{arr arr':Array AF}{lo hi:Nat}(h:Up rk arr lo hi)(e:∀i,lo<=i->i<hi->arr'[i]?=arr[i]?):Up rk arr' lo hi:=λi j li ij jh=>by
 rw[El (e i li (by lia)),El (e j (by lia) jh)];exact h i j li ij jh
theorem Ch.congr{arr arr':Array AF}:∀{l:List (Nat×Nat×Nat)}{lo hi:Nat},Ch rk arr l lo hi->(∀i,lo<=i->i<hi->arr'[i]?=arr[i]?)->Ch rk arr' l lo hi
 | [],lo,hi,h,_=>h
 | (s,n,_)::rest,lo,hi,⟨e1,h1,u,h⟩,e=>by
  have le:=Ch.le h;exact ⟨e1,h1,u.congr λi li il=>e i li (by lia),Ch.congr h λi li il=>e i (by lia) il⟩
theorem Ch.cut{arr:Array AF}:∀{l m:List (Nat×Nat×Nat)}{lo hi:Nat},Ch rk arr (l++m) lo hi↔∃mid,Ch rk arr l lo mid/\Ch rk arr m mid hi
 | [],m,lo,hi=>⟨λh=>⟨lo,rfl,h⟩,λ⟨mid,e,h⟩=>by have e':lo=mid:=e;rw[e'];exact h⟩
 | (s,n,x)::l,m,lo,hi=>⟨λ⟨e1,h1,u,h⟩=>by
   obtain ⟨mid,a,b⟩:=Ch.cut.mp h;exact ⟨mid,⟨e1,h1,u,a⟩,b⟩,λ⟨mid,⟨e1,h1,u,a⟩,b⟩=>⟨e1,h1,u,Ch.cut.mpr ⟨mid,a,b⟩⟩⟩
variable{rk:AF->Int}{prog:AK}{w:AR}{A:B6}{E:Au->AA->Prop}{s:AA}{G:AF->Prop}{κ:EJ}{a₀:Array AF}
def GD:Nat->StateT BF Sem Bool:=sortPriv% PySem.Builtin.mergeAt
abbrev EY(st:BF)(p:Array (Nat×Nat×Nat)):BF:=JP (kindOf st) (AN st) p (QA st) (FM st)
theorem Tv(i:Nat):GD i=(do
 let s <- get
 let (some (sa,na,power),some (sb,nb,_)):=((BG s)[i]?,(BG s)[i+1]?) | unsupported "internal:list.sort.pending"
 set (EY s (((BG s).setIfInBounds i (sa,na+nb,power)).eraseIdxIfInBounds (i+1)))
 let some k <- Cv false (<- DH (AN s) sb) (AN s) sa na 0 | return false
 let (sa,na):=(sa+k,na-k)
 if na==0 then return true
 let some nb <- Cv true (<- DH (AN s) (sa+na-1)) (AN s) sb nb (nb-1) | return false
 if nb==0 then return true
 let x:=(AN s).extract sa sb
 let y:=(AN s).extract sb (sb+nb)
 let merged <- if na<=nb then Hr x y else Ia x y
 modify λs=>Si s (lay (AN s) sa merged)
 return (FM (<- get)).isNone):=rfl
theorem ADm{σ:Type}{M:V1}{x:σ}{Q:PUnit->σ->Prop}{st:σ}(h:Q ⟨⟩ x):wpS M A E s (set x:StateT σ Sem PUnit) Q st:=by
 unfold wpS;rw[StateT.run_set];exact wpAny_pure ⟨rfl,h⟩
theorem UG(C:Cmp prog w A E s κ G rk){st:BF}(B:Ba G rk κ a₀ st){i sa na pa sb nb pb:Nat}(hp1:(BG st)[i]?=some (sa,na,pa))(hp2:(BG st)[i+1]?=some (sb,nb,pb))(esb:sb=sa+na)(n1:1<=na)(n2:1<=nb)(hz:sb+nb<=a₀.size)(ua:Up rk (AN st) sa (sa+na))(ub:Up rk (AN st) sb (sb+nb)){Q:Bool->BF->Prop}
  (h:∀st',Ba G rk κ a₀ st'->BG st'=((BG st).setIfInBounds i (sa,na+nb,pa)).eraseIdxIfInBounds (i+1)->(∀q,q<sa\/sb+nb<=q->(AN st')[q]?=(AN st)[q]?)->Up rk (AN st') sa (sb+nb)->Q true st'):wpS (AM prog w) A E s (GD i) Q st:=by
 have sz:=B.size;have al:=B.all.perm B.perm;rw[Tv];refine AO (J6 ?_);rw[hp1,hp2];dsimp only;refine AO (ADm ?_);have B1:Ba G rk κ a₀ (EY st (((BG st).setIfInBounds i (sa,na+nb,pa)).eraseIdxIfInBounds (i+1))):=⟨B.perm,B.kind,B.failed,B.all,B.di⟩;have hb:sb<(AN st).size:=by lia
 refine AO (Bg hb ?_);refine AO (DX C (al.at hb) al B1.kind (by lia) (by lia) (Ez ua) λk kn kt kf=>?_);dsimp only;have t1:∀q,sa<=q->q<sa+k->N rk (AN st) q<=N rk (AN st) sb:=λq q1 q2=>by
  have z:=kt (q-sa) (by lia);rw[Ea (by lia)] at z;have e:sa+(q-sa)=q:=by lia
  simp only[e] at z;rw[Fi (show q<(AN st).size by lia),Fi hb];refine IE.mp λy=>?_;rw[decide_eq_true y] at z;cases z
 have t2:∀q,sa+k<=q->q<sa+na->N rk (AN st) sb<N rk (AN st) q:=λq q1 q2=>by
  have z:=kf (q-sa) (by lia) (by lia);rw[Ea (by lia)] at z;have e:sa+(q-sa)=q:=by lia
  simp only[e] at z;rw[Fi (show q<(AN st).size by lia),Fi hb];cases c:decide (rk (AN st)[sb]<rk ((AN st)[q]'(by lia))) with
  | true=>exact of_decide_eq_true c
  | false=>rw[c] at z;cases z
 by_cases c1:na-k=0
 ·rw[if_pos (by rw[c1];rfl)]
  refine A1 (h _ B1 rfl (λ_ _=>rfl) λp q sp pq qh=>?_);by_cases d:q<sa+na
  ·exact ua p q sp pq d
  ·by_cases d':p<sa+na
   ·exact EK (t1 p sp (by lia)) (ub sb q (AE _) (by lia) qh)
   ·exact ub p q (by lia) pq qh
 rw[if_neg (by intro z;exact c1 (beq_iff_eq.mp z))];have hl:sa+k+(na-k)-1<(AN st).size:=by lia
 refine AO (Bg hl ?_);refine AO (DX C (al.at hl) al B1.kind (by lia) (by lia) (Ez ub) λm mn mt mf=>?_);dsimp only;have el:sa+k+(na-k)-1=sb-1:=by lia
 have u1:∀q,sb<=q->q<sb+m->N rk (AN st) q<N rk (AN st) (sb-1):=λq q1 q2=>by
  have z:=mt (q-sb) (by lia);rw[Es (by lia)] at z;have e:sb+(q-sb)=q:=by lia
  simp only[e,el] at z;rw[Fi (show q<(AN st).size by lia),Fi (show sb-1<(AN st).size by lia)];exact of_decide_eq_true z
 have u2:∀q,sb+m<=q->q<sb+nb->N rk (AN st) (sb-1)<=N rk (AN st) q:=λq q1 q2=>by
  have z:=mf (q-sb) (by lia) (by lia);rw[Es (by lia)] at z;have e:sb+(q-sb)=q:=by lia
  simp only[e,el] at z;rw[Fi (show q<(AN st).size by lia),Fi (show sb-1<(AN st).size by lia)];exact IE.mp (of_decide_eq_false z)
 by_cases c2:m=0
 ·rw[if_pos (by rw[c2];rfl)]
  refine A1 (h _ B1 rfl (λ_ _=>rfl) λp q sp pq qh=>?_);by_cases d:q<sa+na
  ·exact ua p q sp pq d
  ·by_cases d':p<sa+na
   ·exact EK (ua p (sb-1) sp (by lia) (by lia)) (u2 q (by lia) qh)
   ·exact ub p q (by lia) pq qh
 rw[if_neg (by intro z;exact c2 (beq_iff_eq.mp z))];have exs:((AN st).extract (sa+k) sb).size=sb-(sa+k):=by simp;lia
 have eys:((AN st).extract sb (sb+m)).size=m:=by simp;lia
 have sx:Srt rk ((AN st).extract (sa+k) sb).toList:=srt_extract (λp q a b c=>ua p q (by lia) b (by lia)) (by lia);have sy:Srt rk ((AN st).extract sb (sb+m)).toList:=srt_extract (λp q a b c=>ub p q a b (by lia)) (by lia);have atx:∀j,∀hj:j<((AN st).extract (sa+k) sb).size,rk ((AN st).extract (sa+k) sb)[j]=N rk (AN st) (sa+k+j):=λj hj=>by
  rw[AAu hj,Fi (by lia)]
 have aty:∀j,∀hj:j<((AN st).extract sb (sb+m)).size,rk ((AN st).extract sb (sb+m))[j]=N rk (AN st) (sb+j):=λj hj=>by
  rw[AAu hj,Fi (by lia)]
 have first:∀j,∀hj:j<((AN st).extract (sa+k) sb).size,∀h0:0<((AN st).extract sb (sb+m)).size,rk (((AN st).extract sb (sb+m))[0]'h0)<=rk ((AN st).extract (sa+k) sb)[j]:=λj hj h0=>by
  rw[atx j hj,aty 0 h0,Sb];exact G0 (t2 _ (by lia) (by lia))
 have lastx:∀j,∀hj:j<((AN st).extract sb (sb+m)).size,rk ((AN st).extract sb (sb+m))[j]<=N rk (AN st) (sb-1):=λj hj=>by
  rw[aty j hj];exact G0 (u1 _ (by lia) (by lia))
 have fin:∀(r:Array AF) (st2:BF),Gx (EY st (((BG st).setIfInBounds i (sa,na+nb,pa)).eraseIdxIfInBounds (i+1))) st2->Mg rk ((AN st).extract (sa+k) sb).toList ((AN st).extract sb (sb+m)).toList r.toList ->
   wpS (AM prog w) A E s (do modify λs=>Si s (lay (AN s) (sa+k) r);let g <- get;pure (FM g).isNone) Q st2:=λr st2 g ⟨pm,sr⟩=>by
  have rs:r.size=sb+m-(sa+k):=by
   have:=pm.length_eq;simp at this;lia
  have ea:AN st2=AN st:=g.arr;have hs:sa+k+r.size<=(AN st).size:=by lia
  refine AO (ID ?_);refine AO (J6 ?_);have ef:FM (Si st2 (lay (AN st2) (sa+k) r))=none:=g.failed.trans B.failed;rw[ef];have lp:=ABj (arr:=AN st) (r:=r) (lo:=sa+k) (mid:=sb) (hi:=sb+m) (by lia) (by lia) (by lia) pm;have mem:∀j,∀hj:j<r.size,∃q,sa+k<=q/\q<sb+m/\rk r[j]=N rk (AN st) q:=λj hj=>by
   have:r[j]∈r.toList:=Op hj;rcases B9.mp (pm.mem_iff.mp this) with z | z
   ·obtain ⟨q,hq,e⟩:=C0.mp z
    have hq':q<((AN st).extract (sa+k) sb).size:=by rw[<- AX];exact hq
    exact ⟨sa+k+q,by lia,by lia,by rw[<- e,<- atx q hq'];simp⟩
   ·obtain ⟨q,hq,e⟩:=C0.mp z
    have hq':q<((AN st).extract sb (sb+m)).size:=by rw[<- AX];exact hq
    exact ⟨sb+q,by lia,by lia,by rw[<- e,<- aty q hq'];simp⟩
  have laid:∀q,N rk (lay (AN st) (sa+k) r) q=if c:sa+k<=q/\q<sa+k+r.size then rk (r[q-(sa+k)]'(by lia)) else N rk (AN st) q:=λq=>by
   have e:=QC (arr:=AN st) (r:=r) (sa:=sa+k) hs q;by_cases c:sa+k<=q/\q<sa+k+r.size
   ·rw[dif_pos c]
    rw[if_pos c] at e;unfold N;rw[e,Bz (by lia)]
   ·rw[dif_neg c]
    rw[if_neg c] at e;exact El e
  refine A1 (h _ ⟨?_,g.kind.trans B.kind,ef,B.all,B.di⟩ g.pend (λq hq=>?_) ?_)
  ·show (lay (AN st2) (sa+k) r).Perm a₀
   rw[ea];exact lp.trans B.perm
  ·show (lay (AN st2) (sa+k) r)[q]?=_
   rw[ea,QC hs,if_neg (by lia)]
  ·show Up rk (lay (AN st2) (sa+k) r) sa (sb+nb)
   rw[ea];intro p q sp pq qh;rw[laid p,laid q];by_cases cp:sa+k<=p/\p<sa+k+r.size
   ·rw[dif_pos cp]
    by_cases cq:sa+k<=q/\q<sa+k+r.size
    ·rw[dif_pos cq]
     exact Ep sr (by lia) (by lia)
    ·rw[dif_neg cq]
     obtain ⟨v,v1,v2,ev⟩:=mem (p-(sa+k)) (by lia);rw[ev];by_cases d:v<sb
     ·exact EK (ua v (sb-1) (by lia) (by lia) (by lia)) (u2 q (by lia) qh)
     ·exact ub v q (by lia) (by lia) qh
   ·rw[dif_neg cp]
    by_cases cq:sa+k<=q/\q<sa+k+r.size
    ·rw[dif_pos cq]
     obtain ⟨v,v1,v2,ev⟩:=mem (q-(sa+k)) (by lia);rw[ev];by_cases d:v<sb
     ·exact ua p v sp (by lia) (by lia)
     ·exact EK (t1 p sp (by lia)) (ub sb v (AE _) (by lia) (by lia))
    ·rw[dif_neg cq]
     by_cases d:q<sa+k
     ·exact ua p q sp pq (by lia)
     ·by_cases d2:p<sa+k
      ·exact EK (t1 p sp d2) (ub sb q (AE _) (by lia) qh)
      ·exact ub p q (by lia) pq qh
 by_cases c3:na-k<=m
 ·rw[if_pos c3]
  refine AO (Ua C ⟨Fg al _ _,Fg al _ _,sx,sy,λy hy z hz=>?_⟩ B1.kind (by lia) (by lia) (λj hj=>first j hj (by lia)) λr st2 g mg=>fin r st2 g mg);obtain ⟨j,j1,hj,rfl⟩:=Dn hz;obtain ⟨q,hq,e⟩:=C0.mp hy;have hq':q<((AN st).extract sb (sb+m)).size:=by rw[<- AX];exact hq
  have e':y=((AN st).extract sb (sb+m))[q]:=by rw[<- e];simp
  rw[e',atx j hj,show sa+k+j=sb-1 by lia];exact lastx q hq'
 ·rw[if_neg c3]
  refine AO (Sy C ⟨Fg al _ _,Fg al _ _,sx,sy,λj hj h0=>first j hj h0⟩ B1.kind (by lia) (by lia) (λj hj=>?_) λr st2 g mg=>fin r st2 g mg);rw[atx _ (by lia),show sa+k+(((AN st).extract (sa+k) sb).size-1)=sb-1 by lia];exact lastx j hj
variable{rk:AF->Int}{prog:AK}{w:AR}{A:B6}{E:Au->AA->Prop}{s:AA}{G:AF->Prop}{κ:EJ}{a₀:Array AF}
def QL:Nat->Nat->Nat->Nat:=sortPriv% PySem.Builtin.minRun
def powerT:Nat->Nat->Nat->Nat->Nat:=sortPriv% PySem.Builtin.power
def Ot:StateT BF Sem Unit:=sortPriv% PySem.Builtin.sortRuns
theorem RQ:Ot=(do
 let size:=(AN (<- get)).size
 let minrun:=QL size size 0
 let mut lo:=0
 for _ in [0:size] do
  if lo >= size then break
  let some found <- Im lo (size-lo) | return
  let mut n:=found
  if n<minrun then
   rule "list.sort.binary-insertion"
   let force:=min (size-lo) minrun
   if !(<- Lh lo force n) then return
   n:=force
  if let some (s1,n1,_):=(BG (<- get)).back? then
   let pw:=powerT size (2*s1+n1) (2*s1+n1+n1+n) size
   for _ in [0:size] do
    let p:=BG (<- get)
    let some (_,_,older):=(if p.size>1 then p[p.size-2]? else none) | break
    if older<=pw then break
    if !(<- GD (p.size-2)) then return
   modify λs=>EY s ((BG s).modify ((BG s).size-1) λ(st,len,_)=>(st,len,pw))
  modify λs=>EY s ((BG s).push (lo,n,0))
  lo:=lo+n
 for _ in [0:size] do
  let p:=BG (<- get)
  if p.size<=1 then break
  let i:=p.size-2
  let before:=if i>0 then p[i-1]?.map (·.2.1) else none
  let i:=if before.any (· < (p[i+1]?.elim 0 (·.2.1))) then i-1 else i
  if !(<- GD i) then return):=rfl
structure Rn(G:AF->Prop)(rk:AF->Int)(κ:EJ)(a₀:Array AF)(lo:Nat)(st:BF):Prop where
 ba:Ba G rk κ a₀ st
 ch:Ch rk (AN st) (BG st).toList 0 lo
theorem Jz{α:Type}:∀{l:List α}{i:Nat}{x y:α},l[i]?=some x->l[i+1]?=some y->l=l.take i++x::y::l.drop (i+2)
 | a::b::l,0,x,y,h1,h2=>by
  simp at h1 h2;subst h1 h2;rfl
 | a::l,i+1,x,y,h1,h2=>by
  have:=Jz (l:=l) (i:=i) (x:=x) (y:=y) (by simpa using h1) (by simpa using h2);rw[MB,N9]
  congr 1
theorem Zy{p:Array (Nat×Nat×Nat)}{i:Nat}{x y v:Nat×Nat×Nat}(h1:p[i]?=some x)(h2:p[i+1]?=some y):((p.setIfInBounds i v).eraseIdxIfInBounds (i+1)).toList=p.toList.take i++v::p.toList.drop (i+2):=by
 have hi:i+1<p.size:=(C9.mp h2).1;have e:=Jz (l:=p.toList) (i:=i) (x:=x) (y:=y) (by rw[B8];exact h1) (by rw[B8];exact h2);have tl:(p.toList.take i).length=i:=by simp;lia
 have es:(p.setIfInBounds i v).toList=p.toList.take i++v::y::p.toList.drop (i+2):=by
  rw[Array.toList_setIfInBounds]
  conv=>lhs;rw[e]
  rw[List.set_append_right _ _ (by lia),tl,IN];rfl
 have hz:i+1<(p.setIfInBounds i v).size:=by rw[IP];exact hi
 rw[Array.eraseIdxIfInBounds,dif_pos hz,Array.toList_eraseIdx,es,List.eraseIdx_append_of_length_le (by lia),tl]
 congr 1
 rw[show i+1-i=1 by lia];rfl
theorem Qt(C:Cmp prog w A E s κ G rk){st:BF}{lo i:Nat}(R:Rn G rk κ a₀ lo st)(hl:lo<=a₀.size)(hi:i+1<(BG st).size){Q:Bool->BF->Prop}
  (h:∀st',Rn G rk κ a₀ lo st'->(BG st').size+1=(BG st).size->(∀q,lo<=q->(AN st')[q]?=(AN st)[q]?)->Q true st'):wpS (AM prog w) A E s (GD i) Q st:=by
 obtain ⟨sa,na,pa,e1⟩:∃sa na pa,(BG st)[i]?=some (sa,na,pa):=⟨_,_,_,Bz (by lia)⟩;obtain ⟨sb,nb,pb,e2⟩:∃sb nb pb,(BG st)[i+1]?=some (sb,nb,pb):=⟨_,_,_,Bz hi⟩;have e:=Jz (l:=(BG st).toList) (i:=i) (by rw[B8];exact e1) (by rw[B8];exact e2);have ch:=R.ch;rw[e] at ch;obtain ⟨mid,c1,rfl,n1,ua,rfl,n2,ub,c2⟩:=Ch.cut.mp ch;have le:=c2.le;have le1:=c1.le;have z2:sa+na+nb<=lo:=by lia
 refine UG C R.ba e1 e2 rfl n1 n2 (by lia) ua ub λst' B' pe low up=>?_;have pl:=Zy (v:=(sa,na+nb,pa)) e1 e2;refine h st' ⟨B',?_⟩ ?_ λq hq=>low q (.inr (by lia))
 ·rw[pe,pl]
  refine Ch.cut.mpr ⟨sa,c1.congr λq _ hq=>low q (.inl hq),rfl,by lia,?_,?_⟩
  ·rw[show sa+(na+nb)=sa+na+nb by lia]
   exact up
  ·rw[show sa+(na+nb)=sa+na+nb by lia]
   exact c2.congr λq hq _=>low q (.inr hq)
 ·have:=congrArg Fh pl
  rw[<- pe] at this;simp at this;lia
theorem Ch.mod{arr:Array AF}{f:Nat×Nat×Nat->Nat×Nat×Nat}(hf:∀x,(f x).1=x.1/\(f x).2.1=x.2.1):∀{l:List (Nat×Nat×Nat)}{lo hi:Nat} (i:Nat),Ch rk arr l lo hi->Ch rk arr (l.modify i f) lo hi
 | [],lo,hi,i,h=>by rw[List.modify_nil];exact h
 | (a,n,p)::l,lo,hi,0,⟨e1,h1,u,h⟩=>by
  rw[List.modify_zero_cons];have:=hf (a,n,p);generalize f (a,n,p)=y at this;obtain ⟨y1,y2,y3⟩:=y;obtain ⟨z1,z2⟩:=this;dsimp only at z1 z2;subst z1 z2;exact ⟨e1,h1,u,h⟩
 | (a,n,p)::l,lo,hi,i+1,⟨e1,h1,u,h⟩=>by
  rw[List.modify_succ_cons];exact ⟨e1,h1,u,Ch.mod hf i h⟩
theorem ADj{c:Prop}{i:Decidable c}{a b m:Nat}(h1:a<=m)(h2:b<=m):(@ite Nat c i a b)<=m:=by
 split
 ·exact h1
 ·exact h2
theorem Mf(C:Cmp prog w A E s κ G rk){st:BF}(B:Ba G rk κ a₀ st)(hp:BG st=#[]){Q:Unit->BF->Prop}
  (h:∀st',Ba G rk κ a₀ st'->Up rk (AN st') 0 a₀.size->Q () st'):wpS (AM prog w) A E s Ot Q st:=by
 rw[RQ];refine AO (J6 ?_);dsimp only;rw[B.size];refine AO (EB (DT (I:=λx c st'=>∃lo,c=(none,lo)/\x<=lo/\lo<=a₀.size/\Rn G rk κ a₀ lo st') (Q:=λc st'=>c=(none,a₀.size)/\Rn G rk κ a₀ a₀.size st') ?_ ?_ ⟨0,rfl,AE _,A8 _,B,by rw[hp];rfl⟩) ?_)
 ·rintro x c st1 _ xn ⟨lo,rfl,xl,ll,R⟩
  dsimp only;by_cases c1:lo >= a₀.size
  ·rw[if_pos c1]
   have:lo=a₀.size:=by lia
   subst this;exact A1 ⟨rfl,R⟩
  rw[if_neg c1];refine AO (Mr C R.ba (by lia) (by lia) λn st2 n1 nn nx up=>?_);dsimp only;have R2:Rn G rk κ a₀ lo st2:=⟨R.ba.nx nx,by rw[nx.pend];exact R.ch.congr λi _ hi=>nx.low i hi⟩;by_cases c2:n<QL a₀.size a₀.size 0
  ·rw[if_pos c2]
   refine AO (MO (Iy ⟨rfl,?_⟩));obtain ⟨f,ef⟩:∃f,f=min (a₀.size-lo) (QL a₀.size a₀.size 0):=⟨_,rfl⟩;rw[<- ef];refine AO (RK C R2.ba (n:=f) (by lia) (by lia) up λst3 nx3 up3=>?_);have R3:Rn G rk κ a₀ lo st3:=⟨R2.ba.nx nx3,by rw[nx3.pend];exact R2.ch.congr λi _ hi=>nx3.low i hi⟩;rw[if_neg (by decide)];refine AO (J6 ?_);have put:∀{st4:BF},Rn G rk κ a₀ lo st4->(∀q,lo<=q->(AN st4)[q]?=(AN st3)[q]?)->Rn G rk κ a₀ (lo+f) (EY st4 ((BG st4).push (lo,f,0))):=λ{st4} R4 e4=>⟨⟨R4.ba.perm,R4.ba.kind,R4.ba.failed,R4.ba.all,R4.ba.di⟩,by
    show Ch rk (AN st4) ((BG st4).push (lo,f,0)).toList 0 (lo+f);rw[J1];exact Ch.cut.mpr ⟨lo,R4.ch,rfl,by lia,up3.congr λq hq _=>e4 q hq,rfl⟩⟩
   cases hb:(BG st3).back? with
   | none =>
    dsimp only;exact AO (ID (A1 ⟨lo+f,rfl,by lia,by lia,put R3 λ_ _=>rfl⟩))
   | some v =>
    obtain ⟨s1,m1,q1⟩:=v;dsimp only;refine AO (EB (DT (I:=λ_ c st4=>c=(none,())/\Rn G rk κ a₀ lo st4/\∀q,lo<=q->(AN st4)[q]?=(AN st3)[q]?) (Q:=λc st4=>c=(none,())/\Rn G rk κ a₀ lo st4/\∀q,lo<=q->(AN st4)[q]?=(AN st3)[q]?) ?_ (λ_ _ h=>h) ⟨rfl,R3,λ_ _=>rfl⟩) ?_)
    ·rintro y c st4 _ _ ⟨rfl,R4,e4⟩
     refine AO (J6 ?_);by_cases d1:(BG st4).size>1
     ·rw[if_pos d1,Bz (show (BG st4).size-2<(BG st4).size by lia)]
      dsimp only;split
      ·exact A1 ⟨rfl,R4,e4⟩
      ·refine AO (Qt C R4 (by lia) (by lia) λst5 R5 _ e5=>?_)
       rw[if_neg (by decide)];exact A1 ⟨rfl,R5,λq hq=>(e5 q hq).trans (e4 q hq)⟩
     ·rw[if_neg d1]
      exact A1 ⟨rfl,R4,e4⟩
    ·rintro c st4 ⟨rfl,R4,e4⟩
     dsimp only;refine AO (ID (AO (ID (A1 ⟨lo+f,rfl,by lia,by lia,?_⟩))));refine put (st4:=EY st4 ((BG st4).modify ((BG st4).size-1) _)) ⟨⟨R4.ba.perm,R4.ba.kind,R4.ba.failed,R4.ba.all,R4.ba.di⟩,?_⟩ e4;show Ch rk (AN st4) ((BG st4).modify ((BG st4).size-1) _).toList 0 lo;rw[Q6];refine Ch.mod (f:=_) ?_ _ R4.ch;exact λ_=>⟨rfl,rfl⟩
  ·rw[if_neg c2]
   refine AO (J6 ?_);have put:∀{st4:BF},Rn G rk κ a₀ lo st4->(∀q,lo<=q->(AN st4)[q]?=(AN st2)[q]?)->Rn G rk κ a₀ (lo+n) (EY st4 ((BG st4).push (lo,n,0))):=λ{st4} R4 e4=>⟨⟨R4.ba.perm,R4.ba.kind,R4.ba.failed,R4.ba.all,R4.ba.di⟩,by
    show Ch rk (AN st4) ((BG st4).push (lo,n,0)).toList 0 (lo+n);rw[J1];exact Ch.cut.mpr ⟨lo,R4.ch,rfl,by lia,up.congr λq hq _=>e4 q hq,rfl⟩⟩
   cases hb:(BG st2).back? with
   | none =>
    dsimp only;exact AO (ID (A1 ⟨lo+n,rfl,by lia,by lia,put R2 λ_ _=>rfl⟩))
   | some v =>
    obtain ⟨s1,m1,q1⟩:=v;dsimp only;refine AO (EB (DT (I:=λ_ c st4=>c=(none,())/\Rn G rk κ a₀ lo st4/\∀q,lo<=q->(AN st4)[q]?=(AN st2)[q]?) (Q:=λc st4=>c=(none,())/\Rn G rk κ a₀ lo st4/\∀q,lo<=q->(AN st4)[q]?=(AN st2)[q]?) ?_ (λ_ _ h=>h) ⟨rfl,R2,λ_ _=>rfl⟩) ?_)
    ·rintro y c st4 _ _ ⟨rfl,R4,e4⟩
     refine AO (J6 ?_);by_cases d1:(BG st4).size>1
     ·rw[if_pos d1,Bz (show (BG st4).size-2<(BG st4).size by lia)]
      dsimp only;split
      ·exact A1 ⟨rfl,R4,e4⟩
      ·refine AO (Qt C R4 (by lia) (by lia) λst5 R5 _ e5=>?_)
       rw[if_neg (by decide)];exact A1 ⟨rfl,R5,λq hq=>(e5 q hq).trans (e4 q hq)⟩
     ·rw[if_neg d1]
      exact A1 ⟨rfl,R4,e4⟩
    ·rintro c st4 ⟨rfl,R4,e4⟩
     dsimp only;refine AO (ID (AO (ID (A1 ⟨lo+n,rfl,by lia,by lia,?_⟩))));refine put (st4:=EY st4 ((BG st4).modify ((BG st4).size-1) _)) ⟨⟨R4.ba.perm,R4.ba.kind,R4.ba.failed,R4.ba.all,R4.ba.di⟩,?_⟩ e4;show Ch rk (AN st4) ((BG st4).modify ((BG st4).size-1) _).toList 0 lo;rw[Q6];refine Ch.mod (f:=_) ?_ _ R4.ch;exact λ_=>⟨rfl,rfl⟩
 ·rintro c st' ⟨lo,rfl,xl,ll,R⟩
  have:lo=a₀.size:=by lia
  subst this;exact ⟨rfl,R⟩
 ·rintro c st' ⟨rfl,R⟩
  dsimp only;refine AO (EB (DT (I:=λx c st2=>c=(none,())/\Rn G rk κ a₀ a₀.size st2/\((BG st2).size<=1\/(BG st2).size+x<=a₀.size)) (Q:=λc st2=>c=(none,())/\Rn G rk κ a₀ a₀.size st2/\(BG st2).size<=1) ?_ ?_ ⟨rfl,R,.inr ?_⟩) ?_)
  ·rintro x c st2 _ xn ⟨rfl,R2,sz⟩
   refine AO (J6 ?_);by_cases d1:(BG st2).size<=1
   ·rw[if_pos d1]
    exact A1 ⟨rfl,R2,d1⟩
   ·rw[if_neg d1]
    refine AO (Qt C R2 (AE _) ?_ λst3 R3 z3 _=>?_)
    ·exact E7 (Nat.add_le_add_right (ADj (m:=(BG st2).size-2) (by lia) (by lia)) 1) (by lia)
    ·rw[if_neg (by decide)]
     exact A1 ⟨rfl,R3,by lia⟩
  ·rintro c st2 ⟨rfl,R2,sz⟩
   exact ⟨rfl,R2,by lia⟩
  ·have:=R.ch.le
   simp at this;lia
  ·rintro c st2 ⟨rfl,R2,sz⟩
   refine A1 (h st2 R2.ba ?_);have ch:=R2.ch;cases e:(BG st2).toList with
   | nil =>
    rw[e] at ch;have z:0=a₀.size:=ch;intro i j _ _ hj;lia
   | cons v l =>
    rw[e] at ch;obtain ⟨v1,v2,v3⟩:=v;have ln:l=[]:=by
     have:=congrArg Fh e;simp at this;exact G6.mp (by lia)
    subst ln;obtain ⟨_,_,u,z⟩:=ch;have z':0+v2=a₀.size:=z;rw[<- z'];exact u
end TM
end
section
namespace SB
open PySem PySem.W PyProof.Rows
theorem Uw:∀{x y:List Int},HT.lexLt x y=true->HT.lexLt y x=false
 | [],[],h=>by cases h
 | [],_::_,_=>rfl
 | _::_,[],h=>by cases h
 | a::x,b::y,h=>by
  rw[HT.CW] at h ⊢;by_cases c:a=b
  ·rw[if_pos c] at h
   rw[if_pos c.symm];exact Uw h
  ·rw[if_neg c] at h
   rw[if_neg (DF c)];have:=of_decide_eq_true h;exact decide_eq_false (by lia)
theorem Vp:∀{x y:List Int},x≠y->HT.lexLt x y=false->HT.lexLt y x=true
 | [],[],n,_=>absurd rfl n
 | [],_::_,_,h=>by cases h
 | _::_,[],_,_=>rfl
 | a::x,b::y,n,h=>by
  rw[HT.CW] at h ⊢;by_cases c:a=b
  ·rw[if_pos c] at h
   rw[if_pos c.symm];exact Vp (λe=>n (by rw[c,e])) h
  ·rw[if_neg c] at h
   rw[if_neg (DF c)];have:=of_decide_eq_false h;exact decide_eq_true (by lia)
theorem Vl:∀{x y z:List Int},HT.lexLt x y=true->HT.lexLt y z=true->HT.lexLt x z=true
 | [],[],_,h,_=>by cases h
 | [],_::_,[],_,h=>by cases h
 | [],_::_,_::_,_,_=>rfl
 | _::_,[],_,h,_=>by cases h
 | _::_,_::_,[],_,h=>by cases h
 | a::x,b::y,c::z,h,k=>by
  rw[HT.CW] at h k ⊢;by_cases ab:a=b
  ·rw[if_pos ab] at h
   by_cases bc:b=c
   ·rw[if_pos bc] at k
    rw[if_pos (ab.trans bc)];exact Vl h k
   ·rw[if_neg bc] at k
    rw[if_neg (λe=>bc (by lia))];have:=of_decide_eq_true k;exact decide_eq_true (by lia)
  ·rw[if_neg ab] at h
   have h':=of_decide_eq_true h;by_cases bc:b=c
   ·rw[if_pos bc] at k
    rw[if_neg (by lia)];exact decide_eq_true (by lia)
   ·rw[if_neg bc] at k
    have k':=of_decide_eq_true k;rw[if_neg (by lia)];exact decide_eq_true (by lia)
section
variable{prog:AK}{w:AR}{A:B6}{E:Au->AA->Prop}{s:AA}
theorem AAg{b fin:Bool}{Q:Bool->AA->Prop}{x y:List Int}{vs us:List Au}(hx:ItemsAre (K5 prog w) x vs):∀{y:List Int}{us:List Au} (i:Nat),ItemsAre (K5 prog w) y us->fin=decide (x.length<y.length)->Q (HT.lexLt x y) s->KatLex prog w A b fin Q (vs.zip us) i s:=by
 induction hx with
 | nil =>
  intro y us i hy hf q;cases hy with
  | nil=>rw[hf];exact q
  | cons h1 t=>rw[hf];exact q
 | @cons k v ks vs' hk ht ih =>
  intro y us i hy hf q;cases hy with
  | nil=>rw[hf];exact q
  | @cons k' v' ks' us' hk' ht' =>
   rw[HT.CW] at q;refine kat_cons ((K5 prog w).eqBool hk hk' ?_);by_cases c:k=k'
   ·rw[if_pos c] at q
    rw[decide_eq_true c];refine kat_yes (ih (i+1) ht' ?_ q);rw[hf];simp
   ·rw[if_neg c] at q
    rw[decide_eq_false c];refine kat_no ?_;obtain ⟨t1,rfl⟩:=G3 hk;obtain ⟨t2,rfl⟩:=G3 hk';cases (b&&i==0) with
    | true =>
     rw[<- U3];exact kat_lt_int q
    | false=>exact kat_one _ _ (lt_int q)
theorem AGG{b:Bool}{x y:List Int}{a c:Addr}{Q:Bool->AA->Prop}(hx:IK prog w s.heap x a)(hy:IK prog w s.heap y c)(q:Q (HT.lexLt x y) s):wpAny (AM prog w) A (UO (tuples' b) (.ref a) (.ref c)) Q E s:=by
 obtain ⟨ox,xs,n,gx,cx,dx,ix⟩:=hx;obtain ⟨oy,ys,k,gy,cy,dy,iy⟩:=hy;refine kat_lt gx dx gy dy (AAg (x:=x) (y:=y) (us:=ys.toList) ix 0 iy ?_ q);have l1:=ix.length;have l2:=iy.length;rw[l1,l2,AX,AX]
end
structure Row(prog:AK)(w:AR)(h:Heap)(vs:List Au)(ks:List (List Int×Addr)):Prop where
 vals:vs=ks.map λx=>AV x.2
 keys:∀x∈ks,IK prog w h x.1 x.2
 full:∀x∈ks,x.1≠[]
 nd:(ks.map (·.1)).Nodup
def ltK(ks:List (List Int×Addr))(i j:Nat):Bool:=HT.lexLt (ks.getD i ([],0)).1 (ks.getD j ([],0)).1
section
variable{prog:AK}{w:AR}{A:B6}{E:Au->AA->Prop}{s:AA}{vs:List Au}{ks:List (List Int×Addr)}
theorem Row.tups{h:Heap}(R:Row prog w h vs ks):∃fs,KatTups h vs fs/\fs.length=vs.length/\∀v∈fs,∃n t,v=KP n t:=by
 obtain ⟨e,hk,hf,hn⟩:=R;clear hn;subst e
 induction ks with
 | nil=>exact ⟨[],trivial,rfl,λv hv=>by cases hv⟩
 | cons x r ih =>
  obtain ⟨fs,t,l,q⟩:=ih (λy hy=>hk y (AG _ hy)) (λy hy=>hf y (AG _ hy));obtain ⟨o,xs,n,gx,cx,dx,ix⟩:=hk x AC;have hx:=hf x AC;obtain ⟨xk,xa⟩:=x;cases hxs:xs.toList with
  | nil =>
   rw[hxs] at ix;cases ix;exact absurd rfl hx
  | cons f rest =>
   have hf0:xs[0]?=some f:=by rw[<- B8,hxs];rfl
   have hi:=RG ix f (by rw[hxs];exact AC);refine ⟨f::fs,KatTups.cons gx cx dx hf0 t,by simp[l],λv hv=>?_⟩;rcases Be.mp hv with rfl | hv
   ·exact hi
   ·exact q v hv
theorem perm_back{α β:Type}{f:α->β}{l m:List β}(p:l.Perm m):∀ks:List α,m=ks.map f->∃ks':List α,ks'.Perm ks/\l=ks'.map f:=by
 induction p with
 | nil =>
  intro ks e;cases ks with
  | nil=>exact ⟨[],.refl _,rfl⟩
  | cons _ _=>cases e
 | @cons x l1 l2 _ ih =>
  intro ks e;cases ks with
  | nil=>cases e
  | cons k r =>
   rw[Cb] at e;obtain ⟨e1,e2⟩:=QU e;obtain ⟨r',p',e'⟩:=ih r e2;exact ⟨k::r',p'.cons k,by rw[Cb,e1,e']⟩
 | swap x y l1 =>
  intro ks e
  match ks,e with
  | [],e=>cases e
  | [_],e=>simp at e
  | a::b::r,e =>
   rw[Cb,Cb] at e;obtain ⟨e1,e2⟩:=QU e;obtain ⟨e3,e4⟩:=QU e2;exact ⟨b::a::r,Po ..,by rw[Cb,Cb,e1,e3,e4]⟩
 | trans _ _ ih1 ih2 =>
  intro ks e;obtain ⟨k2,p2,e2⟩:=ih2 ks e;obtain ⟨k1,p1,e1⟩:=ih1 k2 e2;exact ⟨k1,p1.trans p2,e1⟩
theorem Pb{ks:List Int}{us:List Au}(h:ItemsAre (K5 prog w) ks us):ks=us.map numOf:=by
 induction h with
 | nil=>rfl
 | cons h1 _ ih =>
  obtain ⟨t,e⟩:=G3 h1;rw[Cb,<- ih,e];rfl
theorem AGO{h:Heap}{k k':List Int}{a:Addr}(x:IK prog w h k a)(y:IK prog w h k' a):k=k':=by
 obtain ⟨o,items,n,ho,_,hd,hi⟩:=x;obtain ⟨o',items',n',ho',_,hd',hi'⟩:=y;rw[ho] at ho';cases ho';rw[hd] at hd';cases hd';rw[Pb hi,Pb hi']
set_option tactic.hygienic true in
theorem JQ{α:Type}{p q:α->Bool}:∀{l:List α}{x:α},(∀y∈l,p y=true->q y=true)->x∈l->p x=false->q x=true->(l.filter p).length<(l.filter q).length
 | [],x,_,h,_,_=>by cases h
 | a::l,x,hs,hx,px,qx=>by
  have le:∀{m:List α},(∀y∈m,p y=true->q y=true)->(m.filter p).length<=(m.filter q).length:=λ{m}=>by
   induction m with
   | nil=>exact λ_=>AE _
   | cons b m ih =>
    intro hm;have:=ih λy hy=>hm y (AG _ hy);rw[Da,Da];have hb:=hm b (AC ..);split
    ·rename_i pb
     rw[if_pos (hb pb)];simp;exact this
    ·split
     ·simp;lia
     ·exact this
  have hl:=le λy hy=>hs y (AG _ hy);rw[Da,Da];rcases Be.mp hx with rfl | hx
  ·rw[if_neg (by rw[px];decide),if_pos qx]
   simp;lia
  ·have ih:=JQ (λy hy=>hs y (AG _ hy)) hx px qx
   have ha:=hs a (AC ..);split
   ·rename_i pa
    rw[if_pos (ha pa)];simp;exact ih
   ·split
    ·simp;lia
    ·exact ih
def cntK(ks:List (List Int×Addr))(k:List Int):Int:=((ks.filter λy=>HT.lexLt y.1 k).length:Int)
open Classical in
noncomputable def rkK(ks:List (List Int×Addr))(x:AF):Int:=if h:∃i,i<ks.length/\x.1=AV (ks.getD i ([],0)).2 then cntK ks (ks.getD (Fa h) ([],0)).1 else 0
def itK(ks:List (List Int×Addr))(i:Nat):AF:=(AV (ks.getD i ([],0)).2,AV (ks.getD i ([],0)).2)
theorem Rr{a b:List Int}(ha:a∈ks.map (·.1))(h:HT.lexLt a b=true):cntK ks a<cntK ks b:=by
 obtain ⟨x,hx,rfl⟩:=AY.mp ha;unfold cntK;have:=JQ (p:=λy:List Int×Addr=>HT.lexLt y.1 x.1) (q:=λy=>HT.lexLt y.1 b) (l:=ks) (x:=x) (λy _ e=>Vl e h) hx (by
  cases c:HT.lexLt x.1 x.1 with
  | false=>rfl
  | true=>have:=Uw c;rw[c] at this;cases this) h
 lia
end
theorem Pn{n:Nat}{p:Array Nat}(P:PP n p):p.toList.Perm (AI n):=by
 refine SB.Fv ?_ (λx hx=>?_) (by rw[BD,AX,P.size];exact AE _)
 ·refine C3.mpr λi j hi hj hij e=>?_
  have hi':i<n:=by rw[<- P.size];simpa using hi
  have hj':j<n:=by rw[<- P.size];simpa using hj
  have hi2:i<p.size:=by simpa using hi
  have hj2:j<p.size:=by simpa using hj
  have:=P.inj i j hi' hj' (by simpa [g,Ex,hi2,hj2] using e);lia
 ·obtain ⟨i,hi,rfl⟩:=C0.mp hx
  have hi2:i<p.size:=by simpa using hi
  have:=P.lt i (by rw[<- P.size];exact hi2);refine AS.mpr ?_;simpa [g,Ex,hi2] using this
section
variable{prog:AK}{w:AR}{A:B6}{E:Au->AA->Prop}{s:AA}{S:Addr}{es:Array (Int×Au)}{t:C7}{ks:List (List Int×Addr)}
theorem Tp{Q:List Au->AA->Prop}{o:Obj}{ep:Nat}(hh:A.handled=none)(ho:s.heap.get? S=some o)(hex:o.ExactSet)(hd:o.data=.set es ep t)(T:Tab t)(hl:es.size=t.place.size)(hp:t.plain=true)(hled:t.led=ledOf w)(h61:es.size<=301)
  (q:∀(h':Heap) (tk:Nat) (acc:Array Au),(∀b ob,s.heap.get? b=some ob->h'.get? b=some ob)->s.heap.objs.size<=h'.objs.size->acc.toList.map (λv=>v)=(ord w S ep es).toList.map (·.2)->Q acc.toList {s with heap:=h',toks:=tk}) :
  wpAny (AM prog w) A (O8 (.ref S)) Q E s:=by
 unfold O8;refine Ap (MG (EW M5 ?_));rw[Fs M6 _];show wpAny _ A.in1 (Sm [] >>= λl=>again (.builtin "list.__iadd__" ⟨[l,.ref S],[]⟩)) _ _ s;refine Ap (C5 ?_);refine wpAny_pure ⟨LP IU _,EW OC ?_⟩;rw[Fs IU _];have gD:(s.heap.push {cls:=.type "list",data:=.seq ([]:List Au).toArray}).get? s.heap.objs.size=some {cls:=.type "list",data:=.seq #[] 0}:=AU _ rfl;show wpAny _ A.in1 (EN (.ref s.heap.objs.size) (.ref S) (.ref s.heap.objs.size)) _ _ _;have fin':∀(h':Heap) (tk:Nat) (acc':Array Au) (c':Nat),(∀b ob,b≠s.heap.objs.size->(s.heap.push {cls:=.type "list",data:=.seq ([]:List Au).toArray}).get? b=some ob->h'.get? b=some ob)->h'.get? s.heap.objs.size=some {cls:=.type "list",dict:=none,data:=.seq acc' c',slots:=#[]} ->
   ItemsOf (λi v=>∃e,(ord w S ep es)[i]?=some e/\v=e.2) acc' es.size->wpAny (AM prog w) A (match AV s.heap.objs.size with
   | AV a=>do
    match (<- load a).data with
     | W6 xs _=>pure xs.toList
     | _=>unsupported "internal:collect"
   | _=>unsupported "internal:collect") Q E {s with heap:=h',toks:=tk}:=λh' tk acc' c' hk hS' hacc=>by
  show wpAny _ A (load s.heap.objs.size >>= _) _ _ _;refine Ap (PQ hS' ?_);refine wpAny_pure ?_;refine q h' tk acc' (λb ob e=>hk b ob (Cn (BE e)) (AH _ e)) (DC (BE hS')) ?_;rw[XT];apply EV;intro i;rw[A2,B8,B8];by_cases c:i<es.size
  ·have c1:i<acc'.size:=by rw[hacc.1];exact c
   obtain ⟨e,ge,ev⟩:=hacc.2 i _ (Bz c1);rw[Bz c1,ge,ev];rfl
  ·rw[Hc (by rw[hacc.1];lia),Hc (by rw[Lk];lia)]
   rfl
 refine EE (Vf (A:=A) (R:=λr s'=>∃h' tk acc' c',r=.ok (.ret (.ref s.heap.objs.size))/\s'={s with heap:=h',toks:=tk}/\(∀b ob,b≠s.heap.objs.size->(s.heap.push {cls:=.type "list",data:=.seq ([]:List Au).toArray}).get? b=some ob->h'.get? b=some ob)/\h'.get? s.heap.objs.size=some {cls:=.type "list",dict:=none,data:=.seq acc' c',slots:=#[]}/\ItemsOf (λi v=>∃e,(ord w S ep es)[i]?=some e/\v=e.2) acc' es.size)
  (s:={s with heap:=s.heap.push {cls:=.type "list",data:=.seq ([]:List Au).toArray}}) hh (AH _ ho) hex hd T hl hp hled h61 s.heap.objs.size (.ref s.heap.objs.size) 0 gD λh' tk acc' c' hk hS' hacc=>⟨h',tk,acc',c',rfl,rfl,hk,hS',hacc⟩) (λfin s' h=>?_) (λe s' h=>?_)
 ·cases fin with
  | done f =>
   obtain ⟨h',tk,acc',c',e,rfl,hk,hS',hacc⟩:=h;cases e;exact fin' h' tk acc' c' hk hS' hacc
  | again c'=>exact ⟨h.1,FG h.2 λr s'' hr=>by obtain ⟨h',tk,acc',c',rfl,rfl,hk,hS',hacc⟩:=hr;exact fin' h' tk acc' c' hk hS' hacc⟩
 ·obtain ⟨_,_,_,_,e,_⟩:=h
  cases e
end
end SB
end
section
namespace SB
open PySem PySem.SetTable
section
variable{prog:AK}{w:AR}{A:B6}{s:AA}
set_option tactic.hygienic true in
theorem Yq{R:RC->AA->Prop}{I:Addr}{fp wr:List Addr}{G:Array S3->Array S3->Prop}{n:Nat}{P:Nat->Au->Prop}{St:Nat->AA->Prop}
  (W:WalksS prog w A.in1 I fp wr G n P St) (S:Addr) (hSf:S∉fp) (vals:Nat->List Int×Addr) (hP:∀i v,P i v->v=.ref (vals i).2) (hn:∀ks:List (List Int×Addr),(∀x∈ks,∃j,j<n/\x=vals j)->(ks.map (·.1)).Nodup->ks.length<=300) (hoff:∀i,i<n->(vals i).2∉S::wr) (hu:A.in1.units<CO)
  (hR:∀s' es' t' ks',TS prog w s'.heap S es' t' ks'->Of vals n ks'->Moved (S::wr) G s s'->R (.ok (.ret .none)) s') :
  ∀(k i:Nat) (s₁:AA) (es:Array (Int×Au)) (t:C7) (ks:List (List Int×Addr)),n-i=k->i<=n->St i s₁->TS prog w s₁.heap S es t ks->(∀j,j<n->IK prog w s₁.heap (vals j).1 (vals j).2)->Of vals i ks->Moved (S::wr) G s s₁ ->
   codeAny (AM prog w) A (.builtin "set.update.loop" ⟨[.ref S,.ref I],[]⟩) R s₁:=by
 have nSw:S∉wr:=λh=>hSf (W.sub _ h);have inS:∀b∈wr,b∈S::wr:=λb hb=>AG _ hb;intro k
 induction k with
 | zero =>
  intro i s₁ es t ks hk hi hst X hK O mv;obtain rfl:i=n:=by lia
  refine EW K4 ?_;rw[Fs Hm _];show wpAny _ A.in1 (LH (.ref I) >>= _) _ _ s₁;refine Ap (W.done s₁ _ _ hst λs₂ m2=>?_);show wpAny _ A.in1 (ret CY) _ _ s₂;exact wpAny_pure (hR s₂ es t ks (YK X λo e=>m2.heap S o nSw e) O (X7 W.gtrans mv (m2.mono inS)))
 | succ k ih =>
  intro i s₁ es t ks hk hi hst X hK O mv;have lt:i<n:=by lia
  refine EW K4 ?_;rw[Fs Hm _];show wpAny _ A.in1 (LH (.ref I) >>= _) _ _ s₁;refine Ap (W.item i s₁ _ _ lt hst λv s₂ pv st2 m2=>?_);obtain rfl:=hP i v pv;have X2:TS prog w s₂.heap S es t ks:=YK X λo e=>m2.heap S o nSw e;have hK2:∀j,j<n->IK prog w s₂.heap (vals j).1 (vals j).2:=λj hj=>Gf (hK j hj) λo e=>m2.heap _ o (λz=>hoff j hj (inS _ z)) e;show wpAny _ A.in1 (MC [AV (vals i).2] (setAdd S (.ref (vals i).2)) >>= _) _ _ s₂;refine Ap (D0 (AFn X2 (λx hx=>?_) (hK2 i lt) hu (hn ks (λx hx=>let ⟨j,hj,e⟩:=O.sub x hx;⟨j,by lia,e⟩) X2.nd) λb h' es' t' ks' sb X' ad=>?_))
  ·obtain ⟨j,hj,rfl⟩:=O.sub x hx
   exact hK2 j (by lia)
  ·refine wpAny_pure ⟨LP Hm _,ih (i+1) _ es' t' ks' (by lia) lt (W.frame _ s₂ _ _ st2 (TB _ _) λb hb o e=>?_) X' (λj hj=>Gf (hK2 j hj) λo e=>?_) (O.next ad) ?_⟩
   ·rw[sb.2 b (λ(z:b=S)=>hSf (by rw[<- z];exact hb))]
    exact e
   ·rw[sb.2 _ (λ(z:(vals j).2=S)=>hoff j hj (by rw[z];exact AC))]
    exact e
   ·refine X7 W.gtrans mv ((m2.mono inS).then_heap (TB _ _) λb o hb e=>?_)
    rw[sb.2 b (λ(z:b=S)=>hb (by rw[z];exact AC))];exact e
end
section
variable{prog:AK}{w:AR}{A:B6}{E:Au->AA->Prop}{s:AA}
theorem AEd{l:Addr}{items:Array Au}{vals:Nat->List Int×Addr}{Q:Au->AA->Prop}(hh:A.handled=none)(hu:A.units+6<CO)(hl:s.heap.IsList l items)(hv:∀(i:Nat) (v:Au),items[i]?=some v->v=AV (vals i).2)
  (hK:∀j,j<items.size->IK prog w s.heap (vals j).1 (vals j).2) (h61:∀ks:List (List Int×Addr),(∀x∈ks,∃j,j<items.size/\x=vals j)->(ks.map (·.1)).Nodup->ks.length<=300)
  (q:∀h' tk es t ks,TS prog w h' s.heap.objs.size es t ks->Of vals items.size ks->(∀b o,s.heap.get? b=some o->h'.get? b=some o)->Q (.ref s.heap.objs.size) {s with heap:=h',toks:=tk}) :
  wpAny (AM prog w) A (call (.type "set") [.ref l]) Q E s:=by
 obtain ⟨c,tl,hmro⟩:=IR.mro;have made:=IR.made;have ssub:=IR.sub;have nt:=IR.notType;have cc:=IR.canCreate;have tc:=F.typeCall_set_1 (.ref l);refine PV (UD ?_);show wpAny _ _ (callAny (.type "set") _) _ _ _;refine wpAny_pure ⟨RR _ (by decide +kernel),EW F.entry_type_call ?_⟩;rw[Around.under_plain (weight_type_call_type "set" [.ref l] []) rfl]
 repeat (any_goals (first | assumption | wp_step))
 refine FG (ABs (.ref l) (E:=E) (Q₁:=λobj s₁=>∃led:Bool,led=ledOf w/\obj=.ref s.heap.objs.size/\s₁={s with heap:=s.heap.push {cls:=.type "set",dict:=none,data:=.set #[] 0 (.fresh 0 0 led)}}) ⟨_,rfl,rfl,rfl⟩) λr s₁ hr=>?_;cases r with
 | error e=>exact hr
 | ok fl =>
  cases fl with
  | ret obj =>
   obtain ⟨led,hled,rfl,rfl⟩:=hr;have gS:(s.heap.push {cls:=.type "set",dict:=none,data:=.set #[] 0 (.fresh 0 0 led)}).get? s.heap.objs.size=some {cls:=.type "set",dict:=none,data:=.set #[] 0 (.fresh 0 0 led)}:=AU _ rfl;have tS:VU {s with heap:=s.heap.push {cls:=.type "set",dict:=none,data:=.set #[] 0 (.fresh 0 0 led)}} (.ref s.heap.objs.size) "set":=⟨_,gS,rfl⟩;have il:=IR.init.lookup;have ib:=IR.init.bind (.ref s.heap.objs.size)
   repeat (any_goals (first | assumption | wp_step))
   refine FG (P8 (R:=wants (λr s₂=>r=.none/\∃h' tk es t ks,s₂={s with heap:=h',toks:=tk}/\TS prog w h' s.heap.objs.size es t ks/\Of vals items.size ks/\(∀b o,s.heap.get? b=some o->h'.get? b=some o)) E) IR.init.plain F.entry_set_init (check_set_init_1 tS ?_)) λr₂ s₂ hr₂=>?_
   ·obtain ⟨⟨ocls,odict,odata,oslots⟩,hol,hcl,nl,hdl⟩:=id hl
    simp only at hcl hdl;subst hcl hdl;have hol2:(s.heap.push {cls:=.type "set",dict:=none,data:=.set #[] 0 (.fresh 0 0 led)}).get? l=some {cls:=.type "list",dict:=odict,data:=.seq items nl,slots:=oslots}:=AH _ hol;have s1:=F.sub_list_set;have s2:=F.sub_list_frozenset;have s3:(DU "list" == DU "dict")=false:=by decide
    have hl1:(s.heap.push {cls:=.type "set",dict:=none,data:=.set #[] 0 (.fresh 0 0 led)}).IsList l items:=⟨_,hol2,rfl,nl,rfl⟩;unfold Builtin.«set.__init__» noKeywords U4;generalize hPI:O3=PI
    wp_walk
    subst hPI;refine NG hl1 ?_;refine Ap (MG ?_);have ll:l<s.heap.objs.size:=BE hol;have h3:A.in1.in1.in1.handled=none:=by simp[hh]
    have nI:l≠(s.heap.push {cls:=.type "set",dict:=none,data:=.set #[] 0 (.fresh 0 0 led)}).objs.size:=by
     rw[Fm];exact Cn (FC ll)
    have nS:s.heap.objs.size∉[(s.heap.push {cls:=.type "set",dict:=none,data:=.set #[] 0 (.fresh 0 0 led)}).objs.size,l]:=by
     rw[Fm];simp only[Be,Bn,LU,or_false,not_or];exact ⟨Cn (D2 _),WE ll⟩
    have lows:∀j,j<items.size->(vals j).2<s.heap.objs.size:=λj hj=>by
     obtain ⟨o,_,_,ho,_⟩:=hK j hj;exact BE ho
    have old2:∀(x:Obj) b o,s.heap.get? b=some o->((s.heap.push {cls:=.type "set",dict:=none,data:=.set #[] 0 (.fresh 0 0 led)}).push x).get? b=some o:=λx b o e=>AH _ (AH _ e);refine Yq (s:=_) ((Walks.list h3 _ l nI items).toS) s.heap.objs.size nS vals hv h61 (λj hj z=>?_) ?_ (λs' es' t' ks' X' O' mv=>?_) (items.size-0) 0 _ #[] (.fresh 0 0 led) [] (by lia) (A8 _)
     ⟨⟨_,AU _ rfl,rfl,rfl⟩,(hl1.push _)⟩ (ABt hled (AH _ gS)) (λj hj=>Gf (hK j hj) λo e=>old2 _ _ _ e) ⟨λx hx=>(by cases hx),λj hj=>absurd hj (by lia),AE _⟩ (Moved.refl λ_=>rfl)
    ·have:=lows j hj
     rw[Fm] at z;simp only[Be,Bn,LU,or_false] at z;rcases z with z | z
     ·exact absurd z (Cn this)
     ·exact absurd z (Cn (FC this))
    ·show A.units+1+1+1<CO
     lia
    ·obtain ⟨h',g',d',tk',os'⟩:=s'
     have eg:g'=s.gens:=mv.gens;have ed:d'=s.drawn:=mv.drawn;have eo:os'=s.os:=mv.os;subst eg ed eo;show wpAny _ _ _ _ _ _;refine wpAny_pure ?_;show wpAny _ _ (ret CY) _ _ _;refine wpAny_pure ⟨rfl,h',tk',es',t',ks',rfl,X',O',λb o e=>?_⟩;have hb:=BE e;refine mv.heap b o ?_ (old2 _ b o e);rw[Fm];simp only[Be,Bn,LU,or_false,not_or];exact ⟨Cn hb,Cn (FC hb)⟩
   ·cases r₂ with
    | error e=>exact hr₂
    | ok fl₂ =>
     cases fl₂ with
     | ret r =>
      obtain ⟨rfl,h',tk,es,t,ks,rfl,X',O',kp⟩:=hr₂
      repeat (any_goals (first | assumption | wp_step))
      exact q _ _ _ _ _ X' O' kp
     | _=>exact hr₂.elim
  | _=>exact hr.elim
end
end SB
namespace L2
open PySem PySem.Spec PyProof.Rows
section
variable{X:Cx}{e:Expr}{te:TE}{p1 p2 pos pos2:Pos}
theorem ik_ofB{pins:List (Addr×Obj)}{σ:St}{H:Hp}{s:AA}(I:Inv X pins σ H s){b:Addr}{ns:List Int}(h:SqT X.K H b (ns.map V.int)):SB.IK X.prog X.w s.heap ns b:=by
 obtain ⟨its,r,⟨o,ho,hc,n,hd⟩,_⟩:=I.tuple h;exact ⟨o,its.toArray,n,ho,hc,hd,by simpa using Sx r⟩
end
end L2
end
section
namespace SB
open PySem PySem.W PyProof.Rows
structure RowE(prog:AK)(w:AR)(h:Heap)(vs:List Au)(ks:List (List Int×Addr)):Prop where
 vals:vs=ks.map λx=>AV x.2
 keys:∀x∈ks,IK prog w h x.1 x.2
 nd:(ks.map (·.1)).Nodup
theorem RowE.tot{prog:AK}{w:AR}{h:Heap}{vs:List Au}{ks:List (List Int×Addr)}(R:RowE prog w h vs ks):Tot ks.length (ltK ks):=by
 have ne:∀i j,i<ks.length->j<ks.length->i≠j->(ks.getD i ([],0)).1≠(ks.getD j ([],0)).1:=λi j hi hj hij e=>by
  have r:=C3.mp R.nd;have g1:(ks.getD i ([],0)).1=(ks.map (·.1))[i]'(by simpa using hi):=by simp[AD,hi]
  have g2:(ks.getD j ([],0)).1=(ks.map (·.1))[j]'(by simpa using hj):=by simp[AD,hj]
  rw[g1,g2] at e;rcases Nat.lt_or_gt_of_ne hij with c | c
  ·exact r i j _ _ c e
  ·exact r j i _ _ c e.symm
 exact ⟨λi j hi hj hij e=>Vp (ne i j hi hj hij) e,λi j _ _ e=>Uw e,λi j k _ _ _ e1 e2=>Vl e1 e2⟩
theorem ACp{prog:AK}{w:AR}{ns:List Int}{vs:List Au}(h:ItemsAre (K5 prog w) ns vs):FS vs ns:=by
 induction h with
 | nil=>exact .nil
 | cons h1 _ ih =>
  obtain ⟨t,rfl⟩:=G3 h1;exact .cons _ t ih
section
variable{prog:AK}{w:AR}{A:B6}{E:Au->AA->Prop}{s:AA}{vs:List Au}{ks:List (List Int×Addr)}
theorem QX{x:List Int}{a:Addr}(hx:IK prog w s.heap x a):∃items:Array Au,PM s.heap a items/\FS items.toList x:=by
 obtain ⟨o,xs,n,g,c,d,i⟩:=hx;exact ⟨xs,⟨o,g,c,n,d⟩,ACp i⟩
theorem Ky(x y:Au):UO TC x y=oneLt' false x y:=rfl
theorem AEx{x y:List Int}{a c:Addr}{Q:Bool->AA->Prop}(hu:A.units<CO)(hx:IK prog w s.heap x a)(hy:IK prog w s.heap y c)(q:Q (HT.lexLt x y) s):wpAny (AM prog w) A (UO TC (.ref a) (.ref c)) Q E s:=by
 obtain ⟨i1,t1,j1⟩:=QX hx;obtain ⟨i2,t2,j2⟩:=QX hy;rw[Ky];exact kat_one _ _ (HT.Uz t1 t2 j1 j2 hu q)
theorem AGC{x y:List Int}{a c:Addr}{Q:Bool->AA->Prop}(hu:A.units<CO)(hx:IK prog w s.heap x a)(hy:IK prog w s.heap y c)(q:Q (HT.lexLt x y) s):wpAny (AM prog w) A (UO oneType' (.ref a) (.ref c)) Q E s:=by
 obtain ⟨i1,t1,j1⟩:=QX hx;obtain ⟨i2,t2,j2⟩:=QX hy;obtain ⟨⟨cls,dd,data,sl⟩,ho,hc,n,hd⟩:=id t1;obtain ⟨⟨cls2,dd2,Wp,sl2⟩,ho2,hc2,n2,hd2⟩:=id t2;simp only at hc hd hc2 hd2;subst hc hd hc2 hd2;rw[U3,oneLt'_eq];simp only[if_true];refine Ap (wpAny_cRoomFor hu ?_);refine Ap (wpAny_callSpecialIfBound?_slot (T:="tuple") ⟨_,ho,rfl⟩ LV ?_);exact T5 LV ⟨_,ho,rfl⟩ OU (OA _ _) (HT.Gu a c i1 i2 n n2 dd dd2 sl sl2 x y j1 j2) ⟨ho,ho2,HM q⟩
theorem NZ:∀(ks:List (List Int×Addr)) {Q:List (Option Au)->AA->Prop},(∀x∈ks,IK prog w s.heap x.1 x.2)->(∀fs:List (Option Au),fs.map (·.isSome)=ks.map (λx=>!x.1.isEmpty)->Q fs s)->wpAny (AM prog w) A ((ks.map λx=>AV x.2).mapM firstOfTuple') Q E s
 | [],_,_,h=>by rw[KW,List.mapM_nil];exact wpAny_pure (h [] rfl)
 | x::ks,Q,hk,h=>by
  obtain ⟨o,xs,n,ho,hc,hd,hi⟩:=hk x AC;rw[Cb,List.mapM_cons];refine Ap ?_;rw[kas_first_eq];refine Ap (Ya (show Looks (AM prog w) s.heap (W4 (.ref x.2)) o.cls from (Xs ho).andThen .now) ?_);rw[hc,if_neg (by first | decide | simp)];refine Ap (N8 ho hd (wpAny_pure ?_));refine Ap (NZ ks (Q:=λbs s'=>wpAny (AM prog w) A (pure (xs[0]?::bs)) Q E s') (λy hy=>hk y (AG _ hy)) λfs hfs=>wpAny_pure (h _ ?_));rw[Cb,Cb,hfs]
  congr 1
  have l:=hi.length;rw[AX] at l;by_cases e:x.1=[]
  ·rw[e] at l ⊢
   rw[Hc (by simp at l;lia)];rfl
  ·have:0<xs.size:=by
    have:=Q7.mpr e;lia
   rw[Bz this];cases hx:x.1 with
   | nil=>exact absurd hx e
   | cons a b=>rfl
theorem ADd{Q:EJ->AA->Prop}(hk:∀x∈ks,IK prog w s.heap x.1 x.2)(he:∃x∈ks,x.1=[])(q1:Q TC s)(q2:Q oneType' s):wpAny (AM prog w) A (keyKind' (ks.map λx=>AV x.2).toArray) Q E s:=by
 rw[kat_kind_eq,SG,map_eq_pure_bind];refine Ap (Ap (NZ ks hk λfs hfs=>wpAny_pure ?_));have hall:¬ ((fs.toArray.all λx=>x.isSome)=true):=λh=>by
  obtain ⟨x,hx,ex⟩:=he;obtain ⟨i,hi,gx⟩:=List.getElem_of_mem hx;have l:fs.length=ks.length:=by simpa using congrArg Fh hfs
  have z:(fs.map (·.isSome))[i]?=(ks.map (λx=>!x.1.isEmpty))[i]?:=by rw[hfs]
  have hi2:i<fs.length:=by lia
  rw[A2,A2,AJ hi,AJ hi2,gx] at z;have z':fs[i].isSome=false:=by simpa [ex] using z
  have:=FL.mp (by simpa using h) fs[i] (Fc hi2);rw[z'] at this;exact absurd this (by decide)
 rw[if_neg hall];refine wpAny_ite ?_;split
 ·exact wpAny_pure q1
 ·rw[oneTypeOnly'_eq,SG,map_eq_pure_bind]
  refine Ap (Ap (Ap (kas_mapM (r:=DU "tuple") _ (λv hv Q' hq=>?_) (wpAny_pure ?_))))
  ·obtain ⟨x,hx,rfl⟩:=AY.mp hv
   obtain ⟨o,xs,n,ho,hc,hd,hi⟩:=hk x hx;refine Ya (show Looks (AM prog w) s.heap (W4 (.ref x.2)) o.cls from (Xs ho).andThen .now) ?_;rw[hc];exact hq
  ·have hall2:∀T:Au,(T==T)=true->((List.map (λ_=>T) (ks.map λx=>AV x.2)).toArray.all λx=>x==T)=true:=λT hT=>by
    simp only[List.all_toArray,XU,FL];intro _ _;exact hT
   have h0:(List.map (λ_=>DU "tuple") (ks.map λx=>AV x.2)).toArray[0]?=some (DU "tuple"):=by
    obtain ⟨x,hx,_⟩:=he;cases ks with
    | nil=>cases hx
    | cons a b=>simp
   rw[h0];simp only[hall2 (DU "tuple") (by decide),if_true];exact wpAny_pure (wpAny_pure q2)
def KOk(prog:AK)(w:AR)(κ:EJ):Prop:=∀(A:B6) (E:Au->AA->Prop) (s:AA) (x y:List Int) (a c:Addr) (Q:Bool->AA->Prop),A.units<CO->IK prog w s.heap x a->IK prog w s.heap y c->Q (HT.lexLt x y) s ->
 wpAny (AM prog w) A (UO κ (.ref a) (.ref c)) Q E s
theorem kind_any{Q:EJ->AA->Prop}(R:RowE prog w s.heap vs ks)(h2:2<=ks.length)(q:∀κ,KOk prog w κ->Q κ s):wpAny (AM prog w) A (keyKind' vs.toArray) Q E s:=by
 by_cases c:∃x∈ks,x.1=[]
 ·rw[R.vals]
  exact ADd R.keys c (q _ λA E s x y a c Q hu hx hy h=>AEx hu hx hy h) (q _ λA E s x y a c Q hu hx hy h=>AGC hu hx hy h)
 ·have R':Row prog w s.heap vs ks:=⟨R.vals,R.keys,λx hx e=>c ⟨x,hx,e⟩,R.nd⟩
  obtain ⟨fs,kt,lf,hfs⟩:=R'.tups;have lk:ks.length=vs.length:=by rw[R.vals,AB]
  exact kat_kind (T:=.type "int") kt (by lia) (λv hv=>by obtain ⟨n,t,rfl⟩:=hfs v hv;exact VT rfl) (by decide) (q _ λA E s x y a c Q hu hx hy h=>AGG hx hy h)
theorem Zi{h h':Heap}(R:RowE prog w h vs ks)(e:∀x∈ks,∀o,h.get? x.2=some o->h'.get? x.2=some o):RowE prog w h' vs ks:=⟨R.vals,λx hx=>Gf (R.keys x hx) λo=>e x hx o,R.nd⟩
theorem RowE.key{h:Heap}(R:RowE prog w h vs ks){i:Nat}(hi:i<ks.length):IK prog w h (ks.getD i ([],0)).1 (ks.getD i ([],0)).2:=by
 have e:ks.getD i ([],0)=ks[i]:=by simp[AD,hi]
 rw[e];exact R.keys _ (Fc hi)
theorem RowE.rk{h:Heap}(R:RowE prog w h vs ks){i:Nat}(hi:i<ks.length):rkK ks (itK ks i)=cntK ks (ks.getD i ([],0)).1:=by
 have ex:∃j,j<ks.length/\(itK ks i).1=AV (ks.getD j ([],0)).2:=⟨i,hi,rfl⟩;unfold rkK;rw[dif_pos ex];obtain ⟨hj,ej⟩:=FU ex;have ea:(ks.getD i ([],0)).2=(ks.getD (Fa ex) ([],0)).2:=by
  have:AV (ks.getD i ([],0)).2=AV (ks.getD (Fa ex) ([],0)).2:=ej;injection this
 have k1:=R.key hi;have k2:=R.key hj;rw[<- ea] at k2;rw[AGO k1 k2]
theorem RowE.rk_lt{h:Heap}(R:RowE prog w h vs ks){i j:Nat}(hi:i<ks.length)(hj:j<ks.length):decide (rkK ks (itK ks i)<rkK ks (itK ks j))=ltK ks i j:=by
 rw[R.rk hi,R.rk hj];have mk:∀{i:Nat},i<ks.length->(ks.getD i ([],0)).1∈ks.map (·.1):=λ{i} hi=>FF (by
  have e:ks.getD i ([],0)=ks[i]:=by simp[AD,hi]
  rw[e];exact Fc hi)
 unfold ltK;cases c:HT.lexLt (ks.getD i ([],0)).1 (ks.getD j ([],0)).1 with
 | true=>exact decide_eq_true (Rr (mk hi) c)
 | false =>
  refine decide_eq_false ?_;by_cases e:(ks.getD i ([],0)).1=(ks.getD j ([],0)).1
  ·rw[e];exact QY _
  ·have:=Rr (ks:=ks) (mk hj) (Vp e c)
   lia
theorem Zz{κ:EJ}(hκ:KOk prog w κ)(hu:A.units<CO)(R:RowE prog w s.heap vs ks) :
  wpAny (AM prog w) A (sortRuns'.run (JP κ (vs.toArray.zip vs.toArray) #[] 7 none)) (λr s'=>s'=s/\∃p:Array Nat,PP ks.length p/\Up (ltK ks) p ks.length/\AN r.2=p.map (XW (vs.toArray.zip vs.toArray))/\FM r.2=none) E s:=by
 have lk:ks.length=vs.length:=by rw[R.vals,AB]
 have T:=R.tot;have gi:∀i,i<ks.length->XW (vs.toArray.zip vs.toArray) i=itK ks i:=λi hi=>by
  rw[kat_item rfl];unfold itK;rw[R.vals];simp[AD,hi]
 have e0:(vs.toArray.zip vs.toArray).toList=(AI ks.length).map (itK ks):=by
  have:=congrArg Rl (kas_range (vs.toArray.zip vs.toArray));rw[<- this,Os,show (vs.toArray.zip vs.toArray).size=ks.length by rw[lk];simp];exact G9 λi hi=>gi i (AS.mp hi)
 have C:TM.Cmp prog w A E s κ (λx=>∃i,i<ks.length/\x=itK ks i) (rkK ks):=λx y ⟨i,hi,ex⟩ ⟨j,hj,ey⟩ st Q kd q=>by
  subst ex ey;rw[lt'_eq];refine AO (J6 ?_);rw[kd];refine AO (MO (NA (hκ _ _ _ _ _ _ _ _ hu (R.key hi) (R.key hj) ⟨rfl,?_⟩)));rw[R.rk_lt hi hj] at q;exact A1 q
 have al:TM.Al (λx=>∃i,i<ks.length/\x=itK ks i) (vs.toArray.zip vs.toArray):=λi x e=>by
  rw[<- B8,e0,A2] at e;cases g:(AI ks.length)[i]? with
  | none=>rw[g] at e;cases e
  | some k =>
   rw[g] at e;have hk:=AS.mp (Bi g);exact ⟨k,hk,(BH e).symm⟩
 have di:TM.Di (rkK ks) (vs.toArray.zip vs.toArray):=by
  unfold TM.Di;rw[e0,DS];unfold Mb;rw[CS];refine EI (λ{i j} hi hj ij e=>?_) D5;have hi':=AS.mp hi;have hj':=AS.mp hj;have e':rkK ks (itK ks i)=rkK ks (itK ks j):=e;have z1:=R.rk_lt hi' hj';have z2:=R.rk_lt hj' hi';rw[e',decide_eq_false (QY _)] at z1;rw[e',decide_eq_false (QY _)] at z2;have:=T.or i j hi' hj' ij z1.symm;rw[<- z2] at this;cases this
 have W:=TM.Mf C (st:=JP κ (vs.toArray.zip vs.toArray) #[] 7 none) (a₀:=vs.toArray.zip vs.toArray) ⟨UK _,rfl,rfl,al,di⟩ rfl
  (Q:=λ_ st'=>∃p:Array Nat,PP ks.length p/\Up (ltK ks) p ks.length/\AN st'=p.map (XW (vs.toArray.zip vs.toArray))/\FM st'=none) λst' B up=>by
  have pm:=HL.mp B.perm;rw[e0] at pm;obtain ⟨l,pl,el⟩:=perm_back pm (AI ks.length) rfl;have ll:l.length=ks.length:=by rw[pl.length_eq,BD]
  have lt:∀{k:Nat},k<ks.length->g l.toArray k<ks.length/\l[k]?=some (g l.toArray k):=λ{k} hk=>by
   have hk':k<l.length:=by lia
   have e:g l.toArray k=l[k]:=by unfold g;simp[Ex,hk']
   rw[e];exact ⟨AS.mp (pl.mem_iff.mp (Fc hk')),AJ hk'⟩
  have nd:l.Nodup:=pl.nodup_iff.mpr D5;have at_:∀{k:Nat},k<ks.length->TM.N (rkK ks) (AN st') k=rkK ks (itK ks (g l.toArray k)):=λ{k} hk=>by
   unfold TM.N;rw[<- B8,el,A2,(lt hk).2];rfl
  have sz:(vs.toArray.zip vs.toArray).size=ks.length:=by rw[lk];simp
  refine ⟨l.toArray,⟨by simpa using ll,λk hk=>(lt hk).1,λk k' hk hk' e=>?_⟩,λx y xy hy=>?_,?_,B.failed⟩
  ·have a1:=(lt hk).2
   have a2:=(lt hk').2;rw[<- e] at a2;exact (LF (by lia) nd).mp (a1.trans a2.symm)
  ·have hx:x<ks.length:=by lia
   have u:=up x y (A8 _) (by lia) (by rw[sz];exact hy);rw[at_ hx,at_ hy] at u;cases c:ltK ks (g l.toArray x) (g l.toArray y) with
   | true=>rfl
   | false =>
    have ne:g l.toArray x≠g l.toArray y:=λe=>by
     have a1:=(lt hx).2;have a2:=(lt hy).2;rw[<- e] at a2;have:=(LF (by lia) nd).mp (a1.trans a2.symm);lia
    have z:=T.or _ _ (lt hx).1 (lt hy).1 ne c;rw[<- R.rk_lt (lt hy).1 (lt hx).1] at z;have:=of_decide_eq_true z;lia
  ·apply TD.mp
   rw[el,Os];refine G9 λi hi=>(gi i ?_).symm;exact AS.mp (pl.mem_iff.mp (by simpa using hi))
 exact EE W (λr s' h=>h) λ_ _ e=>e
theorem WW{a:Addr}{n:Nat}{P:PySem.Fin->AA->Prop}(ho:s.heap.get? a=some (EC "list" vs.toArray n))(R:RowE prog w s.heap vs ks)(hz:vs.length<=1000)(hu:A.units<CO)
  (h:∀p:Array Nat,PP ks.length p->Up (ltK ks) p ks.length->P (.done (.ret .none)) {s with heap:=sortedHeap s.heap a vs (K3 (p.toList.map λi=>vs.getD i CY))}) :
  wpAny (AM prog w) A (Builtin.«list.sort» ⟨[.ref a],[]⟩) P E s:=by
 have la:a<s.heap.objs.size:=BE ho;have lk:ks.length=vs.length:=by rw[R.vals,AB]
 rw[list_sort_plain];refine Ap (N8 ho rfl ?_);refine Ap (Nw ho rfl ?_);obtain ⟨e1,ho1⟩:∃e1,(s.heap.update a (DV λ_=>#[])).get? a=some (EC "list" #[] e1):=⟨_,get?_update_seq ho (λ_=>#[])⟩;refine Ap (SW ho1 rfl ?_);refine Ap (wpAny_newTuple ?_);refine Ap (No ?_);refine D0 ?_;have hoa:(((s.heap.update a (DV λ_=>#[])).push (EC "tuple" vs.toArray 0)).push (EC "list" #[] 0)).get? a=some (EC "list" #[] e1):=AH _ (AH _ ho1);show wpAny (AM prog w) A _ P E {s with heap:=((s.heap.update a (DV λ_=>#[])).push (EC "tuple" vs.toArray 0)).push (EC "list" #[] 0)};dsimp only;have vz:vs.toArray.size=vs.length:=by simp
 by_cases h2:vs.toArray.size<2
 ·rw[if_pos h2,if_pos h2]
  refine Ap (wpAny_pure ?_);rw[StateT.run_pure];refine Ap (wpAny_pure ?_);dsimp only;have out:((vs.toArray.zip vs.toArray).map (·.2))=K3 ((K3 (AI ks.length)).toList.map λi=>vs.getD i CY):=by
   apply TD.mp;rw[Os,Array.toList_zip,List.map_snd_zip (by simp),lk];apply EV;intro i;by_cases c:i<vs.length
   ·simp[c]
   ·simp[c]
  refine Ap (SW hoa rfl ?_);refine Ap (Nw hoa rfl ?_ (hsz2:=by rw[Array.size_map,Array.size_zip,vz,FX];lia));simp only[bne_self_eq_false,A7,if_false];refine wpAny_pure ?_;rw[show (AN (JP TC (vs.toArray.zip vs.toArray) #[] 7 none)).map (·.2)=_ from out];exact h _ (AAj _) λx y hxy hy=>absurd hxy (by lia)
 ·rw[if_neg h2,if_neg h2]
  have R1:RowE prog w (((s.heap.update a (DV λ_=>#[])).push (EC "tuple" vs.toArray 0)).push (EC "list" #[] 0)) vs ks:=Zi R λx hx o gx=>by
   have ne:x.2≠a:=λe=>by
    obtain ⟨o',_,_,go',co',_⟩:=R.keys x hx;rw[e,ho] at go';cases go';have z:DU "list" = DU "tuple":=co';exact absurd z (by decide)
   exact AH _ (AH _ ((ET _ _ (DF ne)).trans gx))
  refine Ap (kind_any (s:={s with heap:=((s.heap.update a (DV λ_=>#[])).push (EC "tuple" vs.toArray 0)).push (EC "list" #[] 0)}) R1 (by lia) λκ hκ=>?_);refine Ap (EE (Zz hκ hu (s:={s with heap:=((s.heap.update a (DV λ_=>#[])).push (EC "tuple" vs.toArray 0)).push (EC "list" #[] 0)}) R1) ?_ λ_ _ e=>e)
  ·rintro⟨⟨⟩,st'⟩ s' ⟨rfl,p,P1,P2,har,hf⟩
   dsimp only;have hout:=kat_snds (ks:=vs) (vs:=vs) rfl har;rw[hout];refine Ap (SW hoa rfl ?_);refine Ap (Nw hoa rfl ?_ (hsz2:=by rw[AZ,AB,AX,P1.size,FX];lia));rw[hf];simp only[bne_self_eq_false,A7,if_false];exact wpAny_pure (h p P1 P2)
end
section
variable{prog:AK}{w:AR}{A:B6}{E:Au->AA->Prop}{s:AA}{S:Addr}{es:Array (Int×Au)}{t:C7}{ks:List (List Int×Addr)}
theorem UW(hu:A.units+2<CO)(hh:A.handled=none)(X:TS prog w s.heap S es t ks)(hK:∀x∈ks,IK prog w s.heap x.1 x.2)(h61:ks.length<=301){Q:Au->AA->Prop}
  (q:∀(h':Heap) (tk:Nat) (D:Addr) (ko:List (List Int×Addr)) (e:Nat),(∀b ob,s.heap.get? b=some ob->h'.get? b=some ob)->s.heap.objs.size<=D->h'.get? D=some (EC "list" (ko.map λx=>AV x.2).toArray e)->ko.Perm ks->(ko.map (·.1)).Pairwise (λa b=>HT.lexLt a b=true)->Q (.ref D) {s with heap:=h',toks:=tk}) :
  wpAny (AM prog w) A (call (.builtin "sorted") [.ref S]) Q E s:=by
 obtain ⟨o,ep,ho,hex,hd⟩:=X.obj;have lks:ks.length=es.size:=by
  have:=congrArg Fh X.els;rw[AB,AX] at this;exact this.symm
 refine KG kind_sorted plain_sorted entry_sorted (args_sorted1 _) ?_;unfold Tk;refine Ap (m:=checkCount "sorted" 1 1 _) (wpAny_pure ?_);refine Ap (Tp (A:=A.in1) (by simp[hh]) ho hex hd X.tab X.len X.pl X.ld (by lia) λh1 tk1 acc kp hsz hacc=>?_);have op:=UL w S ep es;rw[X.els] at op;obtain ⟨k1,p1,e1⟩:=perm_back op ks rfl;rw[e1,XT,DS] at hacc;have hvs:acc.toList=k1.map λx=>AV x.2:=hacc;generalize hv:acc.toList=vs at hvs;have lvs:vs.length=ks.length:=by rw[hvs,AB,p1.length_eq]
 refine Ap (No ?_ (by rw[FX];lia));have hoL:(h1.push (EC "list" vs.toArray 0)).get? h1.objs.size=some (EC "list" vs.toArray 0):=AU _ rfl;have kp2:∀b ob,s.heap.get? b=some ob->(h1.push (EC "list" vs.toArray 0)).get? b=some ob:=λb ob e=>AH _ (kp b ob e);have R:RowE prog w (h1.push (EC "list" vs.toArray 0)) vs k1:=⟨hvs,λx hx=>Gf (hK x (p1.mem_iff.mp hx)) λob e=>kp2 _ ob e,(MA (p1.map (·.1))).mpr X.nd⟩;refine Ap (D0 (DI UY ⟨_,hoL,rfl⟩ T8 (WW (s:={s with heap:=h1.push (EC "list" vs.toArray 0),toks:=tk1}) hoL R (by lia) (by show A.units+1+1<CO;lia) λp P1 P2=>⟨_,rfl,?_⟩) (UZ _)));refine wpAny_pure ⟨_,rfl,?_⟩;obtain ⟨e,he⟩:=sortedHeap_at (out:=K3 (p.toList.map λi=>vs.getD i CY)) hoL;have lk1:k1.length=ks.length:=p1.length_eq;have eo:(p.toList.map λi=>vs.getD i CY)=(p.toList.map λi=>k1.getD i ([],0)).map λx=>AV x.2:=by
  rw[DS];refine G9 λi hi=>?_;have hi':i<k1.length:=AS.mp ((Pn P1).mem_iff.mp hi);rw[hvs];simp[AD,hi']
 rw[eo] at he ⊢;have pk:(p.toList.map λi=>k1.getD i ([],0)).Perm k1:=by
  have z:=SB.JF (l:=k1) (Pn P1);rw[SB.HX ([],0) λi hi=>AS.mp ((Pn P1).mem_iff.mp hi)] at z;exact z
 refine q _ tk1 h1.objs.size _ e (λb ob eb=>?_) hsz he (pk.trans p1) ?_
 ·have hb:=BE (kp b ob eb)
  rw[sortedHeap_old (Cn hb) (by rw[Fm];exact FC hb)];exact kp2 b ob eb
 ·rw[DS]
  refine C3.mpr λi j hi hj hij=>?_;have hi':i<p.size:=by simpa using hi
  have hj':j<p.size:=by simpa using hj
  have z:=P2 i j hij (by rw[<- P1.size];exact hj');unfold ltK g at z;simpa [Ex,hi',hj'] using z
end
end SB
end
section
namespace L2
open PySem PySem.Spec PyProof.Rows
section
variable{X:Cx}{e:Expr}{te:TE}{p1 p2 pos pos2:Pos}
def ZQ(K:As)(te:TE):TE:=λσ H Q=>te σ H λv H1=>∃a xs rs,v=.ref a/\SqL K H1 a xs/\A9 (rPair K H1) rs xs/\(∀ms:List (List Int),ms.Nodup->(∀m∈ms,m∈rs)->ms.length<=300) /\
 ∀l ys ms,H1 l=none->ms.Pairwise (λa b=>HT.lexLt a b=true)->(∀r,r∈ms↔r∈rs)->A9 (rPair K H1) ms ys->A9 (λm y=>∃i:Nat,rs[i]?=some m/\xs[i]?=some y) ms ys->Q (.ref l) (upd H1 l (.lst ys))
theorem JW(hc:X.calm=true)(hu:X.A.units+7<CO)(hg:Gl X "sorted")(hm:X.mg "sorted" = none)(hg2:Gl X "set")(hm2:X.mg "set" = none)(he:PE X e te)
  (hv:FY "sorted" = some (.builtin "sorted"):=by exact K1) (hv2:FY "set" = some (.type "set"):=by decide +kernel)
  (s1:Co [e] X.env=(false,eval e X.env)::Co [] X.env:=by rfl)
  (s2:Co [.Call (.Name "set" p2) [e] [] pos2] X.env=(false,eval (.Call (.Name "set" p2) [e] [] pos2) X.env)::Co [] X.env:=by rfl) :
  PE X (.Call (.Name "sorted" p1) [.Call (.Name "set" p2) [e] [] pos2] [] pos) (ZQ X.K te):=by
 intro pins s σ H Q I h;refine EM (Ek I hg hm hv ?_ (by decide) (by decide));refine JI ?_ s2 rfl;rw[s2];show wpAny _ _ (O1 ((false,eval (.Call (.Name "set" p2) [e] [] pos2) X.env)::F3 pos (Co [] X.env))) _ _ s;refine FR ?_;refine EM (Ek I hg2 hm2 hv2 ?_ (by decide) (by decide));refine D9 ?_ s1 rfl;rw[s1];show wpAny _ _ (O1 ((false,eval e X.env)::F3 pos2 (Co [] X.env))) _ _ s;refine FR (thn (he pins s σ H _ I h) λu s1 ⟨x,H1,I1,r1,q1⟩=>?_);refine HP ?_;obtain ⟨a,xs,rs,rfl,ha,pr,h61,q⟩:=q1;cases r1;obtain ⟨its,r,pl,_⟩:=I1.list ha;have lx:=r.length;have lr:=AQ pr;have hl:=pl.isList;have at_:∀i:Nat,i<its.length->∃b ns,its[i]?=some (.ref b)/\xs[i]?=some (.ref b)/\rs[i]?=some ns/\rPair X.K H1 ns (.ref b):=λi hi=>by
  have hx:i<xs.length:=by lia
  obtain ⟨ns,hns,rp⟩:=Paired.get pr (AJ hx);obtain ⟨b,eb,hb⟩:=Bq rp;obtain ⟨u,hu',ru⟩:=r.get (AJ hx);rw[eb] at ru rp;cases ru;exact ⟨b,ns,hu',by rw[AJ hx,eb],hns,rp⟩
 have pick:∃vals:Nat->List Int×Addr,∀i:Nat,i<its.length->its[i]?=some (.ref (vals i).2)/\rs[i]?=some (vals i).1/\rPair X.K H1 (vals i).1 (.ref (vals i).2)/\xs[i]?=some (.ref (vals i).2):=by
  refine ⟨λi=>if h:i<its.length then (Fa (FU (at_ i h)),Fa (at_ i h)) else ([],0),λi hi=>?_⟩;have z:=FU (FU (at_ i hi));dsimp only;rw[dif_pos hi];exact ⟨z.1,z.2.2.1,z.2.2.2,z.2.1⟩
 obtain ⟨vals,hvals⟩:=pick;have hsz:its.toArray.size=its.length:=by simp
 have few:∀ks:List (List Int×Addr),(∀x∈ks,∃j,j<its.length/\x=vals j)->(ks.map (·.1)).Nodup->ks.length<=300:=λks hs hn=>by
  have:=h61 (ks.map (·.1)) hn λm hm=>by
   obtain ⟨x,hx,rfl⟩:=AY.mp hm;obtain ⟨j,hj,rfl⟩:=hs x hx;exact Bi (hvals j hj).2.1
  rwa [AB] at this
 refine SB.AEd (items:=its.toArray) (vals:=vals) (I1.ok.hd hc) (by lia) hl (λi v hv=>?_) (λj hj=>?_) (by rw[hsz];exact few) λh' tk es t ks T O kp=>?_
 ·have hi:i<its.length:=by
   have:=(C9.mp hv).1;rw[hsz] at this;exact this
  have z:=(hvals i hi).1;have hv':its[i]?=some v:=by simpa using hv
  rw[hv'] at z;exact BH z
 ·rw[hsz] at hj
  obtain ⟨b,eb,hb⟩:=Bq (hvals j hj).2.2.1;cases eb;exact ik_ofB I1 hb
 refine HP ?_;rw[hsz] at O;have hK:∀x∈ks,SB.IK X.prog X.w h' x.1 x.2:=λx hx=>by
  obtain ⟨j,hj,rfl⟩:=O.sub x hx;obtain ⟨b,eb,hb⟩:=Bq (hvals j hj).2.2.1;cases eb;exact SB.Gf (ik_ofB I1 hb) λo e=>kp _ o e
 have inrs:∀j,j<its.length->(vals j).1∈rs:=λj hj=>Bi (hvals j hj).2.1;have hSz:s1.heap.objs.size<=h'.objs.size:=by
  obtain ⟨o,_,ho,_⟩:=T.obj;exact DC (BE ho)
 refine SB.UW (s:={s1 with heap:=h',toks:=tk}) (by lia) (I1.ok.hd hc) T hK (SH (few ks O.sub T.nd)) λh2 tk2 D ko e kp2 hD he pk so=>?_;have hD':s1.heap.objs.size<=D:=BM hSz hD;have hn:H1 D=none:=I1.hok.fresh hD';have lko:ko.length<=301:=by rw[pk.length_eq];exact SH (few ks O.sub T.nd)
 have kov:∀x∈ko,∃j,j<its.length/\x=vals j:=λx hx=>O.sub x (pk.mem_iff.mp hx);have vl:∀l:List (List Int×Addr),Vals (l.map λx=>V.ref x.2) (l.map λx=>AV x.2):=λl=>by
  induction l with
  | nil=>exact .nil
  | cons x r ih=>exact .cons rfl ih
 have pv:∀l:List (List Int×Addr),(∀x∈l,∃j,j<its.length/\x=vals j)->A9 (rPair X.K H1) (l.map (·.1)) (l.map λx=>V.ref x.2):=λl=>by
  induction l with
  | nil=>exact λ_=>.nil
  | cons x r ih =>
   intro hh;obtain ⟨j,hj,rfl⟩:=hh x AC;exact .cons (hvals j hj).2.2.1 (ih λy hy=>hh y (AG _ hy))
 have pw:∀l:List (List Int×Addr),(∀x∈l,∃j,j<its.length/\x=vals j)->A9 (λm y=>∃i:Nat,rs[i]?=some m/\xs[i]?=some y) (l.map (·.1)) (l.map λx=>V.ref x.2):=λl=>by
  induction l with
  | nil=>exact λ_=>.nil
  | cons x r ih =>
   intro hh;obtain ⟨j,hj,rfl⟩:=hh x AC;exact .cons ⟨j,(hvals j hj).2.1,(hvals j hj).2.2.2⟩ (ih λy hy=>hh y (AG _ hy))
 refine ⟨.ref D,_,I1.laid (o:=.lst (ko.map λx=>V.ref x.2)) (a:=D) (t':=tk2) (λb o eb=>kp2 b o (kp b o eb)) hD' ⟨?_,ko.map (λx=>AV x.2),e,vl ko,he⟩,rfl,q D _ (ko.map (·.1)) hn so (λrr=>?_) (pv ko kov) (pw ko kov)⟩
 ·rw[AB]
  exact small (by lia)
 ·constructor
  ·intro hr
   obtain ⟨x,hx,rfl⟩:=AY.mp hr;obtain ⟨j,hj,rfl⟩:=kov x hx;exact inrs j hj
  ·intro hr
   obtain ⟨j,hj⟩:=DA.mp hr;have hjl:j<its.length:=by
    have:=(AL.mp hj).1;lia
   have z:=(hvals j hjl).2.1;rw[hj] at z;cases z;exact (pk.map (·.1)).mem_iff.mpr (O.sup j hjl)
end
end L2
end
section
namespace K43s
open PySem L2 G
def Qw(K:As)(C:Addr):Sp:=λvs H Q _=>∃(l:Addr) (n top:Nat) (rows:List Row),vs=[.int n,.ref l,.int top]/\RowsAt K H l rows/\Ok n rows/\n<=12/\rows.length<=4100/\FewB rows top/\Knot rows top /\
 ∀(p:Addr) (nums:List Row) (hd:Nat) (H':Hp),Same H H'->SvAt K C H' p n nums hd->Canon n nums hd->(∀s,led nums hd s=led rows top s)->(nums.length<=4000/\nums.length<=rows.length/\∀t,(nums.filter λr=>decide (r.1=t)).length<=300)->Q (.ref p) H'
def pl01:List (Key×V):=mergeK [] [(FO (0:Int),V.int 0),(FO (1:Int),V.int 1)]
theorem ABl:PlD pl01 λk=>if k=0 then some 0 else if k=1 then some 1 else none:=by
 intro k;show valV (putK (putK ([]:List (Key×V)) (FO (0:Int)) (V.int 0)) (FO (1:Int)) (V.int 1)) (FO (k:Int))=_;rw[Ed,Ed];by_cases k1:k=1
 ·subst k1;rfl
 by_cases k0:k=0
 ·subst k0;rfl
 rw[if_neg (λz=>k1 (by injection z with z;lia)),if_neg (λz=>k0 (by injection z with z;lia))];dsimp only;rw[if_neg k0,if_neg k1];rfl
theorem AFH:pl01.length<=2+4100*0:=by
 show (putK (putK ([]:List (Key×V)) (FO (0:Int)) (V.int 0)) (FO (1:Int)) (V.int 1)).length<=2+4100*0;exact BM (CV _ _ _) (Tb (CV _ _ _))
def LayR(rows:List Row)(pl:Nat->Option Nat)(H:Hp)(k:Nat)(v:V):Prop:=∃q b,v=.ref q/\H q=some (.tup [.int k,.ref b])/\H b=some (.tup (r3 (rowIn rows pl k)))
theorem LayR.keeps{rows:List Row}{pl:Nat->Option Nat}{H H':Hp}{k:Nat}{v:V}(e:∀a xs,H a=some (.tup xs)->H' a=some (.tup xs))(h:LayR rows pl H k v):LayR rows pl H' k v :=
 let ⟨q,b,h1,h2,h3⟩:=h;⟨q,b,h1,e _ _ h2,e _ _ h3⟩
def RowR(H:Hp)(r:Row)(v:V):Prop:=∃b,v=.ref b/\H b=some (.tup (r3 r))
theorem RowR.keeps{H H':Hp}{r:Row}{v:V}(e:∀a xs,H a=some (.tup xs)->H' a=some (.tup xs))(h:RowR H r v):RowR H' r v :=
 let ⟨b,h1,h2⟩:=h;⟨b,h1,e _ _ h2⟩
def sel(rows:List Row)(pl:Nat->Option Nat)(ly:List Nat)(j:Nat):List Row:=((ly.take j).map (rowIn rows pl)).filter λr=>decide (r.2.2≠0)
theorem Sd{rows:List Row}{pl:Nat->Option Nat}{ly:List Nat}{j k:Nat}(h:ly[j]?=some k):sel rows pl ly (j+1)=sel rows pl ly j++if (rowIn rows pl k).2.2≠0 then [rowIn rows pl k] else []:=by
 unfold sel;rw[DM,h,BU,Cc];by_cases c:(rowIn rows pl k).2.2≠0
 ·simp[c]
 ·simp[c]
theorem Xu(rows:List Row)(pl:Nat->Option Nat)(ly:List Nat)(j:Nat):(sel rows pl ly j).length<=ly.length:=by
 unfold sel;refine BM (Cs _ _) ?_;rw[AB,BQ];lia
theorem RP{rows:List Row}{pl:Nat->Option Nat}{ly:List Nat}{r:Row}:r∈sel rows pl ly ly.length↔∃k∈ly,r=rowIn rows pl k/\r.2.2≠0:=by
 unfold sel;rw[CF,BS,AY];constructor
 ·rintro⟨⟨k,hk,rfl⟩,h⟩
  exact ⟨k,hk,rfl,of_decide_eq_true h⟩
 ·rintro⟨k,hk,rfl,h⟩
  exact ⟨⟨k,hk,rfl⟩,decide_eq_true h⟩
def placeOf(rows:List Row)(pl:Nat->Option Nat)(nums:List Row)(k:Nat):Nat:=(numOf 2 nums (rowIn rows pl k)).getD (rowIn rows pl k).2.1
theorem KZ{α β γ:Type}{F:β->γ->Prop}{f:α->β}:∀{l:List α}{m:List γ},A9 (λa b=>F (f a) b) l m->A9 F (l.map f) m
 | _,_,.nil=>.nil
 | _,_,.cons h t=>.cons h (KZ t)
theorem ADG{rows new:List Row}{rc:List Nat}{pl:Nat->Option Nat}{t:Nat}(h:(new.map r3i).Pairwise (λa b=>HT.lexLt a b=true))(hw:∀r,r∈new->∃k,k∈rc/\tieOf rows k=t/\r=rowIn rows pl k/\r.2.2≠0):new.Pairwise RowLt:=by
 have h2:new.Pairwise (λa b=>HT.lexLt (r3i a) (r3i b)=true):=CS.mp h;have tie:∀r∈new,r.1=t:=λr hr=>by
  obtain ⟨k,_,h,e,_⟩:=hw r hr;rw[e];exact h
 refine EI (λ{a b} ha hb z=>?_) h2;have ea:=tie a ha;have eb:=tie b hb;obtain ⟨a1,a2,a3⟩:=a;obtain ⟨b1,b2,b3⟩:=b;dsimp only at ea eb;subst ea;subst eb;unfold r3i at z;dsimp only at z;rw[HT.CW,if_pos rfl,HT.CW] at z;refine .inr ⟨rfl,?_⟩;dsimp only;by_cases c:(a2:Int)=b2
 ·rw[if_pos c,HT.CW] at z
  by_cases d:(a3:Int)=b3
  ·rw[if_pos d] at z
   cases z
  ·rw[if_neg d] at z
   have:=of_decide_eq_true z;exact .inr ⟨by lia,by lia⟩
 ·rw[if_neg c] at z
  have:=of_decide_eq_true z;exact .inl (by lia)
section
variable{P:AK}{w:AR}{K:As}{mg:Str->Option Au}{base:Heap}{f C:Addr}{fd:BV}
theorem Dz:FnScope ["n","rows","top","reached","numbers","places","tie","layer","row","knot"] ["n","rows","top"] (Ag Kq):=⟨rfl,rfl,rfl,by decide +kernel,rfl,by decide +kernel,by decide +kernel⟩
theorem ABc{fR fI fS:Addr}{fdR fdI fdS:BV}(F:Fun K "least_graph" "least_graph" Kq f fd)(T:Txt K mg C)(M:Mk K C fS)
  (GR:FnOk P w K mg base CX0 1 fR fdR ["rows","top"] (YM K)) (bR:Binds K fdR ["rows","top"] []) (kR:AW K (.ref fR)=true) (mR:mg "reached_knots" = some (.ref fR))
  (GI:FnOk P w K mg base CX0 1 fI fdI ["places","row"] (AGp K)) (bI:Binds K fdI ["places","row"] []) (kI:AW K (.ref fI)=true) (mI:mg "row_in_places" = some (.ref fI))
  (GS:FnOk P w K mg base CX0 1 fS fdS ["self","n","rows","head"] (Kv K C)) (bS:Binds K fdS ["self","n","rows","head"] []) :
  FnOk P w K mg base CX0 3 f fd ["n","rows","top"] (Qw K C):=by
 refine F.ok Dz (λvs H Q E h=>?_) (λcdv A outer s H vs Q E hr h=>?_)
 ·obtain ⟨l,n,top,rows,rfl,_⟩:=h
  rfl
 obtain ⟨l,n,top,rows,rfl,hL,ok,n12,r72,fw,kt,q⟩:=h;have hr1:Room 1 _:=hr.mono (by decide);refine ⟨_,Ad (Av (i:=3) Dz.nd rfl (BC rfl) (Ay GR hr1 rfl mR kR bR .nil pass0 (Aa (pv 1) (Aa (pv 2) Ac))))
  (Ad (Av (i:=4) Dz.nd rfl (BC rfl) AAp)
  (Ad (Av (i:=5) Dz.nd rfl (HR rfl) (Wx (KJ Ah Ah (KJ Ah Ah YJ)) rfl rfl (by intro z;cases z) (by decide)))
  (Ad (Cw Db rfl (Ob rfl T.range (Aa (Az Ft (pv 0) Ah) (Aa (Wy Qh Ah) (Aa (Wy Qh Ah) Ac)))) (Aq (i:=6) Dz.nd rfl (HR rfl))
   (Ad (Jv (i:=7) (Ag Kq) ["knot"] ["places","rows","tie"] [5,1,6] Dz.nd rfl (BC rfl) rfl rfl (by decide +kernel) ⟨⟨rfl,by decide +kernel⟩,⟨rfl,by decide +kernel⟩,⟨rfl,by decide +kernel⟩,trivial⟩ (Bv (pv 3))
    (λ_ _ _=>Aq (i:=0) (show ((["knot"]:List Str)++(["places","rows","tie"]:List Str)).Nodup by decide +kernel) rfl (BC rfl))
    (λ_ _ _=>Bt (Ao Ci (BK (Qx (K:=K) rfl) (BK (Qx (K:=K) rfl) (pv 2) (Az Ft (pv 0) Ah) (λ_ _=>rfl)) Ah (λ_ _=>rfl)) (pv 3) (nomark _)))
    (λ_ _ _=>CZ (Aa (pv 0) (Aa (Ay GI hr1 rfl mI kI bI .nil pass0 (Aa (pv 1) (Aa (BK (Qx (K:=K) rfl) (pv 2) (Az Ft (pv 0) Ah) (λ_ _=>rfl)) Ac))) Ac))))
   (Ad (Cw Db rfl (Bv (JW rfl (Cg hr) rfl T.sorted rfl T.set
     (Bo (Ag Kq) ["knot","row"] [] [] rfl rfl (by decide +kernel) trivial (Bv (pv 7))
      (λ_ _ _=>Fl (K:=K) (n:=2) rfl rfl (CK (Aq (i:=0) (show ((["knot","row"]:List Str)++([]:List Str)).Nodup by decide +kernel) rfl (BC rfl)) (CK (Aq (i:=1) (show ((["knot","row"]:List Str)++([]:List Str)).Nodup by decide +kernel) rfl (BC rfl)) FZ)))
      (λ_ _ _=>Bt (Ao Nt (BK (Qf (K:=K) rfl) (pv 1) Ah (λ_ _=>rfl)) Ah (nomark _)))
      (λ_ _ _=>pv 1)))) (Aq (i:=8) Dz.nd rfl (BC rfl))
    (Ai (Jk (Cg hr) (pv 4) (pv 8) (Az Cy (BJ Uk rfl T.len CL (Aa (pv 4) Ac)) Ah) rfl)))
   (Ai (Cw Db rfl (Bv (pv 7)) (Fl (K:=K) (n:=2) rfl rfl (CK (Aq (i:=9) Dz.nd rfl (BC rfl)) (CK (Aq (i:=8) Dz.nd rfl (BC rfl)) FZ)))
    (Ai (Jk (Cg hr) (pv 5) (pv 9) (AAL (Cg hr) (pv 4) (pv 8) (BK Bj (pv 8) Ah (λ_ _=>rfl)) ⟨rfl,rfl,rfl,rfl⟩) rfl)))))))
  (Ai (Ax (QV M GS hr rfl T.mgC bS .nil pass0 (Aa (pv 0) (Aa (BP (Qi rfl) rfl T.list Hd (Aa (pv 4) Ac)) (Aa (QG (Cg hr) (pv 5) (pv 2) (λ_ _=>rfl)) Ac))))))))),?_⟩
 refine ⟨_,rfl,_,rfl,l,n,top,rows,rfl,hL,ok,r72,kt,λR rc H1 s1 nR eR cl tr rl0 par=>?_⟩;have rl:∀t j,(lay rows t rc j).length<=4100:=λt j=>BM (rl0 t j) (BM (Cs ..) r72);refine λN hN=>?_;have nN:H N=none:=s1.free hN;have s2:=s1.trans (Same.new hN (.dT []));refine λD hD=>⟨Ab,[(.inl (0:Int),.int 0),(.inl (1:Int),.int 1)],rfl,(by show 2<=15;decide),?_⟩;have nD:H D=none:=s2.free hD;have RN:R≠N:=Ae eR hN;have RD:R≠D:=Ae (show (upd H1 N (.dT [])) R=some (.lst (iN rc)) by rw[Af RN];exact eR) hD;have ND:N≠D:=Ae (show (upd H1 N (.dT [])) N=some (.dT []) from Ab) hD;refine ⟨_,rfl,_,_,rfl,rfl,1,rfl,1,rfl,(n:Int)-1,-1,rfl,⟨by lia,by lia,by lia,by lia⟩,?_⟩;refine TF (lo:=(n:Int)-1) (n:=((n:Int)-1 - -1).toNat) (λi σ H2=>∃(nums:List Row) (kvs:List (Key×V)) (pl:Nat->Option Nat) (o6 o7 o8 o9:Option V),σ=[some (.int n),some (.ref l),some (.int top),some (.ref R),some (.ref N),some (.ref D),o6,o7,o8,o9]/\Same H H2 /\
   H2 R=some (.lst (iN rc))/\H2 N=some (.dT (numKV 2 nums))/\H2 D=some (.dK kvs)/\PlD kvs pl/\Kept2 n (n-i) rows rc nums pl/\nums.length<=300*i/\kvs.length<=2+4100*i/\∀t,(nums.filter λr=>decide (r.1=t)).length<=300)
  ⟨[],_,λk=>if k=0 then some 0 else if k=1 then some 1 else none,none,none,none,none,rfl,λb o e=>?_,?_,?_,Ab,?_,?_,by simp,?_,λt=>A8 _⟩ ?_ ?_
 ·rw[Af (Ae e nD),Af (Ae e nD)]
  exact s2 b o e
 ·rw[Af RD,Af RD,Af RN]
  exact eR
 ·rw[Af ND,Af ND,Ab]
  rfl
 ·exact ABl
 ·exact Wo λk hk=>(cl.low ok hk).1
 ·exact AFH
 ·rintro i σ H2 hi ⟨nums,kvs,pl,o6,o7,o8,o9,rfl,sm,eR2,eN2,eD2,pd,kp,nl,kl,cn⟩
  obtain ⟨t,et,tn,tn',tlt⟩:∃t:Nat,(n:Int)-1-i=t/\n-i=t+1/\n-(i+1)=t/\t<n:=⟨n-1-i,by lia,by lia,by lia,by lia⟩;rw[et];rw[tn] at kp;have hL2:=hL.same sm;refine ⟨_,rfl,R,rfl,⟨_,SqL.of eR2⟩,λY hY=>?_⟩;have nY:H Y=none:=sm.free hY;refine Bl (K:=K) (a:=R) (xs:=iN rc) (λj τ H3=>∃(kv:Option V) (ys:List V),τ=[kv,some (.ref D),some (.ref l),some (.int t)]/\Same H2 H3/\H3 Y=some (.lst ys)/\A9 (LayR rows pl H3) (lay rows t rc j) ys)
   ⟨none,[],rfl,Same.new hY _,Ab,.nil⟩ (λj τ H3 _ ⟨_,_,_,s3,_⟩=>s3.seq (SqL.of eR2)) ?_ ?_
  ·rintro j x τ H3 hx ⟨kv,ys,rfl,s3,eY,py⟩
   obtain ⟨k,hk,rfl⟩:∃k:Nat,rc[j]?=some k/\x=.int (k:Int):=by
    unfold iN at hx;rw[A2] at hx;cases g:rc[j]? with
    | none=>rw[g] at hx;cases hx
    | some k=>rw[g] at hx;cases hx;exact ⟨k,rfl,rfl⟩
   have km:=Bi hk;obtain ⟨xs,p,hS,ha,hp⟩:=Qp (hL2.same s3) (cl.knot k km) (cl.two k km);refine ⟨_,rfl,_,rfl,_,_,rfl,rfl,ixA hS ha (ixA hp at0 ⟨_,rfl,rfl,_,rfl,?_⟩)⟩;refine ite2 (λc=>?_) (λc=>?_)
   ·have c':tieOf rows k=t:=by
     have:=of_decide_eq_true c;injection this with this
     exact VW this
    obtain ⟨a,b,pa,pb,re,_⟩:=kp.base.row cl ok tlt km c';have hx':valV kvs (FO (((rows.getD (k-2) (0,0,0)).2.1:Nat):Int))=some (.int (a:Int)):=by
     have:=pd (outOf rows k);rw[pa] at this;exact this
    have hy':valV kvs (FO (((rows.getD (k-2) (0,0,0)).2.2:Nat):Int))=some (.int (b:Int)):=by
     have:=pd (intoOf rows k);rw[pb] at this;exact this
    refine ⟨_,rfl,_,rfl,_,rfl,_,rfl,_,_,rfl,rfl,ixA hS ha ⟨D,p,rows.getD (k-2) (0,0,0),a,b,kvs,rfl,s3 _ _ eD2,⟨p,rfl,hp⟩,hx',hy',λu hu=>?_⟩⟩;refine ⟨(by show 2<=sizeLine;decide),λv hv=>?_⟩;have er:[V.int ((rows.getD (k-2) (0,0,0)).1:Nat),V.int (a:Int),V.int (b:Int)]=r3 (rowIn rows pl k):=by
     rw[re,<- c'];rfl
    rw[er];rw[er] at hv;have su:=Same.new hu (.tup (r3 (rowIn rows pl k)));have sv:=Same.new hv (.tup [.int (k:Int),.ref u]);have eY2:=sv _ _ (su _ _ eY);have ll:=rl t j;have ly:ys.length<=4100:=by rw[<- AQ py];lia
    have kt:∀a xs,(upd (upd H3 u (.tup (r3 (rowIn rows pl k)))) v (.tup [.int (k:Int),.ref u])) a=some (.tup xs)->(upd (upd (upd H3 u (.tup (r3 (rowIn rows pl k)))) v (.tup [.int (k:Int),.ref u])) Y (.lst (ys++[.ref v]))) a=some (.tup xs):=λa xs e=>by
     rw[Af (Cq e eY2 (by intro z;cases z))];exact e
    refine ⟨_,eY2,smallN (by lia),_,_,rfl,λb o e=>?_,Ab,?_⟩
    ·rw[Af (Ae e hY)]
     exact sv _ _ (su _ _ (s3 b o e))
    ·rw[Rt hk,if_pos c']
     refine Paired.app (Paired.imp (λa b r=>(r.keeps λa xs e=>sv _ _ (su _ _ e)).keeps kt) py) (Paired.one ⟨v,u,rfl,kt _ _ Ab,kt _ _ (sv _ _ Ab)⟩)
   ·have c':¬ tieOf rows k=t:=λe=>c (decide_eq_true (by show V.int ((tieOf rows k:Nat):Int)=V.int (t:Int);rw[e]))
    refine ⟨_,_,rfl,s3,eY,?_⟩;rw[Rt hk,if_neg c',BI];exact py
  ·rintro τ H3 ⟨kv,ys,rfl,s3,eY,py⟩
   have rcl:(iN rc).length=rc.length:=AB ..;rw[rcl] at py;have ll:=rl t rc.length;have ly:ys.length<=4100:=by rw[<- AQ py];lia
   refine ⟨_,rfl,Y,rfl,⟨_,SqL.of eY⟩,λZ hZ=>?_⟩;refine Bl (K:=K) (a:=Y) (xs:=ys) (λj τ H4=>∃(o1 o2:Option V) (zs:List V),τ=[o1,o2]/\Same H3 H4/\H4 Z=some (.lst zs)/\A9 (RowR H4) (sel rows pl (lay rows t rc rc.length) j) zs)
    ⟨none,none,[],rfl,Same.new hZ _,Ab,.nil⟩ (λj τ H4 _ ⟨_,_,_,_,s4,_⟩=>s4.seq (SqL.of eY)) ?_ ?_
   ·rintro j x τ H4 hx ⟨o1,o2,zs,rfl,s4,eZ,pz⟩
    obtain ⟨k,hk,u,b,rfl,hu,hb⟩:=Paired.get py hx;have hu4:=s4 _ _ hu;have hb4:=s4 _ _ hb;refine ⟨u,_,rfl,SqT.of hu4,rfl,_,_,rfl,_,_,rfl,rfl,?_⟩;refine ⟨_,rfl,b,_,_,_,rfl,rfl,SqT.of hb4,at2,rfl,_,rfl,?_⟩;have zl:zs.length<=4100:=by rw[<- AQ pz];exact BM (Xu _ _ _ _) (by lia)
    refine ite2 (λc=>?_) (λc=>?_)
    ·have c':(rowIn rows pl k).2.2≠0:=λe=>by
      rw[e] at c;exact absurd c (by decide)
     refine ⟨_,rfl,_,eZ,smallN (by lia),_,_,_,rfl,λb o e=>?_,Ab,?_⟩
     ·rw[Af (Ae e hZ)]
      exact s4 b o e
     ·rw[Sd hk,if_pos c']
      have kz:∀a xs,H4 a=some (.tup xs)->(upd H4 Z (.lst (zs++[.ref b]))) a=some (.tup xs):=λa xs e=>by rw[Af (Cq e eZ (by intro z;cases z))];exact e
      exact Paired.app (Paired.imp (λa b r=>r.keeps kz) pz) (Paired.one ⟨b,rfl,kz _ _ hb4⟩)
    ·have c':(rowIn rows pl k).2.2=0:=by
      rcases Sa (rowIn rows pl k).2.2 with e | e
      ·exact e
      ·exact absurd (by rw[decide_eq_false (λz=>by injection z with z;lia)];rfl) c
     refine ⟨_,_,_,rfl,s4,eZ,?_⟩;rw[Sd hk,if_neg (λz=>z c'),BI];exact pz
   ·rintro τ H4 ⟨o1,o2,zs,rfl,s4,eZ,pz⟩
    rw[<- AQ py] at pz;have zl:(sel rows pl (lay rows t rc rc.length) (lay rows t rc rc.length).length).length<=4100:=BM (Xu _ _ _ _) (by lia);refine ⟨Z,zs,(sel rows pl (lay rows t rc rc.length) (lay rows t rc rc.length).length).map r3i,rfl,SqL.of eZ,KZ (Paired.imp (λr v ⟨b,e,hb⟩=>by rw[e];exact Cj (ns:=r3i r) hb) pz),λms nd hm=>?_,λS ys' ms hS so mem pr pw=>?_⟩
    ·obtain ⟨new,rfl⟩:=Ip ms λm hm'=>by
      obtain ⟨r',_,e⟩:=AY.mp (hm m hm');exact ⟨r',e.symm⟩
     rw[AB];refine fw.sel kp cl ok tlt par new ((CS.mp nd).imp λh e=>h (by rw[e])) λr hr=>?_;obtain ⟨r',h1,h2⟩:=AY.mp (hm _ (FF hr));rw[Jw h2] at h1;obtain ⟨k,h1,h2,h3⟩:=RP.mp h1;obtain ⟨h4,h5⟩:=Hh.mp h1;exact ⟨k,h4,h5,h2,h3⟩
    obtain ⟨new,rfl⟩:=Ip ms λm hm=>by
     obtain ⟨r',_,e⟩:=AY.mp ((mem m).mp hm);exact ⟨r',e.symm⟩
    have nd:=Yu so;have inNew:∀r∈new,r∈sel rows pl (lay rows t rc rc.length) (lay rows t rc rc.length).length:=λr hr=>by
     obtain ⟨r',h1,h2⟩:=AY.mp ((mem (r3i r)).mp (FF hr));rw[<- Jw h2];exact h1
    have hw:∀r,r∈new->∃k,k∈rc/\tieOf rows k=t/\r=rowIn rows pl k/\r.2.2≠0:=λr hr=>by
     obtain ⟨k,h1,h2,h3⟩:=RP.mp (inNew r hr);obtain ⟨h4,h5⟩:=Hh.mp h1;exact ⟨k,h4,h5,h2,h3⟩
    have hw2:∀k∈rc,tieOf rows k=t->(rowIn rows pl k).2.2≠0->rowIn rows pl k∈new:=λk hk hkt w0=>by
     have h0:r3i (rowIn rows pl k)∈new.map r3i:=(mem _).mpr (FF (RP.mpr ⟨k,Hh.mpr ⟨hk,hkt⟩,rfl,w0⟩));obtain ⟨r',h1,h2⟩:=AY.mp h0;rw[<- Jw h2];exact h1
    have newl:new.length<=300:=fw.sel kp cl ok tlt par new nd hw;have ly':ys'.length=new.length:=by rw[<- AQ pr,AB]
    have sS:=Same.new hS (.lst ys');have eN4:=sS _ _ (s4 _ _ (s3 _ _ eN2));have eD4:=sS _ _ (s4 _ _ (s3 _ _ eD2));have eR4:=sS _ _ (s4 _ _ (s3 _ _ eR2));have eY4:=sS _ _ (s4 _ _ eY);have SN:S≠N:=Cq (show (upd H4 S (.lst ys')) S=some (.lst ys') from Ab) eN4 (by intro z;cases z);refine ⟨S,rfl,⟨_,SqL.of Ab⟩,?_⟩;refine Ec (K:=K) (a:=S) (xs:=ys') (λj σ H5=>∃o8:Option V,σ=[some (.int n),some (.ref l),some (.int top),some (.ref R),some (.ref N),some (.ref D),some (.int t),some (.ref Y),o8,o9]/\(∀b o,b≠N->(upd H4 S (.lst ys')) b=some o->H5 b=some o) /\
      H5 N=some (.dT (numKV 2 (nums++new.take j)))) ⟨o8,rfl,λb o _ e=>e,by rw[MQ,BI];exact eN4⟩ (λj σ H5 _ ⟨_,_,k5,_⟩=>SqL.of (k5 _ _ SN Ab)) ?_ ?_
    ·rintro j x σ H5 hx ⟨o8,rfl,k5,eN5⟩
     obtain ⟨m,hm,i',hi1,hi2⟩:=Paired.get pw hx;obtain ⟨r,hr,rfl⟩:∃r,new[j]?=some r/\m=r3i r:=by
      rw[A2] at hm;cases g:new[j]? with
      | none=>rw[g] at hm;cases hm
      | some r=>rw[g] at hm;cases hm;exact ⟨r,rfl,rfl⟩
     obtain ⟨r',hr',b,rfl,hb⟩:=Paired.get pz hi2;have er:r'=r:=by
      rw[A2,hr'] at hi1;exact Jw (BH hi1)
     subst er;have bN:b≠N:=Cq (sS _ _ hb) eN4 (by intro z;cases z);have hb5:=k5 _ _ bN (sS _ _ hb);have rn:r'∉nums++new.take j:=λhm=>by
      rcases B9.mp hm with hm | hm
      ·have:=kp.base.ge r' hm
       obtain ⟨k,_,h5,h2,_⟩:=hw r' (Bi hr);rw[h2] at this;have e:(rowIn rows pl k).1=tieOf rows k:=rfl;lia
      ·obtain ⟨j',hj'⟩:=DA.mp hm
       rw[List.getElem?_take] at hj';split at hj'
       ·have:=(LF (AL.mp hj').1 nd).mp (hj'.trans hr.symm)
        lia
       ·cases hj'
     have nl2:(nums++new.take j).length<=300*13:=by
      rw[AT,BQ];lia
     refine ⟨_,rfl,N,_,rfl,eN5,_,_,rfl,rfl,_,rfl,_,rfl,N,_,rfl,.inr ⟨_,ik3 r',b,eN5,rfl,hb5,by rw[Io];exact smallN (by lia),rfl⟩,?_⟩;refine ⟨_,rfl,λb o hb e=>by rw[Af hb];exact k5 b o hb e,?_⟩;rw[Ab,Zq rn,DM,hr];rw[CD];rfl
    ·rintro σ H5 ⟨o8,rfl,k5,eN5⟩
     rw[ly',CF] at eN5;have DN:D≠N:=Cq eD4 eN4 (by intro z;cases z);have RN4:R≠N:=Cq eR4 eN4 (by intro z;cases z);have YN:Y≠N:=Cq eY4 eN4 (by intro z;cases z);have eD5:=k5 _ _ DN eD4;have eR5:=k5 _ _ RN4 eR4;have eY5:=k5 _ _ YN eY4;have YD:Y≠D:=Cq eY5 eD5 (by intro z;cases z);refine ⟨_,rfl,Y,rfl,⟨_,SqL.of eY5⟩,?_⟩;refine Ec (K:=K) (a:=Y) (xs:=ys) (λj σ H6=>∃(o8 o9:Option V) (kvs':List (Key×V)),σ=[some (.int n),some (.ref l),some (.int top),some (.ref R),some (.ref N),some (.ref D),some (.int t),some (.ref Y),o8,o9]/\(∀b o,b≠D->H5 b=some o->H6 b=some o) /\
       H6 D=some (.dK kvs')/\PlD kvs' (plOf pl (placeOf rows pl (nums++new)) ((lay rows t rc rc.length).take j))/\kvs'.length<=kvs.length+j) ⟨o8,o9,kvs,rfl,λb o _ e=>e,eD5,?_,by lia⟩ (λj σ H6 _ ⟨_,_,_,_,k6,_⟩=>SqL.of (k6 _ _ YD eY5)) ?_ ?_
     ·intro k
      rw[pd k];unfold plOf;rw[if_neg (by simp)]
     ·rintro j x σ H6 hx ⟨o8,o9,kvs',rfl,k6,eD6,pd6,kl6⟩
      obtain ⟨k,hk,u,b,rfl,hu,hb⟩:=Paired.get py hx;have up:∀a xs,H3 a=some (.tup xs)->H6 a=some (.tup xs):=λa xs e=>by
       have e4:=sS _ _ (s4 _ _ e);have e5:=k5 _ _ (Cq e4 eN4 (by intro z;cases z)) e4;exact k6 _ _ (Cq e5 eD5 (by intro z;cases z)) e5
      have eN6:=k6 _ _ (DF DN) eN5;have jl:j<ys.length:=(AL.mp hx).1;refine ⟨u,_,rfl,SqT.of (up _ _ hu),rfl,_,_,rfl,_,_,rfl,rfl,?_⟩;refine ⟨_,rfl,N,rfl,.inr ⟨_,.inl eN6⟩,_,rfl,_,rfl,b,_,_,_,rfl,rfl,SqT.of (up _ _ hb),at1,_,DGet.t (k:=ik3 (rowIn rows pl k)) eN6 (up _ _ hb),?_⟩;refine ⟨_,rfl,_,rfl,D,_,rfl,.inl ⟨kvs',FO (k:Int),eD6,rfl,smallN (by lia),rfl⟩,?_⟩;have ev:(valV (numKV 2 (nums++new)) (ik3 (rowIn rows pl k))).getD (V.int ((rowIn rows pl k).2.1:Nat))=V.int ((placeOf rows pl (nums++new) k:Nat):Int):=by
       rw[JK];unfold placeOf;cases numOf 2 (nums++new) (rowIn rows pl k)<;>rfl
      rw[ev];refine ⟨_,_,_,rfl,λb o hb e=>by rw[Af hb];exact k6 b o hb e,Ab,?_,by have:=CV kvs' (FO (k:Int)) (V.int ((placeOf rows pl (nums++new) k:Nat):Int));lia⟩;rw[DM,hk];exact PlD.put pd6
     ·rintro σ H6 ⟨o8,o9,kvs',rfl,k6,eD6,pd6,kl6⟩
      rw[<- AQ py,CF] at pd6;refine ⟨nums++new,kvs',_,_,_,_,_,rfl,λb o e=>?_,k6 _ _ (Cq eR5 eD5 (by intro z;cases z)) eR5,k6 _ _ (DF DN) eN5,eD6,pd6,?_,by rw[AT];lia,by lia,λt1=>?_⟩
      ·have e4:=sS _ _ (s4 _ _ (s3 _ _ (sm b o e)))
       exact k6 _ _ (Ae e nD) (k5 _ _ (Ae e nN) e4)
      ·rw[tn']
       refine kp.step cl ok tlt hw nd hw2 (ADG so hw) (λk hk=>?_) (λk hk ht=>?_)
       ·unfold plOf
        rw[if_neg (λz=>by
         obtain ⟨z1,z2⟩:=Hh.mp z;rcases hk with hk | hk
         ·exact hk z1
         ·exact hk z2)]
       ·refine ⟨placeOf rows pl (nums++new) k,by unfold plOf;rw[if_pos (Hh.mpr ⟨hk,ht⟩)],?_⟩
        unfold placeOf;cases g:numOf 2 (nums++new) (rowIn rows pl k) with
        | some m =>
         obtain ⟨j,h1,h2⟩:=Lx _ _ _ _ g;exact .inl ⟨j,h1,by show m=j+2;lia⟩
        | none=>exact .inr ⟨KH _ _ _ g,rfl⟩
      ·rw[Cc,AT]
       by_cases c:t1=t
       ·rw[JU.mpr λr hr z=>by
         have:=kp.base.ge r hr;have:=of_decide_eq_true z;lia]
        have:=Cs (λr:Row=>decide (r.1=t1)) new;simp only[F9];lia
       ·rw[JU (l:=new) |>.mpr λr hr z=>by
         obtain ⟨k,_,h5,h2,_⟩:=hw r hr;have:=of_decide_eq_true z;rw[h2] at this;have e:(rowIn rows pl k).1=tieOf rows k:=rfl;lia]
        exact cn t1
 ·rintro σ H2 ⟨nums,kvs,pl,o6,o7,o8,o9,rfl,sm,eR2,eN2,eD2,pd,kp,nl,kl,cn⟩
  have e0:n-((n:Int)-1 - -1).toNat=0:=by lia
  rw[e0] at kp;have ht:∃p:Nat,pl top=some p:=by
   rcases tr with h | h
   ·have:top=0\/top=1:=by lia
    rcases this with rfl | rfl
    ·exact ⟨0,kp.base.z⟩
    ·exact ⟨1,kp.base.o⟩
   ·obtain ⟨p,hp,_⟩:=kp.base.has top h (A8 _)
    exact ⟨p,hp⟩
  obtain ⟨hd,ehd⟩:=ht;refine ⟨_,rfl,_,rfl,N,_,rfl,eN2,λA0 ys hA kL=>?_⟩;have sA:=Same.new hA (.lst ys);refine ⟨_,rfl,_,rfl,D,.int hd,rfl,?_,?_⟩
  ·have:=DGet.k (k:=.inl (top:Int)) (sA _ _ eD2)
   rw[pd top,ehd] at this;exact this
  ·intro x dx hx hdx ne
   have hx2:(upd (upd H2 A0 (.lst ys)) dx (.own x)) x=none:=by rw[Af (DF ne)];exact hx
   have s4:=(Same.new hdx (.own x)).trans (Same.new hx2 (.ins C dx []));refine ⟨x,dx,A0,n,hd,ys,nums,rfl,Ab,s4.seq (SqL.of Ab),Paired.imp (λa b r=>Bd _ _ _ _ s4.ts (Bd _ _ _ _ sA.ts r)) (Nm kL),λH' hs sv=>⟨rfl,q x nums hd H' (λb o e=>?_) sv (kp.canon cl ok tr ehd par).1 (kp.canon cl ok tr ehd par).2 ⟨by lia,ZL kp cl,cn⟩⟩⟩;have e1:=s4 _ _ (sA _ _ (sm b o e));refine hs b o e1 λz=>?_;rw[z] at e;have:=sA _ _ (sm _ o e);rw[hx] at this;cases this
end
theorem seqX{K:As}{H H':Hp}{R l:Addr}{xs:List V}(e:∀b o,b≠R->H b=some o->H' b=some o)(ne:l≠R)(h:SqL K H l xs):SqL K H' l xs:=by
 rcases h with (h | ⟨u,h⟩) | h
 ·exact .inl (.inl (e _ _ ne h))
 ·exact .inl (.inr ⟨u,e _ _ ne h⟩)
 ·exact .inr h
theorem tsX{H H':Hp}{R:Addr}{xs:List V}(e:∀b o,b≠R->H b=some o->H' b=some o)(hR:H R=some (.lst xs)):TSm H H':=λb u hb t=>e b u (λz=>by
 subst z;rw[hR] at hb;cases hb;obtain ⟨ys,e | ⟨o,e⟩⟩:=t
 ·cases e
 ·cases e) hb
theorem take_snoc{α:Type}{l:List α}{i:Nat}{x:α}(h:l[i]?=some x):l.take (i+1)=l.take i++[x]:=by rw[DM,h];rfl
theorem Gk:∀ns:List Int,(ns.map V.int).all flatV=true
 | []=>rfl
 | _::r=>Gk r
theorem DW(z:Int)(j:Addr)(h:Int){m:Str}(h1:¬ m = "head")(h2:¬ m = "rows")(h3:¬ m = "amount"):(flds z j h).lookup m=none:=by
 unfold flds;rw[Aj,if_neg h1,Aj,if_neg h2,Aj,if_neg h3]
 all_goals rfl
theorem ABN{X:Cx}{K:As}(hK:X.K=K):OpR X (F5 .Add) (rAddT K):=by subst hK;exact ADH
theorem AEb{n:Nat}{rows:List Row}(o:Ok n rows)(j:Nat):Ok n (rows.take j):=λi q e=>by
 have il:=(AL.mp e).1;have ij:i<j:=by rw[BQ] at il;lia
 obtain ⟨h1,h2,h3⟩:=o i q (by rw[F8 ij] at e;exact e);have low:∀l,Low rows q.1 (i+2) l->Low (rows.take j) q.1 (i+2) l:=λl ⟨a,b⟩=>⟨a,b.imp id λ⟨u,e,z⟩=>⟨u,by rw[F8 (by lia)];exact e,z⟩⟩;exact ⟨h1,low _ h2,low _ h3⟩
theorem Xi{n:Nat}{rows:List Row}{k:Nat}{L:List (List Nat)}(I:InOrder n rows k L):L.length<=2 ^ n:=by
 have h:(L.map (num n)).Pairwise (· < ·):=by rw[CS];exact I.ord
 have z:=ST.Br (l₁:=L.map (num n)) (l₂:=AI (2 ^ n)) (h.imp λ{a b} h=>Cn h) λx hx=>by
  obtain ⟨s,hs,rfl⟩:=AY.mp hx;obtain ⟨w1,w2⟩:=I.way s hs;have:=Vu (n:=n) (t:=0) w1 λx hx=>⟨A8 _,(w2 x hx).2⟩;exact AS.mpr this
 rw[AB,BD] at z;exact z
theorem ADy{n:Nat}{s:List Nat}(h:s.Pairwise (· < ·))(hs:∀x∈s,x<n):s.length<=n:=by
 have z:=ST.Br (l₁:=s) (l₂:=AI n) (h.imp λ{a b} h=>Cn h) λx hx=>AS.mpr (hs x hx);rw[BD] at z;exact z
theorem pow12{n:Nat}(h:n<=12):2 ^ n<=4096:=Ki (by decide) h
def rTies(K:As)(H:Hp)(s:List Nat)(v:V):Prop:=∃p,v=.ref p/\H p=some (.tup ((up s).map V.int))
theorem Fb{K:As}{H H':Hp}{ss:List (List Nat)}{ys:List V}(t:TSm H H')(h:A9 (rTies K H) ss ys):A9 (rTies K H') ss ys:=Paired.imp (λ_ _ ⟨p,e,hp⟩=>⟨p,e,t p _ hp ⟨_,.inl rfl⟩⟩) h
def rSets(K:As)(H0:Hp)(S:Addr)(H:Hp)(ss:List (List Nat))(v:V):Prop:=∃p ys,v=.ref p/\H0 p=none/\p≠S/\H p=some (.lst ys)/\A9 (rTies K H) ss ys
theorem Ph{K:As}{H0:Hp}{S:Addr}{H H':Hp}{xs:List V}{ss:List (List Nat)}{v:V}(e:∀b o,b≠S->H b=some o->H' b=some o)(hS:H S=some (.lst xs))(h:rSets K H0 S H ss v):rSets K H0 S H' ss v:=by
 obtain ⟨p,ys,rfl,h0,ne,hp,pr⟩:=h;exact ⟨p,ys,rfl,h0,ne,e _ _ ne hp,Fb (tsX e hS) pr⟩
def VR(K:As)(C:Addr):Sp:=λvs H Q _=>∃(p:Addr) (n hd:Nat) (rows:List Row),vs=[.ref p]/\SvAt K C H p n rows hd/\Ok n rows/\Knot rows hd/\n<=12/\rows.length<=4000 /\
 ∀(L:Addr) (ys:List V) (H':Hp),Same H H'->H L=none->H' L=some (.lst ys)->A9 (rTies K H') (setsOf rows hd) ys->Q (.ref L) H'
theorem KQ{K:As}{H:Hp}:∀{rows:List Row}{xs:List V},A9 (rRow K H) rows xs->A9 (rPair K H) (rows.map r3i) xs
 | _,_,.nil=>.nil
 | _,_,.cons ⟨p,e,h⟩ t=>.cons ⟨p,_,e,h,paired_ints (r3i _)⟩ (KQ t)
section
variable{P:AK}{w:AR}{K:As}{mg:Str->Option Au}{base:Heap}{f C:Addr}{fd:BV}
theorem Ut:FnScope ["sieve","sets","row"] ["sieve"] (Ag YG):=⟨rfl,rfl,rfl,by decide +kernel,rfl,by decide +kernel,by decide +kernel⟩
theorem ADf{fK fT:Addr}{fdK fdT:BV}(F:Fun K "sets_of" "sets_of" YG f fd)(T:Txt K mg C)
  (GK:FnOk P w K mg base CX0 1 fK fdK ["self"] (Jq K C)) (bK:Binds K fdK ["self"] []) (mK:Meth K C "knots" fK)
  (GT:FnOk P w K mg base CX0 1 fT fdT ["self"] (Uc K C)) (bT:Binds K fdT ["self"] []) (mT:Meth K C "top" fT) :
  FnOk P w K mg base CX0 2 f fd ["sieve"] (VR K C):=by
 refine F.ok Ut (λvs H Q E h=>?_) (λcdv A outer s H vs Q E hr h=>?_)
 ·obtain ⟨p,n,hd,rows,rfl,_⟩:=h
  rfl
 obtain ⟨p,n,hd,rows,rfl,hV,ok,kn,n12,r9,q⟩:=h;have hr1:Room 1 _:=hr.mono (by decide);refine ⟨_,Ad (Av (i:=1) Ut.nd rfl (BC rfl) (Ce (Aa (Ce Ac) (Aa (Ce (Aa (CZ Ac) Ac)) Ac))))
  (Ad (Cw Db rfl (Bv (CG (pv 0) T.cl mK GK hr1 bK .nil pass0)) (Aq (i:=2) Ut.nd rfl (HR rfl))
   (Ai (DQ (Hy DL D3 D4 Cp (pv 1) (Aa (Az Xk (BK Bk (pv 1) (BK Bj (pv 2) Ah (λ_ _=>rfl)) (λ_ _=>rfl))
    (Bo (Ag YG) ["some"] ["row"] [2] rfl rfl (by decide +kernel) ⟨⟨rfl,by decide +kernel⟩,trivial⟩ (Bv (BK Bk (pv 1) (BK Bj (pv 2) Ah (λ_ _=>rfl)) (λ_ _=>rfl)))
     (λ_ _ _=>Aq (i:=0) (show ((["some"]:List Str)++(["row"]:List Str)).Nodup by decide +kernel) rfl (BC rfl)) (λ_ _ _=>Dp)
     (λ_ _ _=>Az (ABN (K:=K) rfl) (CZ (Aa (BK (Qf (K:=K) rfl) (pv 1) Ah (λ_ _=>rfl)) Ac)) (pv 0)))) Ac)))))
  (Ai (Ax (BK Bk (pv 1) (CG (pv 0) T.cl mT GT hr1 bT .nil pass0) (λ_ _=>rfl))))),?_⟩
 obtain ⟨dx,jj,hp,_⟩:=id hV;refine ⟨A8 _,λL0 hL0=>⟨A8 _,λT0 hT0=>⟨(by show 1<=sizeLine;decide),λL1 hL1=>⟨(by show 2<=sizeLine;decide),λS hS=>?_⟩⟩⟩⟩;have sA:=Same.new hL0 (.lst []);have sB:=Same.new hT0 (.tup []);have sC:=Same.new hL1 (.lst [.ref T0]);have sD:=Same.new hS (.lst [.ref L0,.ref L1]);have s0:=sA.trans (sB.trans (sC.trans sD));have hSn:H S=none:=by
  rcases h:H S with _ | o
  ·rfl
  ·rw[(sA.trans (sB.trans sC)) _ _ h] at hS
   cases hS
 have n1:H L1=none:=by
  rcases h:H L1 with _ | o
  ·rfl
  ·rw[(sA.trans sB) _ _ h] at hL1
   cases hL1
 have e0:=(sB.trans (sC.trans sD)) _ _ (Ab (H:=H) (a:=L0) (o:=.lst []));have eT:=(sC.trans sD) _ _ (Ab (H:=upd H L0 (.lst [])) (a:=T0) (o:=.tup []));have e1:=sD _ _ (Ab (H:=upd (upd H L0 (.lst [])) T0 (.tup [])) (a:=L1) (o:=.lst [.ref T0]));have eS:(upd (upd (upd (upd H L0 (.lst [])) T0 (.tup [])) L1 (.lst [.ref T0])) S (.lst [.ref L0,.ref L1])) S=some (.lst [.ref L0,.ref L1]):=Ab;have neS0:L0≠S:=Ae ((sB.trans sC) _ _ (Ab (H:=H) (a:=L0) (o:=.lst []))) hS;have neS1:L1≠S:=Ae (Ab (H:=upd (upd H L0 (.lst [])) T0 (.tup [])) (a:=L1) (o:=.lst [.ref T0])) hS;generalize upd (upd (upd (upd H L0 (.lst [])) T0 (.tup [])) L1 (.lst [.ref T0])) S (.lst [.ref L0,.ref L1])=H1 at s0 e0 eT e1 eS;refine ⟨_,rfl,p,dx,_,rfl,s0 _ _ hp,DW _ _ _ (by decide +kernel) (by decide +kernel) (by decide +kernel),p,n,hd,rows,rfl,hV.same s0,λl ys H2 s2 hl el px=>?_⟩;have lS:l≠S:=λe=>by
  rw[e,eS] at hl;cases hl
 have lx:=AQ px;refine ⟨l,rfl,⟨_,SqL.of el⟩,?_⟩;refine Ec (K:=K) (a:=l) (xs:=ys) (λi σ H3=>∃(o:Option V) (xs:List V),σ=[some (.ref p),some (.ref S),o]/\(∀b u,b≠S->H2 b=some u->H3 b=some u)/\H3 S=some (.lst xs)/\A9 (rSets K H S H3) (setsUp (rows.take i)) xs)
  ⟨none,_,rfl,λb u _ e=>e,s2 _ _ eS,?_⟩ (λi σ H3 _ ⟨_,_,_,sm,_,_⟩=>SqL.of (sm _ _ lS el)) ?_ ?_
 ·exact .cons ⟨L0,[],rfl,hL0,neS0,s2 _ _ e0,.nil⟩ (.cons ⟨L1,[.ref T0],rfl,n1,neS1,s2 _ _ e1,Paired.one ⟨T0,rfl,s2 _ _ eT⟩⟩ .nil)
 ·rintro i x σ H3 hx ⟨o,xs,rfl,sm,eS3,pS⟩
  have il:i<rows.length:=by rw[lx];exact (AL.mp hx).1
  obtain ⟨r,hr',b,rfl,hb⟩:=Paired.get px hx;have hb3:=(tsX sm (s2 _ _ eS)).seq hb;have okt:=AEb ok i;have lt:(rows.take i).length=i:=by rw[BQ];lia
  obtain ⟨t1,lo1,lo2⟩:=ok i r hr';have kno:Knot (rows.take i) r.2.1:=by
   have:=lo1.1;show r.2.1<_;rw[lt];lia
  have kni:Knot (rows.take i) r.2.2:=by
   have:=lo2.1;show r.2.2<_;rw[lt];lia
  have IO:=FP _ _ rfl okt _ kno;have II:=FP _ _ rfl okt _ kni;have lO:=Xi IO;have lI:=Xi II;have p12:=pow12 n12;have lxs:=AQ pS;rw[DY,lt] at lxs;have at_:∀k,Knot (rows.take i) k->∃v,xs[k]?=some v/\rSets K H S H3 (setsOf (rows.take i) k) v:=λk hk=>by
   have kl:k<(setsUp (rows.take i)).length:=by rw[DY];exact hk
   obtain ⟨v,h1,h2⟩:=Paired.getL pS (AJ kl);refine ⟨v,h1,?_⟩;unfold setsOf;rw[AD,AJ kl];exact h2
  obtain ⟨_,hvo,Lo,yo,rfl,o0,oS,eo,po⟩:=at_ _ kno;obtain ⟨_,hvi,Li,yi,rfl,i0,iS,ei,pi_⟩:=at_ _ kni;have lyo:=AQ po;have lyi:=AQ pi_;refine ⟨_,rfl,.inl ⟨rfl,_,SqL.of eS3⟩,_,rfl,_,rfl,b,_,_,_,rfl,rfl,hb3,at1,S,_,_,_,rfl,rfl,SqL.of eS3,Bm hvo,?_⟩;refine ⟨_,rfl,_,rfl,b,_,_,_,rfl,rfl,hb3,at2,S,_,_,_,rfl,rfl,SqL.of eS3,Bm hvi,Li,rfl,⟨_,SqL.of ei⟩,λD hD=>?_⟩;refine Bl (K:=K) (a:=Li) (xs:=yi) (λj τ H4=>∃(o:Option V) (zs:List V),τ=[o,some (.ref b)]/\Same H3 H4/\H4 D=some (.lst zs)/\A9 (rTies K H4) (((setsOf (rows.take i) r.2.2).take j).map (r.1::·)) zs) ⟨none,[],rfl,Same.new hD _,Ab,.nil⟩ (λj τ H4 _ ⟨_,_,_,s3,_⟩=>s3.seq (SqL.of ei)) ?_ ?_
  ·rintro j y τ H4 hy ⟨o,zs,rfl,s4,eD,pz⟩
   obtain ⟨u,hu,ru⟩:=Paired.get pi_ hy;have jl:j<(setsOf (rows.take i) r.2.2).length:=(AL.mp hu).1;obtain ⟨w1,w2⟩:=II.way u (Bi hu);have ul:=ADy w1 λx hx=>(w2 x hx).2;obtain ⟨c,rfl,hc0⟩:=ru;have hc:SqT K H4 c ((up u).map V.int):=SqT.of (s4 _ _ hc0);have hb4:=s4.ts.seq hb3;have lz:=AQ pz;rw[AB,BQ] at lz;refine ⟨_,rfl,b,_,_,_,rfl,rfl,hb4,at0,(by show 1<=sizeLine;decide),λT1 hT1=>?_⟩;have s5:=Same.new hT1 (.tup [.int (r.1:Int)]);have hc5:=s5.ts.seq hc;have eT1:(upd H4 T1 (.tup [.int (r.1:Int)])) T1=some (.tup [.int (r.1:Int)]):=Ab;have fin:∀(c2:Addr) (H6:Hp),Same H4 H6->H6 c2=some (.tup ((up (r.1::u)).map V.int))->∃ys,H6 D=some (.lst ys)/\ys.length<sizeLine/\∃(o:Option V) (zs:List V),[some (V.ref c),some (V.ref b)]=[o,some (V.ref b)]/\Same H3 (upd H6 D (.lst (ys++[.ref c2])))/\(upd H6 D (.lst (ys++[.ref c2]))) D=some (.lst zs)/\A9 (rTies K (upd H6 D (.lst (ys++[.ref c2])))) (((setsOf (rows.take i) r.2.2).take (j+1)).map (r.1::·)) zs:=λc2 H6 s6 h6=>by
    have eD6:=s6 _ _ eD;have tl:=TSm.lst (o:=.lst (zs++[.ref c2])) eD6;refine ⟨zs,eD6,E7 (show zs.length<=4096 by lia) (by decide),_,_,rfl,λb' o' e'=>?_,Ab,?_⟩
    ·rw[Af (Ae e' hD)]
     exact s6 _ _ (s4 b' o' e')
    ·rw[take_snoc hu,BU]
     exact Paired.app (Fb tl (Fb s6.ts pz)) (Paired.one (show rTies K _ (r.1::u) (.ref c2) from⟨c2,rfl,tl _ _ h6 ⟨_,.inl rfl⟩⟩))
   refine ⟨_,rfl,T1,c,_,_,rfl,rfl,SqT.of eT1,hc5,BM (show _<=100000 by rw[AB];unfold up;rw[AB];show 1+_<=100000;lia) (by decide),λz=>(by cases z),λ_ z=>?_,λ_ z T2 hT2=>?_⟩
   ·have u0:u=[]:=by
     cases u with
     | nil=>rfl
     | cons a t=>cases z
    subst u0;exact fin T1 _ s5 eT1
   ·exact fin T2 _ (s5.trans (Same.new hT2 _)) Ab
  ·rintro τ H4 ⟨o,zs,rfl,s4,eD,pz⟩
   have lz:=AQ pz;rw[<- lyi,CF] at pz lz;rw[AB] at lz;refine ⟨Lo,D,_,_,rfl,rfl,SqL.of (s4 _ _ eo),SqL.of eD,BM (show _<=8192 by lia) (by decide),λN hN=>?_⟩;have s5:=Same.new hN (.lst (yo++zs));have s6:=s4.trans s5;have eS6:=s6 _ _ eS3;have neN:N≠S:=λe=>by
    rw[e,s4 _ _ eS3] at hN;cases hN
   have hN0:H N=none:=by
    rcases h:H N with _ | u
    ·rfl
    ·have h2:H2 N=some u:=s2 _ _ (s0 _ _ h)
     rw[s4 _ _ (sm _ _ neN h2)] at hN;cases hN
   refine ⟨S,xs,_,rfl,rfl,eS6,E7 (show xs.length<=100000 by lia) (by decide),?_⟩;have k7:∀b u,b≠S->upd H4 N (.lst (yo++zs)) b=some u->upd (upd H4 N (.lst (yo++zs))) S (.lst (xs++[.ref N])) b=some u:=λb u ne e=>by rw[Af ne];exact e
   refine ⟨_,_,rfl,λb u ne e=>k7 _ _ ne (s6 _ _ (sm b u ne e)),Ab,?_⟩;rw[take_snoc hr',Fq];unfold addRow;refine Paired.app (Paired.imp (λa v h=>Ph k7 eS6 (Ph (λb u _ e=>s6 b u e) eS3 h)) pS) (Paired.one ⟨N,_,rfl,hN0,neN,k7 _ _ neN Ab,?_⟩);have t7:=tsX k7 eS6;exact Fb t7 (Fb s5.ts (Paired.app (Fb s4.ts po) pz))
 ·rintro σ H3 ⟨o,xs,rfl,sm,eS3,pS⟩
  have tr:rows.take ys.length=rows:=by rw[<- lx,CF]
  rw[tr] at pS;have hV3:SvAt K C H3 p n rows hd:=by
   refine SvAt.same hV λb u e=>sm b u (Ae e hSn) (s2 _ _ (s0 b u e))
  have sH:Same H H3:=λb u e=>sm b u (Ae e hSn) (s2 _ _ (s0 b u e));refine ⟨_,rfl,_,rfl,p,dx,_,rfl,sH _ _ hp,DW _ _ _ (by decide +kernel) (by decide +kernel) (by decide +kernel),p,n,hd,rows,rfl,hV3,?_⟩;have kl:hd<(setsUp rows).length:=by rw[DY];exact kn
  obtain ⟨v,h1,L,zs,rfl,L0',LS,eL,pL⟩:=Paired.getL pS (AJ kl);refine ⟨S,_,_,_,rfl,rfl,SqL.of eS3,Bm h1,q L zs H3 sH L0' eL ?_⟩;unfold setsOf;rw[AD,AJ kl];exact pL
end
end K43s
end
section
namespace G
def restW(st:StO)(p:Nat):List Nat:=(AI st.length).filter λq=>decide (st.getD q none=st.getD p none/\q≠p)
def dropW(st:StO)(p:Nat):StO:=((AI st.length).map λq=>if q∈restW st p then some (((restW st p).headD 0:Nat):Int) else st.getD q none).set p none
def joinW(st:StO)(i j:Int):StO:=st.map λh=>if h=some i\/h=some j then some (min i j) else h
def takeW(st:StO)(a b:Nat):Option StO:=if st.getD a none=st.getD b none then none else match st.getD a none,st.getD b none with
 | some i,some j=>some (joinW st i j)
 | _,_=>none
def mergeL(lab:Nat->Int)(a b:Nat):Nat->Int:=λq=>if lab q=max (lab a) (lab b) then min (lab a) (lab b) else lab q
structure WdR(z:Nat)(U:Nat->Prop)(st:StO)(lab:Nat->Int):Prop where
 len:st.length=z
 hd:∀p,p<z->U p->∃h:Nat,st.getD p none=some (h:Int)/\h<z/\st.getD h none=some (h:Int)
 no:∀p,p<z->¬ U p->st.getD p none=none
 eq:∀p q,p<z->q<z->U p->U q->(st.getD p none=st.getD q none↔lab p=lab q)
theorem Ew{st:StO}{p q:Nat}:q∈restW st p↔q<st.length/\st.getD q none=st.getD p none/\q≠p:=by
 unfold restW;rw[BS,AS,decide_eq_true_iff]
theorem FN{z q:Nat}{f:Nat->Option Int}(h:q<z):((AI z).map f).getD q none=f q:=by
 rw[AD,A2,D8 h];rfl
theorem Ms(st:StO)(p:Nat):(dropW st p).length=st.length:=by
 unfold dropW;rw[OG,AB,BD]
theorem MJ{st:StO}{p q:Nat}(hq:q<st.length):(dropW st p).getD q none=if q=p then none else if q∈restW st p then some (((restW st p).headD 0:Nat):Int) else st.getD q none:=by
 unfold dropW;by_cases c:q=p
 ·subst c
  rw[Vb,if_pos (by rw[AB,BD];exact hq),if_pos rfl]
 ·rw[Zd _ _ _ _ c,FN hq,if_neg c]
theorem head_mem{l:List Nat}{x:Nat}(h:x∈l):l.headD 0∈l:=by
 cases l with
 | nil=>cases h
 | cons y l=>exact AC
theorem WdR.drop{z:Nat}{U:Nat->Prop}{st:StO}{lab:Nat->Int}{p:Nat}(W:WdR z U st lab)(pz:p<z)(up:U p):WdR z (λq=>U q/\q≠p) (dropW st p) lab:=by
 have L:=W.len;obtain ⟨hp,ep,hpz,ehp⟩:=W.hd p pz up;have inU:∀q,q<z->st.getD q none≠none->¬ ¬ U q:=λq qz h n=>h (W.no q qz n);have inR:∀q,q∈restW st p->(dropW st p).getD q none=some (((restW st p).headD 0:Nat):Int):=λq hq=>by
  obtain ⟨h1,_,h3⟩:=Ew.mp hq;rw[MJ h1,if_neg h3,if_pos hq]
 have outR:∀q,q<z->q≠p->q∉restW st p->(dropW st p).getD q none=st.getD q none:=λq qz qp hq=>by
  rw[MJ (by lia),if_neg qp,if_neg hq]
 have cls:∀q,q<z->q≠p->(q∈restW st p↔st.getD q none=st.getD p none):=λq qz qp=>by
  rw[Ew];exact ⟨λh=>h.2.1,λh=>⟨by lia,h,qp⟩⟩
 refine ⟨by rw[Ms];exact L,λq qz hq=>?_,λq qz hq=>?_,λq r qz rz hq hr=>?_⟩
 ·by_cases c:q∈restW st p
  ·have h0:=head_mem c
   obtain ⟨k1,k2,k3⟩:=Ew.mp h0;exact ⟨_,inR q c,by lia,inR _ h0⟩
  ·obtain ⟨h,e1,hz,e2⟩:=W.hd q qz hq.1
   have np:st.getD q none≠st.getD p none:=λe=>c ((cls q qz hq.2).mpr e);have hp':h≠p:=λe=>np (by rw[e1,<- e2,e]);have hr':h∉restW st p:=λm=>np (by rw[e1,<- e2];exact ((cls h hz hp').mp m));exact ⟨h,by rw[outR q qz hq.2 c,e1],hz,by rw[outR h hz hp' hr',e2]⟩
 ·by_cases c:q=p
  ·rw[MJ (by lia),if_pos c]
  ·have nu:¬ U q:=λu=>hq ⟨u,c⟩
   have e:=W.no q qz nu;have nr:q∉restW st p:=λm=>by
    have:=(cls q qz c).mp m;rw[e,ep] at this;cases this
   rw[outR q qz c nr,e]
 ·rw[<- W.eq q r qz rz hq.1 hr.1]
  by_cases c1:q∈restW st p<;>by_cases c2:r∈restW st p
  ·rw[inR q c1,inR r c2,(cls q qz hq.2).mp c1,(cls r rz hr.2).mp c2]
   exact ⟨λ_=>rfl,λ_=>rfl⟩
  ·have h0:=head_mem c1
   obtain ⟨k1,k2,k3⟩:=Ew.mp h0;rw[inR q c1,outR r rz hr.2 c2,(cls q qz hq.2).mp c1];obtain ⟨h,e1,hz,e2⟩:=W.hd r rz hr.1;constructor
   ·intro e
    rw[e1] at e;have:(restW st p).headD 0=h:=by injection e with e;lia
    rw[e1,<- e2,<- this,k2]
   ·intro e
    exact absurd ((cls r rz hr.2).mpr e.symm) c2
  ·have h0:=head_mem c2
   obtain ⟨k1,k2,k3⟩:=Ew.mp h0;rw[inR r c2,outR q qz hq.2 c1,(cls r rz hr.2).mp c2];obtain ⟨h,e1,hz,e2⟩:=W.hd q qz hq.1;constructor
   ·intro e
    rw[e1] at e;have:h=(restW st p).headD 0:=by injection e with e;lia
    rw[e1,<- e2,this,k2]
   ·intro e
    exact absurd ((cls q qz hq.2).mpr e) c1
  ·rw[outR q qz hq.2 c1,outR r rz hr.2 c2]
theorem Eh(st:StO)(i j:Int)(q:Nat):(joinW st i j).getD q none=if st.getD q none=some i\/st.getD q none=some j then some (min i j) else st.getD q none:=by
 unfold joinW;rw[AD,A2,AD];cases e:st[q]? with
 | none =>
  show none=_;rw[show (none:Option (Option Int)).getD none=none from rfl,if_neg (by rintro (h | h)<;>cases h)]
 | some h=>rfl
theorem Hw{lab:Nat->Int}{a b p:Nat}(h:lab p=lab a\/lab p=lab b):mergeL lab a b p=min (lab a) (lab b):=by
 unfold mergeL;split<;>lia
theorem Gm{lab:Nat->Int}{a b p:Nat}(h:¬ (lab p=lab a\/lab p=lab b)):mergeL lab a b p=lab p:=by
 unfold mergeL;rw[if_neg (by lia)]
theorem JL{lab:Nat->Int}{a b p q:Nat}:mergeL lab a b p=mergeL lab a b q↔lab p=lab q\/((lab p=lab a\/lab p=lab b)/\(lab q=lab a\/lab q=lab b)):=by
 constructor
 ·intro e
  by_cases c1:lab p=lab a\/lab p=lab b<;>by_cases c2:lab q=lab a\/lab q=lab b
  ·exact .inr ⟨c1,c2⟩
  ·rw[Hw c1,Gm c2] at e
   lia
  ·rw[Gm c1,Hw c2] at e
   lia
  ·rw[Gm c1,Gm c2] at e
   exact .inl e
 ·rintro (e | ⟨c1,c2⟩)
  ·unfold mergeL
   rw[e]
  ·rw[Hw c1,Hw c2]
theorem WdR.join{z:Nat}{U:Nat->Prop}{st:StO}{lab:Nat->Int}{a b:Nat}(W:WdR z U st lab)(az:a<z)(bz:b<z)(ua:U a)(ub:U b)(ne:lab a≠lab b) :
  ∃st',takeW st a b=some st'/\WdR z U st' (mergeL lab a b):=by
 obtain ⟨i,ea,iz,ei⟩:=W.hd a az ua;obtain ⟨j,eb,jz,ej⟩:=W.hd b bz ub;have nab:st.getD a none≠st.getD b none:=λe=>ne ((W.eq a b az bz ua ub).mp e);refine ⟨joinW st i j,?_,?_⟩
 ·unfold takeW
  rw[if_neg nab,ea,eb]
 have inI:∀q,q<z->U q->((st.getD q none=some (i:Int)\/st.getD q none=some (j:Int))↔(lab q=lab a\/lab q=lab b)):=λq qz uq=>by
  rw[<- ea,<- eb,W.eq q a qz az uq ua,W.eq q b qz bz uq ub]
 have mij:min (i:Int) j=(i:Int)\/min (i:Int) j=(j:Int):=by lia
 refine ⟨by unfold joinW;rw[AB];exact W.len,λq qz uq=>?_,λq qz nq=>?_,λq r qz rz uq ur=>?_⟩
 ·rw[Eh]
  by_cases c:st.getD q none=some (i:Int)\/st.getD q none=some (j:Int)
  ·rw[if_pos c]
   rcases mij with m | m
   ·exact ⟨i,by rw[m],iz,by rw[Eh,ei,if_pos (.inl rfl),m]⟩
   ·exact ⟨j,by rw[m],jz,by rw[Eh,ej,if_pos (.inr rfl),m]⟩
  ·rw[if_neg c]
   obtain ⟨h,e1,hz,e2⟩:=W.hd q qz uq;exact ⟨h,e1,hz,by rw[Eh,e2,<- e1,if_neg c]⟩
 ·rw[Eh,W.no q qz nq,if_neg (by rintro (h | h)<;>cases h)]
 ·rw[Eh,Eh]
  have Eq:=W.eq q r qz rz uq ur;have Iq:=inI q qz uq;have Ir:=inI r rz ur;rw[JL];have nin:∀x,x<z->U x->¬ (st.getD x none=some (i:Int)\/st.getD x none=some (j:Int))->some (min (i:Int) j)≠st.getD x none:=λx xz ux n e=>n (by rcases mij with m | m<;>rw[m] at e<;>rw[<- e]<;>simp);by_cases c1:st.getD q none=some (i:Int)\/st.getD q none=some (j:Int)<;>by_cases c2:st.getD r none=some (i:Int)\/st.getD r none=some (j:Int)
  ·rw[if_pos c1,if_pos c2]
   exact ⟨λ_=>.inr ⟨Iq.mp c1,Ir.mp c2⟩,λ_=>rfl⟩
  ·rw[if_pos c1,if_neg c2]
   exact ⟨λe=>absurd e (nin r rz ur c2),λh=>absurd (Ir.mpr (h.elim (λh=>h ▸ Iq.mp c1) (·.2))) c2⟩
  ·rw[if_neg c1,if_pos c2]
   exact ⟨λe=>absurd e.symm (nin q qz uq c1),λh=>absurd (Iq.mpr (h.elim (λh=>h ▸ Ir.mp c2) (·.1))) c1⟩
  ·rw[if_neg c1,if_neg c2,Eq]
   exact ⟨.inl,λh=>h.elim id λh=>absurd (Iq.mpr h.1) c1⟩
theorem WdR.ring{z:Nat}{U:Nat->Prop}{st:StO}{lab:Nat->Int}{a b:Nat}(W:WdR z U st lab)(az:a<z)(bz:b<z)(ua:U a)(ub:U b)(e:lab a=lab b):takeW st a b=none:=by
 unfold takeW;rw[if_pos ((W.eq a b az bz ua ub).mpr e)]
def acyc(ea eb:Nat->Nat):(Nat->Int)->List Nat->Bool
 | _,[]=>true
 | lab,x::xs=>!decide (lab (ea x)=lab (eb x))&&acyc ea eb (mergeL lab (ea x) (eb x)) xs
def passW:StO->List Nat->StO
 | st,[]=>st
 | st,p::ps=>passW (dropW st p) ps
theorem WdR.congr{z:Nat}{U U':Nat->Prop}{st:StO}{lab:Nat->Int}(W:WdR z U st lab)(h:∀p,p<z->(U p↔U' p)):WdR z U' st lab :=
 ⟨W.len,λp pz u=>W.hd p pz ((h p pz).mpr u),λp pz u=>W.no p pz λv=>u ((h p pz).mp v),λp q pz qz u v=>W.eq p q pz qz ((h p pz).mpr u) ((h q qz).mpr v)⟩
theorem WdR.pass{z:Nat}{lab:Nat->Int}:∀(ps:List Nat) {U:Nat->Prop}{st:StO},WdR z U st lab->ps.Nodup->(∀p∈ps,p<z/\U p)->WdR z (λq=>U q/\q∉ps) (passW st ps) lab
 | [],U,st,W,_,_=>W.congr λp _=>⟨λh=>⟨h,by simp⟩,λh=>h.1⟩
 | p::ps,U,st,W,nd,h=>by
  obtain ⟨n1,n2⟩:=CU.mp nd;obtain ⟨pz,up⟩:=h p AC;have:=WdR.pass ps (W.drop pz up) n2 λq hq=>⟨(h q (AG _ hq)).1,(h q (AG _ hq)).2,λe=>n1 (e ▸ hq)⟩;refine this.congr λq qz=>?_;rw[Be,not_or];exact ⟨λ⟨⟨a,b⟩,c⟩=>⟨a,b,c⟩,λ⟨a,b,c⟩=>⟨⟨a,b⟩,c⟩⟩
theorem Ng(z:Nat)(L:Nat->Nat):WdR z (λp=>0<=L p) ((AI z).map λp=>some ((p:Nat):Int)) (λp=>(p:Int)):=by
 refine ⟨by rw[AB,BD],λp pz _=>⟨p,FN pz,pz,FN pz⟩,λp pz h=>absurd (A8 _) h,λp q pz qz _ _=>?_⟩;rw[FN pz,FN qz];exact ⟨λe=>by injection e,λe=>by rw[e]⟩
def Dst(z:Nat)(lab:Nat->Int)(k:Nat):Prop:=∃us:List Int,us.Nodup/\(∀x,x∈us↔∃p,p<z/\lab p=x)/\us.length=k
def finL(ea eb:Nat->Nat):(Nat->Int)->List Nat->Nat->Int
 | lab,[]=>lab
 | lab,x::xs=>finL ea eb (mergeL lab (ea x) (eb x)) xs
theorem Lq{lab:Nat->Int}{a b:Nat}(e:lab a=lab b):mergeL lab a b=lab:=by
 funext q
 unfold mergeL;split<;>lia
theorem Dst.one{z:Nat}{lab:Nat->Int}{k:Nat}{a b:Nat}(D:Dst z lab k)(az:a<z)(bz:b<z)(ne:lab a≠lab b):1<=k/\Dst z (mergeL lab a b) (k-1):=by
 obtain ⟨us,nd,mem,len⟩:=D;have hm:max (lab a) (lab b)∈us:=(mem _).mpr (by
  rcases (show max (lab a) (lab b)=lab a\/max (lab a) (lab b)=lab b by lia) with e | e
  ·exact ⟨a,az,e.symm⟩
  ·exact ⟨b,bz,e.symm⟩)
 have lo:∃p,p<z/\lab p=min (lab a) (lab b):=by
  rcases (show min (lab a) (lab b)=lab a\/min (lab a) (lab b)=lab b by lia) with e | e
  ·exact ⟨a,az,e.symm⟩
  ·exact ⟨b,bz,e.symm⟩
 have pos:=EU hm;refine ⟨by lia,us.erase (max (lab a) (lab b)),nd.erase _,λx=>?_,by rw[E9 hm,len]⟩;rw[nd.mem_erase_iff,mem];unfold mergeL;constructor
 ·rintro⟨n,p,pz,e⟩
  exact ⟨p,pz,by rw[if_neg (by lia)];exact e⟩
 ·rintro⟨p,pz,e⟩
  split at e
  ·obtain ⟨q,qz,eq⟩:=lo
   exact ⟨by lia,q,qz,by lia⟩
  ·exact ⟨by lia,p,pz,e⟩
theorem Dst.same{z:Nat}{lab:Nat->Int}{k k':Nat}(h:Dst z lab k)(h':Dst z lab k'):k=k':=by
 obtain ⟨us,nd,mem,len⟩:=h;obtain ⟨us',nd',mem',len'⟩:=h';have a:=nd.length_le_of_subset (l₂:=us') λx hx=>(mem' x).mpr ((mem x).mp hx);have b:=nd'.length_le_of_subset (l₂:=us) λx hx=>(mem x).mpr ((mem' x).mp hx);lia
theorem Nf(z:Nat):Dst z (λp=>(p:Int)) z:=by
 refine ⟨(AI z).map λp=>((p:Nat):Int),?_,λx=>?_,by rw[AB,BD]⟩
 ·refine Y0 _ (λa b h=>?_) D5
  lia
 ·rw[AY]
  exact ⟨λ⟨p,h,e⟩=>⟨p,AS.mp h,e⟩,λ⟨p,h,e⟩=>⟨p,AS.mpr h,e⟩⟩
theorem Fe{z:Nat}{ea eb:Nat->Nat}:∀(s:List Nat) (lab:Nat->Int) (k:Nat),Dst z lab k->(∀x∈s,ea x<z/\eb x<z)->∃k',Dst z (finL ea eb lab s) k'/\k'<=k/\k<=k'+s.length/\(acyc ea eb lab s=true↔k=k'+s.length)
 | [],lab,k,D,_=>⟨k,D,AE _,AE _,⟨λ_=>rfl,λ_=>rfl⟩⟩
 | x::xs,lab,k,D,h=>by
  obtain ⟨az,bz⟩:=h x AC;have h':=λy hy=>h y (AG _ hy);by_cases c:lab (ea x)=lab (eb x)
  ·obtain ⟨k',d,l1,l2,i⟩:=Fe xs lab k D h'
   refine ⟨k',by show Dst z (finL ea eb (mergeL lab (ea x) (eb x)) xs) k';rw[Lq c];exact d,l1,by rw[CM];lia,?_⟩;show (!decide (lab (ea x)=lab (eb x))&&_)=true↔_;rw[decide_eq_true c,CM];exact ⟨λh0=>(by cases h0),λh0=>(by lia)⟩
  ·obtain ⟨k1,D1⟩:=D.one az bz c
   obtain ⟨k',d,l1,l2,i⟩:=Fe xs _ _ D1 h';refine ⟨k',d,by lia,by rw[CM];lia,?_⟩;show (!decide (lab (ea x)=lab (eb x))&&_)=true↔_;rw[decide_eq_false c,CM];show (acyc ea eb (mergeL lab (ea x) (eb x)) xs)=true↔_;rw[i];lia
end G
end
section
namespace K43
open PySem L2 G
structure Gro(K:As)(mg:Str->Option Au)(Gc:Addr):Prop where
 cl:Cls K Gc
 mgG:mg "Growth" = some (.ref Gc)
 nW:NoAttr K Gc "web"
 nU:NoAttr K Gc "rule"
 nA:NoAttr K Gc "amount"
 nB:NoAttr K Gc "behind"
 nR:NoAttr K Gc "rows"
 nK:NoAttr K Gc "known"
def gf(W r:Addr)(n:Int)(Bh R D:Addr):List (Str×V):=putF "known" (.ref D) (putF "rows" (.ref R) (putF "behind" (.ref Bh) (putF "amount" (.int n) (putF "rule" (.ref r) (putF "web" (.ref W) [])))))
section
variable (W r Bh R D:Addr)(n:Int)
theorem Jy:(gf W r n Bh R D).lookup ("known" : Str)=some (.ref D):=by unfold gf;rw[Aj,if_pos rfl]
theorem Px:(gf W r n Bh R D).lookup ("rows" : Str)=some (.ref R):=by unfold gf;rw[Aj,if_neg (by decide +kernel),Aj,if_pos rfl]
theorem Yi:(gf W r n Bh R D).lookup ("behind" : Str)=some (.ref Bh):=by unfold gf;rw[Aj,if_neg (by decide +kernel),Aj,if_neg (by decide +kernel),Aj,if_pos rfl]
theorem NT:(gf W r n Bh R D).lookup ("amount" : Str)=some (.int n):=by unfold gf;rw[Aj,if_neg (by decide +kernel),Aj,if_neg (by decide +kernel),Aj,if_neg (by decide +kernel),Aj,if_pos rfl]
theorem Ju:(gf W r n Bh R D).lookup ("rule" : Str)=some (.ref r):=by unfold gf;rw[Aj,if_neg (by decide +kernel),Aj,if_neg (by decide +kernel),Aj,if_neg (by decide +kernel),Aj,if_neg (by decide +kernel),Aj,if_pos rfl]
theorem QS:(gf W r n Bh R D).lookup ("web" : Str)=some (.ref W):=by unfold gf;rw[Aj,if_neg (by decide +kernel),Aj,if_neg (by decide +kernel),Aj,if_neg (by decide +kernel),Aj,if_neg (by decide +kernel),Aj,if_neg (by decide +kernel),Aj,if_pos rfl]
theorem XS{m:Str}(h1:¬ m = "known")(h2:¬ m = "rows")(h3:¬ m = "behind")(h4:¬ m = "amount")(h5:¬ m = "rule")(h6:¬ m = "web"):(gf W r n Bh R D).lookup m=none:=by
 unfold gf;rw[Aj,if_neg h1,Aj,if_neg h2,Aj,if_neg h3,Aj,if_neg h4,Aj,if_neg h5,Aj,if_neg h6]
 all_goals rfl
end
structure Wr where
 ps:StO->Nat->Option StO
 tk:StO->Nat->Nat->Option StO
 fu:StO->Bool
 pre:StO->Nat->Nat->Prop
 vld:Nat->StO->Prop
def passU(u:Wr):StO->List Nat->Option StO
 | st,[]=>some st
 | st,p::ps=>(u.ps st p).bind λs=>passU u s ps
theorem PJ(u:Wr):∀(ps qs:List Nat) (st:StO),passU u st (ps++qs)=(passU u st ps).bind λs=>passU u s qs
 | [],qs,st=>rfl
 | p::ps,qs,st=>by
  show (u.ps st p).bind _=((u.ps st p).bind _).bind _;cases u.ps st p with
  | none=>rfl
  | some s=>exact PJ u ps qs s
structure Gr(K:As)(C Dc Gc:Addr)(g W r Bh R D:Addr)(z:Nat)(bs:List (List Int))(H:Hp):Prop where
 ins:∃dx,H g=some (.ins Gc dx (gf W r bs.length Bh R D))
 web:WebAt K C H W z bs
 rul:∃dx,H r=some (.ins Dc dx [])
 beh:∃ys,H Bh=some (.lst ys)/\Bh≠R/\A9 (λt v=>∃l,v=.ref l/\l≠R/\H l=some (.lst (nI (behP bs z t)))) (AI (bs.length+1)) ys
section
variable{K:As}{C Dc Gc g W r Bh R D:Addr}{z:Nat}{bs:List (List Int)}{H H':Hp}{xs:List V}{φ:Heap->Prop}
theorem tsRD(e:∀b o,b≠R->b≠D->H b=some o->H' b=some o)(hR:H R=some (.lst xs))(hD:H D=some (.ext φ)):TSm H H':=λb u hb t=>by
 have ne:∀{x:Addr}{o:HO},H x=some o->(∀ys,o≠.tup ys)->(∀q ys,o≠.frz q (.tup ys))->b≠x:=λ{x o} hx h1 h2 zz=>by
  rw[zz,hx] at hb;cases hb;obtain ⟨ys,e | ⟨q,e⟩⟩:=t
  ·exact h1 ys e
  ·exact h2 q ys e
 exact e b u (ne hR (by intro _ z;cases z) (by intro _ _ z;cases z)) (ne hD (by intro _ z;cases z) (by intro _ _ z;cases z)) hb
theorem Gr.keep(h:Gr K C Dc Gc g W r Bh R D z bs H)(e:∀b o,b≠R->b≠D->H b=some o->H' b=some o)(hR:H R=some (.lst xs))(hD:H D=some (.ext φ)):Gr K C Dc Gc g W r Bh R D z bs H':=by
 have ts:=tsRD e hR hD;have ni:∀{x c dx:Addr}{fs:List (Str×V)},H x=some (.ins c dx fs)->H' x=some (.ins c dx fs):=λ{x c dx fs} hx=>e _ _ (Cq hx hR (by intro z;cases z)) (Cq hx hD (by intro z;cases z)) hx;have nl:∀{x:Addr}{l:List V},x≠R->H x=some (.lst l)->H' x=some (.lst l):=λ{x l} hn hx=>e _ _ hn (Cq hx hD (by intro z;cases z)) hx;obtain ⟨d1,i1⟩:=h.ins;obtain ⟨d2,j,i2,i3⟩:=h.web;obtain ⟨d3,i4⟩:=h.rul;obtain ⟨ys,b1,b2,b3⟩:=h.beh;exact ⟨⟨d1,ni i1⟩,⟨d2,j,ni i2,Ak (Ak Am) _ _ _ _ ts i3⟩,⟨d3,ni i4⟩,⟨ys,nl b2 b1,b2,Paired.imp (λt v ⟨l,c1,c2,c3⟩=>⟨l,c1,c2,nl c2 c3⟩) b3⟩⟩
theorem Gr.same(h:Gr K C Dc Gc g W r Bh R D z bs H)(e:Same H H'):Gr K C Dc Gc g W r Bh R D z bs H':=by
 obtain ⟨d1,i1⟩:=h.ins;obtain ⟨d3,i4⟩:=h.rul;obtain ⟨ys,b1,b2,b3⟩:=h.beh;exact ⟨⟨d1,e _ _ i1⟩,h.web.same e,⟨d3,e _ _ i4⟩,⟨ys,e _ _ b1,b2,Paired.imp (λt v ⟨l,c1,c2,c3⟩=>⟨l,c1,c2,e _ _ c3⟩) b3⟩⟩
end
def StAt(K:As)(H:Hp)(b:Addr)(st:StO):Prop:=SqT K H b (st.map oV)
def RS(u:Wr)(K:As)(z:Nat)(H:Hp)(v:V):Option StO->Prop
 | none=>v=.non
 | some st=>∃b,v=.ref b/\StAt K H b st/\u.vld z st
def Tc(u:Wr)(K:As)(D:Addr):Sp:=λvs H Q _=>∃(p:V) (b dx a:Addr) (q z:Nat) (st:StO),vs=[.ref a,p,.ref b,.int q]/\H a=some (.ins D dx [])/\StAt K H b st/\u.vld z st/\q<z/\z<=10 /\
 ∀(v':V) (H':Hp),Same H H'->RS u K z H' v' (u.ps st q)->Q v' H'
def Vm(u:Wr)(K:As)(C Dc Gc:Addr):Sp:=λvs H Q _=>∃(g W r Bh R D:Addr) (z t:Nat) (bs:List (List Int)) (v:V) (o:Option StO),vs=[.ref g,.int t,v]/\Gr K C Dc Gc g W r Bh R D z bs H/\z<=10/\t<=bs.length/\RS u K z H v o /\
 ∀(v':V) (H':Hp),Same H H'->RS u K z H' v' (o.bind λr=>passU u r (behP bs z t))->Q v' H'
section
variable{u:Wr}{P:AK}{w:AR}{K:As}{mg:Str->Option Au}{base:Heap}{f C D Gc:Addr}{fd:BV}
theorem Qj:FnScope ["self","number","reached","state","point"] ["self","number","reached"] (Ag ACo):=⟨rfl,rfl,rfl,by decide +kernel,rfl,by decide +kernel,by decide +kernel⟩
theorem ADL{fP:Addr}{fdP:BV}(F:Fun K "past_points" "Growth.past_points" ACo f fd)(cD:Cls K D)(O:Gro K mg Gc)(GP:FnOk P w K mg base CX0 3 fP fdP ["self","web","state","point"] (Tc u K D))(bP:Binds K fdP ["self","web","state","point"] [])(mP:Meth K D "passed" fP) :
  FnOk P w K mg base CX0 4 f fd ["self","number","reached"] (Vm u K C D Gc):=by
 refine F.ok Qj (λvs H Q E h=>?_) (λcdv A outer s H vs Q E hr h=>?_)
 ·obtain ⟨g,W,r,Bh,R,Dk,z,t,bs,v,o,rfl,_⟩:=h
  rfl
 obtain ⟨g,W,r,Bh,R,Dk,z,t,bs,v,o,rfl,gr,z10,tb,rs,q⟩:=h;refine ⟨_,Ad (Av (i:=3) Qj.nd rfl (BC rfl) (pv 2))
  (Ad (Cw Db rfl (Bv (BK Bk (Bp (pv 0) rfl) (pv 1) (λ_ _=>rfl))) (Aq (i:=4) Qj.nd rfl (BC rfl))
   (Ai (Bx (Iw (Xc (pv 3))) (Ai (Av (i:=3) Qj.nd rfl (BC rfl) (Dj (Bp (pv 0) rfl) cD mP GP hr bP .nil pass0 (Aa (Bp (pv 0) rfl) (Aa (pv 3) (Aa (pv 4) Ac)))))) BW)))
  (Ai (Ax (pv 3)))),?_⟩
 obtain ⟨dg,hg⟩:=gr.ins;obtain ⟨dr,hr0⟩:=gr.rul;obtain ⟨ys,hB,_,pB⟩:=gr.beh;have lB:=AQ pB;rw[BD] at lB;have tl:t<ys.length:=by lia
 obtain ⟨t',ht',l,el,_,hl⟩:=Paired.get pB (AJ tl);have et:t'=t:=by
  have:=(AL.mp ht').2;rw[List.getElem_range] at this;exact this.symm
 subst et;have hat:atI ys (t':Int)=some (.ref l):=by
  rw[<- el];exact Bm (AJ tl)
 refine ⟨_,rfl,?_⟩;refine ⟨_,rfl,g,Gc,dg,_,_,rfl,hg,O.cl,O.nB,Yi _ _ _ _ _ _,_,rfl,Bh,ys,_,_,rfl,rfl,SqL.of hB,hat,l,rfl,⟨_,SqL.of hl⟩,?_⟩;refine Ec (K:=K) (a:=l) (xs:=nI (behP bs z t')) (λi σ H2=>∃(v':V) (o4:Option V),σ=[some (.ref g),some (.int t'),some v,some v',o4]/\Same H H2/\RS u K z H2 v' (o.bind λr=>passU u r ((behP bs z t').take i)))
  ⟨v,none,rfl,Same.refl _,by
   have e:(o.bind λr=>passU u r ((behP bs z t').take 0))=o:=by cases o<;>rfl
   rw[e];exact rs⟩ (λi σ H2 _ ⟨_,_,_,s2,_⟩=>s2.seq (SqL.of hl)) ?_ ?_
 ·rintro i x σ H2 hx ⟨v',o4,rfl,s2,rs2⟩
  obtain ⟨pt,hp,rfl⟩:=AAd hx;have pz:pt<z:=AS.mp (BS.mp (Bi hp)).1;have step:(o.bind λr=>passU u r ((behP bs z t').take (i+1)))=(o.bind λr=>passU u r ((behP bs z t').take i)).bind λs=>u.ps s pt:=by
   cases o with
   | none=>rfl
   | some r =>
    show passU u r _=(passU u r _).bind _;rw[DM,hp];show passU u r (_++[pt])=_;rw[PJ u]
    congr 1
    funext s
    show (u.ps s pt).bind (λs=>some s)=_;cases u.ps s pt<;>rfl
  cases e:(o.bind λr=>passU u r ((behP bs z t').take i)) with
  | none =>
   rw[e] at rs2 step;cases rs2;refine ⟨_,rfl,_,rfl,iteF ⟨.non,_,rfl,s2,?_⟩⟩;rw[step];exact rfl
  | some st =>
   rw[e] at rs2 step;obtain ⟨b,rfl,hb,sl⟩:=rs2;refine ⟨_,rfl,_,rfl,iteT ?_⟩;refine ⟨_,rfl,g,Gc,dg,_,_,rfl,s2 _ _ hg,O.cl,O.nU,Ju _ _ _ _ _ _,r,dr,_,rfl,s2 _ _ hr0,rfl,_,rfl,g,Gc,dg,_,_,rfl,s2 _ _ hg,O.cl,O.nW,QS _ _ _ _ _ _,_,rfl,_,rfl,.ref W,b,dr,r,pt,z,st,rfl,s2 _ _ hr0,hb,sl,pz,z10,λv3 H3 s3 rs3=>?_⟩;refine ⟨_,_,rfl,s2.trans s3,?_⟩;rw[step];exact rs3
 ·rintro σ H2 ⟨v',o4,rfl,s2,rs2⟩
  rw[Du,CF] at rs2;exact ⟨_,rfl,q v' H2 s2 rs2⟩
end
def ea(bs:List (List Int))(t:Nat):Nat:=((bs.getD t []).getD 0 0).toNat
def eb(bs:List (List Int))(t:Nat):Nat:=((bs.getD t []).getD 1 0).toNat
def OkB(z:Nat)(bs:List (List Int)):Prop:=∀t∈bs,∃x y:Nat,t=[(x:Int),(y:Int)]/\x<z/\y<z
def lefU(_:Nat)(st:StO):Option StO:=some st
def takU(u:Wr)(bs:List (List Int))(t:Nat)(st:StO):Option StO:=u.tk st (ea bs t) (eb bs t)
abbrev semC(u:Wr)(bs:List (List Int))(z d t:Nat):Option StO->List Nat->Bool:=semO lefU (takU u bs) (λt r=>passU u r (behP bs z t)) u.fu d t
def Good(u:Wr)(bs:List (List Int))(z:Nat)(G:Nat->Option StO->Prop):Prop:=∀(t:Nat) (o:Option StO) (st:StO),t<bs.length->G t o->(o.bind λr=>passU u r (behP bs z t))=some st->u.pre st (ea bs t) (eb bs t)/\G (t+1) (some st)/\G (t+1) (takU u bs t st)
abbrev keyC(t:Nat)(st:StO):OKey:=(some (t:Int),st)
theorem Ui{t t':Nat}{st st':StO}(h:keyC t st=keyC t' st'):t=t'/\st=st':=by
 injection h with h1 h2
 injection h1 with h1
 exact ⟨by lia,h2⟩
def Known(u:Wr)(bs:List (List Int))(z:Nat)(rows:List Row)(kvs:List (OKey×V)):Prop:=∀(t:Nat) (st:StO) (v:V),valV kvs (keyC t st)=some v->∃k:Nat,v=.int k/\t<bs.length/\Lead rows t k (stepO lefU (takU u bs) t (semC u bs z (bs.length-1-t) (t+1)) st)
theorem Known.app{u:Wr}{bs:List (List Int)}{z:Nat}{rows more:List Row}{kvs:List (OKey×V)}(o:Ok bs.length rows)(h:Known u bs z rows kvs):Known u bs z (rows++more) kvs:=λt st v hv=>let ⟨k,e,tl,ld⟩:=h t st v hv;⟨k,e,tl,ld.app o⟩
theorem Va{K:As}{H:Hp}{x b:Addr}{t:Nat}{st:StO}(hx:H x=some (.tup [.int (t:Int),.ref b]))(hb:StAt K H b st):OAt K H (keyC t st) x:=⟨b,hx,hb⟩
structure Rw(u:Wr)(P:AK)(w:AR)(K:As)(R D:Addr)(bs:List (List Int))(z:Nat)(H:Hp)(rows:List Row)(kvs:List (OKey×V)):Prop where
 at_:∃xs,H R=some (.lst xs)/\A9 (K43s.rRow K H) rows xs
 dn:DO K P w H D kvs
 ok:Ok bs.length rows
 kn:Known u bs z rows kvs
 len:kvs.length<=rows.length
def Old(t:Nat)(kvs kvs':List (OKey×V)):Prop:=∀(t':Nat) (st:StO),t'<t->valV kvs' (keyC t' st)=valV kvs (keyC t' st)
theorem ABe{u:Wr}{bs:List (List Int)}{z d t:Nat}{o:Option StO}(h:(o.bind λr=>passU u r (behP bs z t))=none)(s:List Nat):semC u bs z d t o s=false:=by
 cases o with
 | none=>cases d<;>rfl
 | some r =>
  have h':passU u r (behP bs z t)=none:=h;cases d with
  | zero=>show (match passU u r (behP bs z t) with | none=>false | some st=>_)=false;rw[h']
  | succ d=>show (match passU u r (behP bs z t) with | none=>false | some st=>_)=false;rw[h']
theorem XM{u:Wr}{bs:List (List Int)}{z t:Nat}{o:Option StO}{st:StO}(h:(o.bind λr=>passU u r (behP bs z t))=some st)(s:List Nat):semC u bs z 0 t o s=(u.fu st&&decide (s=[])):=by
 cases o with
 | none=>cases h
 | some r =>
  have h':passU u r (behP bs z t)=some st:=h;show (match passU u r (behP bs z t) with | none=>false | some st=>u.fu st&&decide (s=[]))=_;rw[h']
theorem AAr{u:Wr}{bs:List (List Int)}{z d t:Nat}{o:Option StO}{st:StO}(h:(o.bind λr=>passU u r (behP bs z t))=some st):semC u bs z (d+1) t o=stepO lefU (takU u bs) t (semC u bs z d (t+1)) st:=by
 funext s
 cases o with
 | none=>cases h
 | some r =>
  have h':passU u r (behP bs z t)=some st:=h;show (match passU u r (behP bs z t) with | none=>false | some st=>stepO lefU (takU u bs) t (semC u bs z d (t+1)) st s)=_;rw[h']
def WK:Sp:=λvs H Q _=>∃(r p b x:V),vs=[r,p,b,x]/\Q b H
def SM(u:Wr)(K:As):Sp:=λvs H Q _=>∃(r p:V) (b:Addr) (st:StO),vs=[r,p,.ref b]/\StAt K H b st/\Q (.bl (u.fu st)) H
def Ib(u:Wr)(K:As)(C D:Addr):Sp:=λvs H Q _=>∃(a p b dx:Addr) (t z:Nat) (bs:List (List Int)) (st:StO),vs=[.ref a,.ref p,.ref b,.int t]/\H a=some (.ins D dx [])/\WebAt K C H p z bs/\OkB z bs/\StAt K H b st/\u.vld z st/\u.pre st (ea bs t) (eb bs t)/\t<bs.length/\z<=10 /\
 ∀(v':V) (H':Hp),Same H H'->RS u K z H' v' (takU u bs t st)->Q v' H'
def Kf(u:Wr)(P:AK)(w:AR)(K:As)(C Dc Gc:Addr)(d:Nat):Sp:=λvs H Q _=>∃(g W r Bh R D:Addr) (z t:Nat) (bs:List (List Int)) (v:V) (o:Option StO) (rows:List Row) (kvs:List (OKey×V)) (G:Nat->Option StO->Prop),vs=[.ref g,.int t,v]/\t+d=bs.length/\Gr K C Dc Gc g W r Bh R D z bs H/\1<=z/\z<=10/\bs.length<=12/\OkB z bs/\Good u bs z G/\G t o/\RS u K z H v o/\Rw u P w K R D bs z H rows kvs/\rows.length+2 ^ d<=4100 /\
 ∀(k:Nat) (more:List Row) (kvs':List (OKey×V)) (H':Hp),(∀b o,b≠R->b≠D->H b=some o->H' b=some o)->Rw u P w K R D bs z H' (rows++more) kvs'->Lead (rows++more) t k (semC u bs z d t o)->Old t kvs kvs'->Cnt t more->more.length+1<=2 ^ d->Q (.int k) H'
section
variable{u:Wr}{P:AK}{w:AR}{K:As}{R D:Addr}{bs:List (List Int)}{z:Nat}{H H':Hp}{rows:List Row}{kvs:List (OKey×V)}
theorem Rw.same(h:Rw u P w K R D bs z H rows kvs)(e:Same H H'):Rw u P w K R D bs z H' rows kvs:=by
 obtain ⟨xs,h1,h2⟩:=h.at_;exact ⟨⟨xs,e _ _ h1,Paired.imp (λ_ _ r=>K43s.Bd _ _ _ _ e.ts r) h2⟩,h.dn.keep (λo=>e _ o) e.ts,h.ok,h.kn,h.len⟩
end
section
variable{u:Wr}{P:AK}{w:AR}{K:As}{mg:Str->Option Au}{base:Heap}{f C D Gc:Addr}{fd:BV}
theorem Gb:FnScope ["self","number","reached","state","without","having"] ["self","number","reached"] (Ag Jj):=⟨rfl,rfl,rfl,by decide +kernel,rfl,by decide +kernel,by decide +kernel⟩
theorem LK(d:Nat){fP fL fT fU:Addr}{fdP fdL fdT fdU:BV}(F:Fun K "knot_at" "Growth.knot_at" Jj f fd)(T:Txt K mg C)(cD:Cls K D)(O:Gro K mg Gc)
  (GP:FnOk P w K mg base CX0 4 fP fdP ["self","number","reached"] (Vm u K C D Gc)) (bP:Binds K fdP ["self","number","reached"] []) (mP:Meth K Gc "past_points" fP)
  (GL:FnOk P w K mg base CX0 1 fL fdL ["self","web","state","number"] WK) (bL:Binds K fdL ["self","web","state","number"] []) (mL:Meth K D "left" fL)
  (GT:FnOk P w K mg base CX0 3 fT fdT ["self","web","state","number"] (Ib u K C D)) (bT:Binds K fdT ["self","web","state","number"] []) (mT:Meth K D "taken" fT)
  (GU:FnOk P w K mg base CX0 1 fU fdU ["self","web","state"] (SM u K)) (bU:Binds K fdU ["self","web","state"] []) (mU:Meth K D "fulfilled" fU)
  {sp:Sp} (hsp:∀vs H Q E,d≠0->Kf u P w K C D Gc (d-1) vs H Q E->sp vs H Q E) (GK:FnOk P w K mg base CX0 (d+4) f fd ["self","number","reached"] sp) (bK:Binds K fd ["self","number","reached"] []) (mK:Meth K Gc "knot_at" f) :
  FnOk P w K mg base CX0 (d+5) f fd ["self","number","reached"] (Kf u P w K C D Gc d):=by
 refine F.ok Gb (λvs H Q E h=>?_) (λcdv A outer s H vs Q E hr h=>?_)
 ·obtain ⟨g,W,r,Bh,R,Dk,z,t,bs,v,o,rows,kvs,G,rfl,_⟩:=h
  rfl
 obtain ⟨g,W,r,Bh,R,Dk,z,t,bs,v,o,rows,kvs,G,rfl,td,gr,z1,z10,b8,okb,gd,go,rs,rw0,r6,q⟩:=h;have hr1:Room 1 _:=hr.mono (by lia);have hr2:Room 2 _:=hr.mono (by lia);have hr3:Room 3 _:=hr.mono (by lia);have hr4:Room 4 _:=hr.mono (by lia);refine ⟨_,Ad (Av (i:=3) Gb.nd rfl (BC rfl) (Dj (pv 0) O.cl mP GP hr4 bP .nil pass0 (Aa (pv 1) (Aa (pv 2) Ac))))
  (Ad (Bx (Iw (AFJ (pv 3))) (Ai (Ax Ah)) BW)
  (Ad (Bx (Ao Ci (pv 1) (Bp (pv 0) rfl) (nomark _)) (Ai (Ax (IW (Qu (Dj (Bp (pv 0) rfl) cD mU GU hr1 bU .nil pass0 (Aa (Bp (pv 0) rfl) (Aa (pv 3) Ac)))) Ah Ah))) BW)
  (Js (Bx (Iw (ZF (Cg hr) (CZ (Aa (pv 1) (Aa (pv 3) Ac))) (Bp (pv 0) rfl)) rfl)
   (Ad (Av (i:=4) Gb.nd rfl (BC rfl) (Dj (pv 0) O.cl mK GK hr bK .nil pass0 (Aa (Az Cy (pv 1) Ah) (Aa (Dj (Bp (pv 0) rfl) cD mL GL hr1 bL .nil pass0 (Aa (Bp (pv 0) rfl) (Aa (pv 3) (Aa (pv 1) Ac)))) Ac))))
   (Ad (Av (i:=5) Gb.nd rfl (BC rfl) (Dj (pv 0) O.cl mK GK hr bK .nil pass0 (Aa (Az Cy (pv 1) Ah) (Aa (Dj (Bp (pv 0) rfl) cD mT GT hr3 bT .nil pass0 (Aa (Bp (pv 0) rfl) (Aa (pv 3) (Aa (pv 1) Ac)))) Ac))))
   (Ad (DQ (Hy DL D3 D4 Cp (Bp (pv 0) rfl) (Aa (CZ (Aa (pv 1) (Aa (pv 4) (Aa (pv 5) Ac)))) Ac)))
   (Ai (AEH (Cg hr) (Bp (pv 0) rfl) (CZ (Aa (pv 1) (Aa (pv 3) Ac))) (Az Cy (BJ Aw rfl T.len CL (Aa (Bp (pv 0) rfl) Ac)) Ah) rfl))))) BW)
  (Ai (Ax (AEQ (Cg hr) (Bp (pv 0) rfl) (CZ (Aa (pv 1) (Aa (pv 3) Ac))) (λ_ _=>rfl))))))),?_⟩
 obtain ⟨dg,hg⟩:=gr.ins;obtain ⟨dr,hr0⟩:=gr.rul;have p2:1<=2 ^ d:=Sk;refine ⟨_,rfl,g,dg,_,rfl,hg,XS _ _ _ _ _ _ (by decide +kernel) (by decide +kernel) (by decide +kernel) (by decide +kernel) (by decide +kernel) (by decide +kernel),_,rfl,_,rfl,g,W,r,Bh,R,Dk,z,t,bs,v,o,rfl,gr,z10,by lia,rs,λv' H1 s1 rs1=>?_⟩;have gr1:=gr.same s1;have rw1:=rw0.same s1;have hg1:=s1 _ _ hg;have hr1':=s1 _ _ hr0;cases e:(o.bind λr=>passU u r (behP bs z t)) with
 | none =>
  rw[e] at rs1;cases rs1;refine ⟨_,rfl,_,rfl,iteT ?_⟩;exact q 0 [] kvs H1 (λb o _ _ e=>s1 _ _ e) (by rw[BI];exact rw1) (Np (ABe e)) (λ_ _ _=>rfl) cnt_nil (by simpa using p2)
 | some st =>
  rw[e] at rs1;obtain ⟨b,rfl,hb,sl⟩:=rs1;refine ⟨_,rfl,_,rfl,iteF ?_⟩;refine ⟨_,rfl,_,rfl,g,Gc,dg,_,_,rfl,hg1,O.cl,O.nA,NT _ _ _ _ _ _,rfl,_,rfl,?_⟩;by_cases d0:d=0
  ·subst d0
   refine iteP (by rw[show t=bs.length by lia]) ?_;refine ⟨_,rfl,g,Gc,dg,_,_,rfl,hg1,O.cl,O.nU,Ju _ _ _ _ _ _,r,dr,_,rfl,hr1',rfl,_,rfl,g,Gc,dg,_,_,rfl,hg1,O.cl,O.nW,QS _ _ _ _ _ _,_,rfl,_,_,b,st,rfl,hb,_,rfl,?_⟩;refine ite2 (λc=>?_) (λc=>?_)
   ·exact q 1 [] kvs H1 (λb o _ _ e=>s1 _ _ e) (by rw[BI];exact rw1) (AAz λs=>by rw[XM e,c,Bool.true_and]) (λ_ _ _=>rfl) cnt_nil (by simpa using p2)
   ·exact q 0 [] kvs H1 (λb o _ _ e=>s1 _ _ e) (by rw[BI];exact rw1) (Np λs=>by rw[XM e,(Bool.not_eq_true _).mp c,O4]) (λ_ _ _=>rfl) cnt_nil (by simpa using p2)
  ·obtain ⟨d',rfl⟩:∃d',d=d'+1:=⟨d-1,by lia⟩
   have tn:t<bs.length:=by lia
   refine iteN (λz=>by injection z with z;lia) ?_;have pd:2 ^ (d'+1)=2 ^ d'+2 ^ d':=by rw[Me];lia
   have pd1:1<=2 ^ d':=Sk;refine ⟨λσ' H'=>∃(o4 o5:Option V) (k:Nat) (more:List Row) (kvs':List (OKey×V)),σ'=[some (.ref g),some (.int t),some v,some (.ref b),o4,o5]/\(∀b o,b≠R->b≠Dk->H b=some o->H' b=some o)/\Gr K C D Gc g W r Bh R Dk z bs H'/\Rw u P w K R Dk bs z H' (rows++more) kvs'/\valV kvs' (keyC t st)=some (.int k)/\Lead (rows++more) t k (semC u bs z (d'+1) t o)/\Old t kvs kvs'/\Cnt t more/\more.length+1<=2 ^ (d'+1)/\StAt K H' b st,?_,?_⟩
   ·refine ⟨_,rfl,_,rfl,(by show 2<=sizeLine;decide),λx hx=>?_⟩
    have sx:=Same.new hx (.tup [.int (t:Int),.ref b]);have hg2:=sx _ _ hg1;have rw2:=rw1.same sx;have gr2:=gr1.same sx;have hb2:StAt K (upd H1 x (.tup [.int (t:Int),.ref b])) b st:=sx.ts.seq hb;refine ⟨_,rfl,g,Gc,dg,_,_,rfl,hg2,O.cl,O.nK,Jy _ _ _ _ _ _,Dk,valV kvs (keyC t st),rfl,⟨kvs,keyC t st,x,rw2.dn,rfl,Va Ab hb2,rfl⟩,_,rfl,?_⟩;have s2:=s1.trans sx;cases ev:valV kvs (keyC t st) with
    | some v0 =>
     obtain ⟨k,rfl,_,ld⟩:=rw0.kn t st v0 ev;refine iteF ⟨_,_,k,[],kvs,rfl,λb o _ _ e=>s2 _ _ e,gr2,by rw[BI];exact rw2,ev,?_,λ_ _ _=>rfl,cnt_nil,by simp;lia,hb2⟩;rw[BI,AAr e,show d'=bs.length-1-t by lia];exact ld
    | none =>
     refine iteT ?_;have hr2':=sx _ _ hr1';have e1:((t:Int)+1)=((t+1:Nat):Int):=by lia
     refine ⟨_,rfl,g,dg,_,rfl,hg2,XS _ _ _ _ _ _ (by decide +kernel) (by decide +kernel) (by decide +kernel) (by decide +kernel) (by decide +kernel) (by decide +kernel),_,rfl,_,_,rfl,rfl,_,rfl,g,Gc,dg,_,_,rfl,hg2,O.cl,O.nU,Ju _ _ _ _ _ _,r,dr,_,rfl,hr2',rfl,_,rfl,g,Gc,dg,_,_,rfl,hg2,O.cl,O.nW,QS _ _ _ _ _ _,_,rfl,_,rfl,_,_,_,_,rfl,?_⟩;refine hsp _ _ _ _ (by lia) ⟨g,W,r,Bh,R,Dk,z,t+1,bs,.ref b,some st,rows,kvs,G,congrArg (λi=>[V.ref g,V.int i,V.ref b]) e1,by lia,gr2,z1,z10,b8,okb,gd,(gd t o st tn go e).2.1,⟨b,rfl,hb2,sl⟩,rw2,by rw[DE];lia,λk1 more1 kvs1 H3 kp3 rw3 ld1 old1 cnt1 ml1=>?_⟩;rw[DE] at ld1 ml1;obtain ⟨xs2,eR2,_⟩:=id rw2.at_;obtain ⟨_,_,ax2,eD2,_⟩:=id rw2.dn;have gr3:=gr2.keep kp3 eR2 eD2;have ts3:=tsRD kp3 eR2 eD2;obtain ⟨dg3,hg3⟩:=gr3.ins;obtain ⟨dr3,hr3'⟩:=gr3.rul;have hb3:StAt K H3 b st:=ts3.seq hb2;refine ⟨_,rfl,g,dg3,_,rfl,hg3,XS _ _ _ _ _ _ (by decide +kernel) (by decide +kernel) (by decide +kernel) (by decide +kernel) (by decide +kernel) (by decide +kernel),_,rfl,_,_,rfl,rfl,_,rfl,g,Gc,dg3,_,_,rfl,hg3,O.cl,O.nU,Ju _ _ _ _ _ _,r,dr3,_,rfl,hr3',rfl,_,rfl,g,Gc,dg3,_,_,rfl,hg3,O.cl,O.nW,QS _ _ _ _ _ _,_,rfl,_,rfl,r,W,b,dr3,t,z,bs,st,rfl,hr3',gr3.web,okb,hb3,sl,(gd t o st tn go e).1,tn,z10,λv4 H4 s4 rs4=>?_⟩;have rw4:=rw3.same s4;have gr4:=gr3.same s4;refine hsp _ _ _ _ (by lia) ⟨g,W,r,Bh,R,Dk,z,t+1,bs,v4,takU u bs t st,rows++more1,kvs1,G,congrArg (λi=>[V.ref g,V.int i,v4]) e1,by lia,gr4,z1,z10,b8,okb,gd,(gd t o st tn go e).2.2,rs4,rw4,by rw[DE,AT];lia,λk2 more2 kvs2 H5 kp5 rw5 ld2 old2 cnt2 ml2=>?_⟩;rw[DE] at ld2 ml2;obtain ⟨xs4,eR4,_⟩:=id rw4.at_;obtain ⟨_,_,ax4,eD4,_⟩:=id rw4.dn;have gr5:=gr4.keep kp5 eR4 eD4;have ts5:=tsRD kp5 eR4 eD4;obtain ⟨dg5,hg5⟩:=gr5.ins;have hb5:StAt K H5 b st:=ts5.seq (s4.ts.seq hb3);obtain ⟨xs5,eR5,px5⟩:=id rw5.at_;obtain ⟨_,_,ax5,eD5,_⟩:=id rw5.dn;have lx5:=AQ px5;refine ⟨_,rfl,g,Gc,dg5,_,_,rfl,hg5,O.cl,O.nR,Px _ _ _ _ _ _,.inl ⟨rfl,_,SqL.of eR5⟩,_,rfl,_,rfl,_,rfl,(by show 3<=sizeLine;decide),λy hy=>?_⟩;have sy:=Same.new hy (.tup [.int (t:Int),.int (k1:Int),.int (k2:Int)]);have l5:xs5.length<=4100:=by
      rw[<- lx5];simp only[AT];lia
     refine ⟨R,_,_,rfl,rfl,sy _ _ eR5,smallN (by lia),?_⟩;obtain ⟨ok6,ld6⟩:=ZD (lef:=lefU) (tak:=takU u bs) (g:=semC u bs z d' (t+1)) (st:=st) rw5.ok tn (ld1.app rw3.ok) ld2;have RD:R≠Dk:=Cq eR5 eD5 (by intro z;cases z);have gR:g≠R:=Cq hg5 eR5 (by intro z;cases z);have eR6y:=sy _ _ eR5;have tl6:=TSm.lst (o:=.lst (xs5++[.ref y])) eR6y;have k6:∀c o,c≠R->H5 c=some o->(upd (upd H5 y (.tup [.int (t:Int),.int (k1:Int),.int (k2:Int)])) R (.lst (xs5++[.ref y]))) c=some o:=λc o h e=>by rw[Af h];exact sy _ _ e
     have gr6:=gr5.keep (H':=upd (upd H5 y (.tup [.int (t:Int),.int (k1:Int),.int (k2:Int)])) R (.lst (xs5++[.ref y]))) (λc o h _ e=>k6 c o h e) eR5 eD5;have dn6:=rw5.dn.keep (H':=upd (upd H5 y (.tup [.int (t:Int),.int (k1:Int),.int (k2:Int)])) R (.lst (xs5++[.ref y]))) (λo=>k6 _ o (DF RD)) (sy.ts.trans tl6);have hb6:StAt K (upd (upd H5 y (.tup [.int (t:Int),.int (k1:Int),.int (k2:Int)])) R (.lst (xs5++[.ref y]))) b st:=(sy.ts.trans tl6).seq hb5;have eR6:(upd (upd H5 y (.tup [.int (t:Int),.int (k1:Int),.int (k2:Int)])) R (.lst (xs5++[.ref y]))) R=some (.lst (xs5++[.ref y])):=Ab;have px6:A9 (K43s.rRow K (upd (upd H5 y (.tup [.int (t:Int),.int (k1:Int),.int (k2:Int)])) R (.lst (xs5++[.ref y])))) (rows++more1++more2++[(t,k1,k2)]) (xs5++[.ref y]):=by
      refine Paired.app (Paired.imp (λ_ _ c=>K43s.Bd _ _ _ _ (sy.ts.trans tl6) c) px5) (Paired.one ⟨y,rfl,SqT.of ?_⟩);rw[Af (Cq (show (upd H5 y (.tup [.int (t:Int),.int (k1:Int),.int (k2:Int)])) y=some _ from Ab) eR6y (by intro z;cases z))];exact Ab
     generalize upd (upd H5 y (.tup [.int (t:Int),.int (k1:Int),.int (k2:Int)])) R (.lst (xs5++[.ref y]))=H6 at k6 gr6 dn6 hb6 eR6 px6;obtain ⟨dg6,hg6⟩:=gr6.ins;obtain ⟨_,_,ax6,eD6,_⟩:=id dn6;have new:valV kvs2 (keyC t st)=none:=by rw[old2 t st (by lia),old1 t st (by lia),ev]
     have kl2:=rw5.len;refine ⟨_,rfl,g,Gc,dg6,_,_,rfl,hg6,O.cl,O.nR,Px _ _ _ _ _ _,R,_,rfl,.inl (SqL.of eR6),_,_,rfl,rfl,_,rfl,g,Gc,dg6,_,_,rfl,hg6,O.cl,O.nK,Jy _ _ _ _ _ _,_,rfl,_,rfl,(by show 2<=sizeLine;decide),λu hu=>?_⟩;have su:=Same.new hu (.tup [.int (t:Int),.ref b]);refine ⟨Dk,kvs2,keyC t st,u,rfl,rfl,dn6.keep (λo=>su _ o) su.ts,Va Ab (su.ts.seq hb6),new,smallN (by rw[lx5] at kl2;lia),λH9 oth dn9=>?_⟩;have kl:(((xs5++[V.ref y]).length:Nat):Int)+1=(((rows++more1++more2).length+2:Nat):Int):=by
      rw[AT,Dx,<- lx5];lia
     rw[show (λ(i j:Int)=>V.int (i+j)) (((xs5++[V.ref y]).length:Nat):Int) 1=V.int (((rows++more1++more2).length+2:Nat):Int) from congrArg V.int kl] at dn9;have k9:∀c o,c≠Dk->H6 c=some o->H9 c=some o:=λc o h e=>by rw[oth c h];exact su _ _ e
     have eas:rows++(more1++more2++[(t,k1,k2)])=rows++more1++more2++[(t,k1,k2)]:=by simp only[CD]
     have ts9:TSm H6 H9:=tsRD (R:=R) (D:=Dk) (λc o _ h e=>k9 c o h e) eR6 eD6;refine ⟨_,_,(rows++more1++more2).length+2,more1++more2++[(t,k1,k2)],putK kvs2 (keyC t st) (.int (((rows++more1++more2).length+2:Nat):Int)),rfl,λc o h1 h2 e=>?_,?_,?_,?_,?_,?_,AAo cnt1 cnt2,?_,ts9.seq hb6⟩
     ·exact k9 _ _ h2 (k6 _ _ h1 (kp5 _ _ h1 h2 (s4 _ _ (kp3 _ _ h1 h2 (s2 _ _ e)))))
     ·exact gr6.keep (λc o _ h e=>k9 c o h e) eR6 eD6
     ·rw[eas]
      refine ⟨⟨_,k9 _ _ RD eR6,Paired.imp (λ_ _ c=>K43s.Bd _ _ _ _ ts9 c) px6⟩,dn9,ok6,λt' st' v' hv'=>?_,?_⟩
      ·rw[Ed] at hv'
       by_cases c:keyC t' st'=keyC t st
       ·rw[if_pos c] at hv'
        cases hv';obtain ⟨rfl,rfl⟩:=Ui c;refine ⟨_,rfl,tn,?_⟩;rw[show bs.length-1-t'=d' by lia];exact ld6
       ·rw[if_neg c] at hv'
        exact (rw5.kn.app rw5.ok) t' st' v' hv'
      ·rw[Ie _ new,AT,Dx,AT,Dx]
       lia
     ·rw[Ed,if_pos rfl]
     ·rw[eas,AAr e]
      exact ld6
     ·intro t' st' lt
      rw[Ed,if_neg (λc=>by have:=(Ui c).1;lia),old2 t' st' (by lia),old1 t' st' (by lia)]
     ·simp only[AT,Dx]
      lia
   ·rintro σ H6 ⟨o4,o5,k,more,kvs',rfl,kp,gr6,rw6,val,ld,old,cnt,ml,hb6⟩
    obtain ⟨dg6,hg6⟩:=gr6.ins;refine ⟨_,rfl,g,Gc,dg6,_,_,rfl,hg6,O.cl,O.nK,Jy _ _ _ _ _ _,_,rfl,_,rfl,(by show 2<=sizeLine;decide),λy hy=>?_⟩;have sy:=Same.new hy (.tup [.int (t:Int),.ref b]);exact ⟨Dk,.int k,rfl,⟨kvs',keyC t st,y,rw6.dn.keep (λo=>sy _ o) sy.ts,rfl,Va Ab (sy.ts.seq hb6),val⟩,q k more kvs' _ (λc o h1 h2 e=>sy _ _ (kp c o h1 h2 e)) (rw6.same sy) ld old cnt ml⟩
end
def Xr(u:Wr)(P:AK)(w:AR)(K:As)(C Dc Gc:Addr):Sp:=λvs H Q _=>∃(g dx W r dr:Addr) (z:Nat) (bs:List (List Int)),vs=[.ref g,.ref W,.ref r]/\H g=some (.ins Gc dx [])/\W≠g/\r≠g/\WebAt K C H W z bs/\H r=some (.ins Dc dr [])/\z<=10/\bs.length<=12 /\
 ∀(Bh R D:Addr) (H':Hp),(∀b o,H b=some o->b≠g->H' b=some o)->Gr K C Dc Gc g W r Bh R D z bs H'->Rw u P w K R D bs z H' [] []->H R=none->H D=none->Q .non H'
section
variable{u:Wr}{P:AK}{w:AR}{K:As}{mg:Str->Option Au}{base:Heap}{f C D Gc:Addr}{fd:BV}
theorem ADN:FnScope ["self","web","rule"] ["self","web","rule"] (Ag Qy):=⟨rfl,rfl,rfl,by decide +kernel,rfl,by decide +kernel,by decide +kernel⟩
theorem ACd{fB fT:Addr}{fdB fdT:BV}(F:Fun K "__init__" "Growth.__init__" Qy f fd)(T:Txt K mg C)(O:Gro K mg Gc)
  (GT:FnOk P w K mg base CX0 1 fT fdT ["self"] (Vx K C)) (bT:Binds K fdT ["self"] []) (mT:Meth K C "ties" fT)
  (GB:FnOk P w K mg base CX0 2 fB fdB ["web","number"] (ACg K C)) (bB:Binds K fdB ["web","number"] []) (kB:AW K (.ref fB)=true) (mB:mg "points_behind" = some (.ref fB)) :
  FnOk P w K mg base CX0 3 f fd ["self","web","rule"] (Xr u P w K C D Gc):=by
 refine F.ok ADN (λvs H Q E h=>?_) (λcdv A outer s H vs Q E hr h=>?_)
 ·obtain ⟨g,dx,W,r,dr,z,bs,rfl,_⟩:=h
  rfl
 obtain ⟨g,dx,W,r,dr,z,bs,rfl,hg,Wg,rg,hW,hr0,z10,b8,q⟩:=h;have hr1:Room 1 _:=hr.mono (by decide);refine ⟨_,Ad (Ej (pv 0) (pv 1) rfl)
  (Ad (Ej (pv 0) (pv 2) rfl)
  (Ad (Ej (pv 0) (BJ Aw rfl T.len CL (Aa (CG (pv 1) T.cl mT GT hr1 bT .nil pass0) Ac)) rfl)
  (Ad (Ej (pv 0) (Bo (Ag Qy) ["number"] ["web"] [1] rfl rfl (by decide +kernel) ⟨⟨rfl,by decide +kernel⟩,trivial⟩ (DG rfl T.range (Aa (Az Cy (Bp (pv 0) rfl) Ah) Ac))
   (λ_ _ _=>Aq (i:=0) (show ((["number"]:List Str)++(["web"]:List Str)).Nodup by decide +kernel) rfl (BC rfl)) (λ_ _ _=>Dp)
   (λ_ _ _=>Ay GB hr rfl mB kB bB .nil pass0 (Aa (pv 1) (Aa (pv 0) Ac)))) rfl)
  (Ad (Ej (pv 0) (Ce Ac) rfl)
  (Ai (Ej (pv 0) ABq rfl)))))),?_⟩
 have tsI:∀{H0:Hp}{fs gs:List (Str×V)},H0 g=some (.ins Gc dx fs)->TSm H0 (upd H0 g (.ins Gc dx gs)):=λ{H0 fs gs} hP b u hb t=>by
  rw[Af ?_]
  ·exact hb
  ·rintro rfl
   rw[hP] at hb;cases hb;obtain ⟨ys,e | ⟨o,e⟩⟩:=t
   ·cases e
   ·cases e
 refine ⟨_,rfl,_,rfl,g,Gc,dx,[],rfl,hg,O.cl,O.nW,(by show 0<1000;decide),?_⟩;refine ⟨_,rfl,_,rfl,g,Gc,dx,_,rfl,Ab,O.cl,O.nU,(by show 1<1000;decide),?_⟩;rw[ADb];have k1:∀b o,b≠g->H b=some o->(upd H g (.ins Gc dx (putF "rule" (.ref r) (putF "web" (.ref W) [])))) b=some o:=λb o h e=>by rw[Af h];exact e
 have ts1:=tsI (gs:=putF "rule" (.ref r) (putF "web" (.ref W) [])) hg;have g1:(upd H g (.ins Gc dx (putF "rule" (.ref r) (putF "web" (.ref W) [])))) g=some (.ins Gc dx (putF "rule" (.ref r) (putF "web" (.ref W) []))):=Ab;generalize upd H g (.ins Gc dx (putF "rule" (.ref r) (putF "web" (.ref W) [])))=H1 at k1 ts1 g1;have hW1:WebAt K C H1 W z bs:=by
  obtain ⟨d,j,a1,a2⟩:=hW;exact ⟨d,j,k1 _ _ Wg a1,Ak (Ak Am) _ _ _ _ ts1 a2⟩
 obtain ⟨dw,jw,hw1,_⟩:=id hW1;refine ⟨_,rfl,W,dw,_,rfl,hw1,DW _ _ (by decide +kernel) (by decide +kernel),W,z,bs,rfl,hW1,λl H2 s2 hl hL=>?_⟩;obtain ⟨l',ts,el,hX,px⟩:=hL;cases el;have lt:ts.length=bs.length:=(AQ px).symm;refine ⟨l,_,rfl,.inl hX,_,rfl,g,Gc,dx,_,rfl,s2 _ _ g1,O.cl,O.nA,(by show 2<1000;decide),?_⟩;have g2:=s2 _ _ g1;rw[lt];have k3:∀b o,b≠g->H b=some o->(upd H2 g (.ins Gc dx (putF "amount" (.int (bs.length:Nat)) (putF "rule" (.ref r) (putF "web" (.ref W) []))))) b=some o:=λb o h e=>by rw[Af h];exact s2 _ _ (k1 b o h e)
 have ts3:=ts1.trans (s2.ts.trans (tsI (gs:=putF "amount" (.int (bs.length:Nat)) (putF "rule" (.ref r) (putF "web" (.ref W) []))) g2));have g3:(upd H2 g (.ins Gc dx (putF "amount" (.int (bs.length:Nat)) (putF "rule" (.ref r) (putF "web" (.ref W) []))))) g=some (.ins Gc dx (putF "amount" (.int (bs.length:Nat)) (putF "rule" (.ref r) (putF "web" (.ref W) [])))):=Ab;generalize upd H2 g (.ins Gc dx (putF "amount" (.int (bs.length:Nat)) (putF "rule" (.ref r) (putF "web" (.ref W) []))))=H3 at k3 ts3 g3;have hW3:WebAt K C H3 W z bs:=by
  obtain ⟨d,j,a1,a2⟩:=hW;exact ⟨d,j,k3 _ _ Wg a1,Ak (Ak Am) _ _ _ _ ts3 a2⟩
 refine ⟨_,rfl,g,Gc,dx,_,_,rfl,g3,O.cl,O.nA,(by rw[Aj,if_pos rfl]),_,_,rfl,rfl,_,rfl,by lia,by lia,λBh hBh=>?_⟩;refine Dq (lo:=0) (n:=(((bs.length:Nat):Int)+1).toNat) (λj τ H4=>∃(o:Option V) (ys:List V),τ=[o,some (.ref W)]/\Same H3 H4/\H4 Bh=some (.lst ys)/\A9 (λt v=>∃l,v=.ref l/\l≠Bh/\H4 l=some (.lst (nI (behP bs z t)))) (AI j) ys) ⟨none,[],rfl,Same.new hBh _,Ab,.nil⟩ ?_ ?_
 ·rintro j τ H4 hj ⟨o,ys,rfl,s4,eB,pB⟩
  have ej:(0:Int)+j=(j:Int):=by lia
  rw[ej];have ly:=AQ pB;rw[BD] at ly;refine yesN ⟨_,rfl,_,rfl,W,j,z,bs,rfl,hW3.same s4,z10,by lia,λm H5 s5 hm em=>?_⟩;have mB:m≠Bh:=λz=>by rw[z,eB] at hm;cases hm
  refine ⟨_,s5 _ _ eB,Ar (by lia),_,_,rfl,λb o e=>?_,Ab,?_⟩
  ·rw[Af (Ae e hBh)]
   exact s5 _ _ (s4 b o e)
  ·rw[EX]
   refine Paired.app (Paired.imp (λt v ⟨l,e1,e2,e3⟩=>⟨l,e1,e2,by rw[Af e2];exact s5 _ _ e3⟩) pB) (Paired.one ⟨m,rfl,mB,by rw[Af mB];exact em⟩)
 rintro τ H4 ⟨o,ys,rfl,s4,eB,pB⟩;rw[show (((bs.length:Nat):Int)+1).toNat=bs.length+1 by lia] at pB;have g4:=s4 _ _ g3;have gB:Bh≠g:=λz=>by rw[z,g4] at eB;cases eB
 refine ⟨_,rfl,g,Gc,dx,_,rfl,g4,O.cl,O.nB,(by show 3<1000;decide),?_⟩;have nBH:H Bh=none:=by
  cases e:H Bh with
  | none=>rfl
  | some o=>have:=k3 _ _ gB e;rw[hBh] at this;cases this
 refine ⟨A8 _,λR hR=>?_⟩;have gR:R≠g:=λz=>by rw[z,Ab] at hR;cases hR
 have hR4:H4 R=none:=by rw[Af gR] at hR;exact hR
 have BR:Bh≠R:=Ae eB hR4;refine ⟨_,rfl,g,Gc,dx,_,rfl,by rw[Af (DF gR)];exact Ab,O.cl,O.nR,(by show 4<1000;decide),?_⟩;refine λDk hD dn0=>?_;have gD:Dk≠g:=λz=>by rw[z,Ab] at hD;cases hD
 have RD:Dk≠R:=λz=>by rw[z,Af gR,Ab] at hD;cases hD
 have hD4:H4 Dk=none:=by rw[Af gD,Af RD,Af gD] at hD;exact hD
 refine ⟨_,rfl,g,Gc,dx,_,rfl,by rw[Af (DF gD)];exact Ab,O.cl,O.nK,(by show 5<1000;decide),?_⟩;have fin:∀b o,b≠g->H4 b=some o->(upd (upd (upd (upd (upd H4 g (.ins Gc dx (putF "behind" (.ref Bh) (putF "amount" (.int (bs.length:Nat)) (putF "rule" (.ref r) (putF "web" (.ref W) [])))))) R (.lst [])) g (.ins Gc dx (putF "rows" (.ref R) (putF "behind" (.ref Bh) (putF "amount" (.int (bs.length:Nat)) (putF "rule" (.ref r) (putF "web" (.ref W) []))))))) Dk (dO P w Dk [])) g (.ins Gc dx (gf W r (bs.length:Nat) Bh R Dk))) b=some o:=λb o h e=>by
  rw[Af h,Af (Ae e hD4),Af h,Af (Ae e hR4),Af h];exact e
 have fT:TSm H4 (upd (upd (upd (upd (upd H4 g (.ins Gc dx (putF "behind" (.ref Bh) (putF "amount" (.int (bs.length:Nat)) (putF "rule" (.ref r) (putF "web" (.ref W) [])))))) R (.lst [])) g (.ins Gc dx (putF "rows" (.ref R) (putF "behind" (.ref Bh) (putF "amount" (.int (bs.length:Nat)) (putF "rule" (.ref r) (putF "web" (.ref W) []))))))) Dk (dO P w Dk [])) g (.ins Gc dx (gf W r (bs.length:Nat) Bh R Dk))):=λb u hb t=>fin b u (λz=>by
  rw[z,g4] at hb;cases hb;obtain ⟨ys,e | ⟨o,e⟩⟩:=t
  ·cases e
  ·cases e) hb
 have old:∀x,x≠g->H4 x=none->H x=none:=λx h n=>by
  cases e:H x with
  | none=>rfl
  | some o=>have:=s4 _ _ (k3 _ _ h e);rw[n] at this;cases this
 refine q Bh R Dk _ (λb o e h=>fin b o h (s4 _ _ (k3 b o h e))) ⟨⟨dx,Ab⟩,?_,⟨dr,fin _ _ rg (s4 _ _ (k3 _ _ rg hr0))⟩,⟨ys,fin _ _ gB eB,BR,Paired.imp (λt v ⟨l,e1,e2,e3⟩=>⟨l,e1,Ae e3 hR4,fin _ _ (λz=>by rw[z,g4] at e3;cases e3) e3⟩) pB⟩⟩ ?_ (old R gR hR4) (old Dk gD hD4)
 ·obtain ⟨d,j,a1,a2⟩:=hW3.same s4
  exact ⟨d,j,fin _ _ Wg a1,Ak (Ak Am) _ _ _ _ fT a2⟩
 ·refine ⟨⟨[],by rw[Af gR,Af (DF RD),Af gR,Ab],.nil⟩,dn0.keep (λo e=>by rw[Af gD];exact e) (tsI (fs:=_) (by rw[Af (DF gD)];exact Ab)),λi r h=>(by simp at h),λt st v hv=>(by cases hv),AE _⟩
end
section
variable{u:Wr}{P:AK}{w:AR}{K:As}{mg:Str->Option Au}{base:Heap}{f C D Gc S:Addr}{fd:BV}
theorem Nz{fP fL fT fU:Addr}{fdP fdL fdT fdU:BV}(F:Fun K "knot_at" "Growth.knot_at" Jj f fd)(T:Txt K mg C)(cD:Cls K D)(O:Gro K mg Gc)
  (GP:FnOk P w K mg base CX0 4 fP fdP ["self","number","reached"] (Vm u K C D Gc)) (bP:Binds K fdP ["self","number","reached"] []) (mP:Meth K Gc "past_points" fP)
  (GL:FnOk P w K mg base CX0 1 fL fdL ["self","web","state","number"] WK) (bL:Binds K fdL ["self","web","state","number"] []) (mL:Meth K D "left" fL)
  (GT:FnOk P w K mg base CX0 3 fT fdT ["self","web","state","number"] (Ib u K C D)) (bT:Binds K fdT ["self","web","state","number"] []) (mT:Meth K D "taken" fT)
  (GU:FnOk P w K mg base CX0 1 fU fdU ["self","web","state"] (SM u K)) (bU:Binds K fdU ["self","web","state"] []) (mU:Meth K D "fulfilled" fU)
  (bK:Binds K fd ["self","number","reached"] []) (mK:Meth K Gc "knot_at" f):∀d,FnOk P w K mg base CX0 (d+5) f fd ["self","number","reached"] (Kf u P w K C D Gc d)
 | 0=>LK 0 F T cD O GP bP mP GL bL mL GT bT mT GU bU mU (sp:=λ_ _ _ _=>False) (λ_ _ _ _ h=>absurd rfl h) (F.ok Gb (λvs H Q E h=>EF h) (λcdv A outer s H vs Q E hr h=>EF h)) bK mK
 | d+1=>LK (d+1) F T cD O GP bP mP GL bL mL GT bT mT GU bU mU (sp:=Kf u P w K C D Gc d) (λ_ _ _ _ _ h=>h) (Nz F T cD O GP bP mP GL bL mL GT bT mT GU bU mU bK mK d) bK mK
end
theorem QW{st:StO}{p:Nat}(h:p<st.length):atI (st.map oV) (p:Int)=some (oV (st.getD p none)):=Bm (by rw[A2,AD,AJ h];rfl)
theorem AEe(c:Option Int):flatV (oV c)=true:=by cases c<;>rfl
theorem AFP{a b:Option Int}(h:oV a=oV b):a=b:=by cases a<;>cases b<;>first | rfl | (injection h with h;rw[h]) | cases h
theorem oV_scal(a b:Option Int):scal (oV a) (oV b)=true:=by cases a<;>cases b<;>rfl
theorem AFz(a b:Option Int):decide (oV a=oV b)=decide (a=b):=decide_eq_decide.mpr ⟨AFP,λh=>by rw[h]⟩
theorem QZ{st:StO}{i:Nat}{y:V}(h:(st.map oV)[i]?=some y):i<st.length/\y=oV (st.getD i none):=by
 have il:=(AL.mp h).1;rw[AB] at il;rw[A2,AJ il] at h;refine ⟨il,?_⟩;rw[AD,AJ il];exact (BH h).symm
theorem ABr{n k:Nat}(h:k<n):ixN n (k:Int)=some k:=by
 unfold ixN;simp only[MW,IE.mpr (MW k)];simp;lia
def undW(st:StO)(c:Option Int)(j:Nat):List Nat:=(AI j).filter λq=>decide (st.getD q none=c)
def Qg(K:As):Sp:=λvs H Q _=>∃(b:Addr) (st:StO) (c:Option Int),vs=[.ref b,oV c]/\StAt K H b st/\st.length<=10/\∀(l:Addr) (H':Hp),Same H H'->H l=none->H' l=some (.lst (nI (undW st c st.length)))->Q (.ref l) H'
def Xn(K:As):Sp:=λvs H Q _=>∃(b:Addr) (st:StO) (i j:Int),vs=[.ref b,.int i,.int j]/\StAt K H b st/\st.length<=10/\∀(l:Addr) (H':Hp),Same H H'->H l=none->H' l=some (.lst ((joinW st i j).map oV))->Q (.ref l) H'
section
variable{P:AK}{w:AR}{K:As}{mg:Str->Option Au}{base:Heap}{f C D:Addr}{fd:BV}
theorem ADX:FnScope ["heads","head"] ["heads","head"] (Ag QJ):=⟨rfl,rfl,rfl,by decide +kernel,rfl,by decide +kernel,by decide +kernel⟩
theorem ABg(F:Fun K "points_under" "points_under" QJ f fd)(T:Txt K mg C):FnOk P w K mg base CX0 1 f fd ["heads","head"] (Qg K):=by
 refine F.ok ADX (λvs H Q E h=>?_) (λcdv A outer s H vs Q E hr h=>?_)
 ·obtain ⟨b,st,c,rfl,_⟩:=h
  rfl
 obtain ⟨b,st,c,rfl,hb,s10,q⟩:=h;refine ⟨_,Ai (Ax (Bo (Ag QJ) ["point","its_head"] ["head"] [1] rfl rfl (by decide +kernel) ⟨⟨rfl,by decide +kernel⟩,trivial⟩ (Ks rfl T.enum (Aa (pv 0) Ac))
    (λ_ _ _=>Fl (K:=K) (n:=2) rfl rfl (CK (Aq (i:=0) (show ((["point","its_head"]:List Str)++(["head"]:List Str)).Nodup by decide +kernel) rfl (BC rfl)) (CK (Aq (i:=1) (show ((["point","its_head"]:List Str)++(["head"]:List Str)).Nodup by decide +kernel) rfl (BC rfl)) FZ)))
    (λ_ _ _=>Bt (Ao Ci (pv 1) (pv 2) (nomark _))) (λ_ _ _=>pv 0))),?_⟩
 refine ⟨_,rfl,b,rfl,⟨_,hb⟩,λZ hZ=>?_⟩;refine Gz (xs:=st.map oV) (λi τ H2=>∃n t:Option V,τ=[n,t,some (oV c)]/\Same H H2/\H2 Z=some (.lst (nI (undW st c i)))) ⟨none,none,rfl,Same.new hZ _,Ab⟩ (λi τ H2 _ ⟨_,_,_,sm,_⟩=>sm.ts.seq hb) ?_ ?_
 ·rintro i y τ H2 T1 hy hT1 ⟨n,t,rfl,sm,eZ⟩
  obtain ⟨il,rfl⟩:=QZ hy;have s2:Same H2 (upd H2 T1 (.tup [.int i,oV (st.getD i none)])):=Same.new hT1 _;have lo:(undW st c i).length<=i:=BM (Cs ..) (by rw[BD];exact AE _);refine ⟨T1,_,rfl,SqT.of Ab,rfl,_,_,rfl,_,_,rfl,rfl,?_⟩;refine ⟨_,rfl,_,rfl,oV_scal _ _,_,rfl,?_⟩;rw[AFz];by_cases cc:st.getD i none=c
  ·refine iteP cc ⟨_,rfl,_,s2 _ _ eZ,Ar (by rw[Du];lia),_,_,rfl,λb o e=>?_,?_⟩
   ·rw[Af (Ae e hZ)]
    exact s2 _ _ (sm b o e)
   ·rw[Ab]
    unfold undW;rw[EX,Cc,ER (by simpa using cc)];unfold nI;rw[BU];rfl
  ·refine iteN cc ⟨_,_,rfl,sm.trans s2,?_⟩
   unfold undW;rw[EX,Cc,EQ (by simpa using cc),EL,BI];exact s2 _ _ eZ
 ·rintro τ H2 ⟨n,t,rfl,sm,eZ⟩
  rw[AB] at eZ;exact q Z _ sm hZ eZ
theorem YQ:FnScope ["heads","one","other","least"] ["heads","one","other"] (Ag Pu):=⟨rfl,rfl,rfl,by decide +kernel,rfl,by decide +kernel,by decide +kernel⟩
theorem ACb(F:Fun K "parts_as_one" "parts_as_one" Pu f fd)(T:Txt K mg C):FnOk P w K mg base CX0 1 f fd ["heads","one","other"] (Xn K):=by
 refine F.ok YQ (λvs H Q E h=>?_) (λcdv A outer s H vs Q E hr h=>?_)
 ·obtain ⟨b,st,i,j,rfl,_⟩:=h
  rfl
 obtain ⟨b,st,i,j,rfl,hb,s10,q⟩:=h;refine ⟨_,Ad (Av (i:=3) YQ.nd rfl (HR rfl) (BJ (JH rfl) rfl T.min J7 (Aa (pv 1) (Aa (pv 2) Ac))))
  (Ai (Ax (Bo (Ag Pu) ["head"] ["least","one","other"] [3,1,2] rfl rfl (by decide +kernel) ⟨⟨rfl,by decide +kernel⟩,⟨rfl,by decide +kernel⟩,⟨rfl,by decide +kernel⟩,trivial⟩ (AAm (pv 0))
    (λ_ _ _=>Aq (i:=0) (show ((["head"]:List Str)++(["least","one","other"]:List Str)).Nodup by decide +kernel) rfl (BC rfl)) (λ_ _ _=>Dp)
    (λ_ _ _=>IW (Ao (Ei (K:=K) rfl) (pv 0) (CZ (Aa (pv 2) (Aa (pv 3) Ac))) rfl) (pv 1) (pv 0))))),?_⟩
 have em:(if j<i then j else i)=min i j:=by split<;>lia
 refine ⟨_,rfl,_,rfl,_,_,rfl,?_⟩;rw[em];refine ⟨_,rfl,b,rfl,⟨_,hb⟩,λZ hZ=>?_⟩;refine JD (K:=K) (a:=b) (xs:=st.map oV) (λk τ H2=>∃n:Option V,τ=[n,some (.int (min i j)),some (.int i),some (.int j)]/\Same H H2/\H2 Z=some (.lst ((joinW (st.take k) i j).map oV))) ⟨none,rfl,Same.new hZ _,Ab⟩ (λk τ H2 _ ⟨_,_,sm,_⟩=>sm.ts.seq hb) ?_ ?_
 ·rintro k y τ H2 hy ⟨n,rfl,sm,eZ⟩
  obtain ⟨kl,rfl⟩:=QZ hy;have hk:st[k]?=some (st.getD k none):=by rw[AD,AJ kl];rfl
  have jt:joinW (st.take (k+1)) i j=joinW (st.take k) i j++[if st.getD k none=some i\/st.getD k none=some j then some (min i j) else st.getD k none]:=by
   unfold joinW;rw[DM,hk,BU];rfl
  generalize st.getD k none=c at hk jt;have jl:(joinW (st.take k) i j).length<=10:=by unfold joinW;rw[AB,BQ];lia
  refine yesN ⟨_,rfl,_,rfl,_,rfl,(by show 2<=sizeLine;decide),λt ht=>?_⟩;have s2:=Same.new ht (.tup [V.int i,V.int j]);have ei:inV (oV c) [V.int i,V.int j]=decide (c=some i\/c=some j):=by
   cases c with
   | none=>rfl
   | some x =>
    have:=Ef x [i,j];refine this.trans (decide_eq_decide.mpr ?_);simp
  refine ⟨t,_,rfl,.inr (SqT.of Ab),AEe c,rfl,_,rfl,?_⟩;rw[if_neg (show ¬ (false=true) by decide),ei];have fin:∀d:Option Int,d=(if c=some i\/c=some j then some (min i j) else c)->∃ys,(upd H2 t (.tup [V.int i,V.int j])) Z=some (.lst ys)/\ys.length<sizeLine/\∃n:Option V,[some (oV c),some (.int (min i j)),some (.int i),some (.int j)]=[n,some (.int (min i j)),some (.int i),some (V.int j)]/\Same H (upd (upd H2 t (.tup [V.int i,V.int j])) Z (.lst (ys++[oV d])))/\(upd (upd H2 t (.tup [V.int i,V.int j])) Z (.lst (ys++[oV d]))) Z=some (.lst ((joinW (st.take (k+1)) i j).map oV)):=λd ed=>by
   refine ⟨_,s2 _ _ eZ,Ar (by rw[AB];lia),_,rfl,λb o e=>?_,?_⟩
   ·rw[Af (Ae e hZ)]
    exact s2 _ _ (sm b o e)
   ·rw[Ab,jt,BU,ed]
    rfl
  by_cases cc:c=some i\/c=some j
  ·exact iteP cc ⟨_,rfl,fin (some (min i j)) (by rw[if_pos cc])⟩
  ·exact iteN cc ⟨_,rfl,fin c (by rw[if_neg cc])⟩
 ·rintro τ H2 ⟨n,rfl,sm,eZ⟩
  rw[AB,CF] at eZ;exact q Z _ sm hZ eZ
end
theorem AAl(st:StO)(p:Nat):restW st p=(undW st (st.getD p none) st.length).filter λq=>decide (q≠p):=by
 unfold restW undW;rw[List.filter_filter];refine List.filter_congr λq _=>?_;rw[F6,decide_eq_true_iff,DJ,decide_eq_true_iff,decide_eq_true_iff];exact ⟨λh=>⟨h.2,h.1⟩,λh=>⟨h.2,h.1⟩⟩
def hdsW(st:StO)(p k:Nat):StO:=(AI k).map λq=>if q∈restW st p then some (((restW st p).headD 0:Nat):Int) else st.getD q none
theorem ABY(st:StO)(p k:Nat):hdsW st p (k+1)=hdsW st p k++[if k∈restW st p then some (((restW st p).headD 0:Nat):Int) else st.getD k none]:=by
 unfold hdsW;rw[EX,BU];rfl
theorem ABO(ks:List Nat)(k:Nat):inV (V.int (k:Int)) (nI ks)=decide (k∈ks):=by
 have e:nI ks=(ks.map λx:Nat=>(x:Int)).map V.int:=by unfold nI;rw[DS];rfl
 rw[e,Ef];refine decide_eq_decide.mpr ?_;rw[AY];exact ⟨λ⟨x,h,e⟩=>by
               have:x=k:=by lia
               exact this ▸ h,λh=>⟨k,h,rfl⟩⟩
theorem XC(ks:List Nat):(nI ks).all flatV=true:=by
 unfold nI;rw[XU];exact FL.mpr λ_ _=>rfl
def QT(K:As):Sp:=λvs H Q _=>∃(b:Addr) (st:StO) (p:Nat),vs=[.ref b,.int p]/\StAt K H b st/\p<st.length/\st.length<=10/\∀(t:Addr) (H':Hp),Same H H'->StAt K H' t (dropW st p)->Q (.ref t) H'
section
variable{P:AK}{w:AR}{K:As}{mg:Str->Option Au}{base:Heap}{f C D:Addr}{fd:BV}
theorem QK:FnScope ["state","point","rest","heads"] ["state","point"] (Ag Ka):=⟨rfl,rfl,rfl,by decide +kernel,rfl,by decide +kernel,by decide +kernel⟩
theorem ACa{fU:Addr}{fdU:BV}(F:Fun K "heads_without" "heads_without" Ka f fd)(T:Txt K mg C)
  (GU:FnOk P w K mg base CX0 1 fU fdU ["heads","head"] (Qg K)) (bU:Binds K fdU ["heads","head"] []) (kU:AW K (.ref fU)=true) (mU:mg "points_under" = some (.ref fU)) :
  FnOk P w K mg base CX0 2 f fd ["state","point"] (QT K):=by
 refine F.ok QK (λvs H Q E h=>?_) (λcdv A outer s H vs Q E hr h=>?_)
 ·obtain ⟨b,st,p,rfl,_⟩:=h
  rfl
 obtain ⟨b,st,p,rfl,hb,pl,s10,q⟩:=h;refine ⟨_,Ad (Av (i:=2) QK.nd rfl (HR rfl) (Bo (Ag Ka) ["other"] ["point"] [1] rfl rfl (by decide +kernel) ⟨⟨rfl,by decide +kernel⟩,trivial⟩ (Bv (Ay GU hr rfl mU kU bU .nil pass0 (Aa (pv 0) (Aa (BK Bj (pv 0) (pv 1) (λ_ _=>rfl)) Ac))))
   (λ_ _ _=>Aq (i:=0) (show ((["other"]:List Str)++(["point"]:List Str)).Nodup by decide +kernel) rfl (BC rfl))
   (λ_ _ _=>Bt (Ao Nt (pv 0) (pv 1) (nomark _))) (λ_ _ _=>pv 0)))
  (Ad (Jv (i:=3) (Ag Ka) ["other","head"] ["rest"] [2] QK.nd rfl (BC rfl) rfl rfl (by decide +kernel) ⟨⟨rfl,by decide +kernel⟩,trivial⟩ (Ks rfl T.enum (Aa (pv 0) Ac))
   (λ_ _ _=>Fl (K:=K) (n:=2) rfl rfl (CK (Aq (i:=0) (show ((["other","head"]:List Str)++(["rest"]:List Str)).Nodup by decide +kernel) rfl (BC rfl)) (CK (Aq (i:=1) (show ((["other","head"]:List Str)++(["rest"]:List Str)).Nodup by decide +kernel) rfl (BC rfl)) FZ)))
   (λ_ _ _=>Dp)
   (λ_ _ _=>IW (Ao (Ei (K:=K) rfl) (pv 0) (pv 2) rfl) (BK (ABQ (K:=K) rfl) (pv 2) Ah (λ_ _=>rfl)) (pv 1)))
  (Ad (ACq Wa (AFx (pv 3) (pv 1) set_list))
  (Ai (Ax (BP Bc rfl T.tuple C2 (Aa (pv 3) Ac)))))),?_⟩
 refine ⟨_,rfl,_,rfl,_,rfl,b,_,_,_,rfl,rfl,hb,QW pl,b,st,st.getD p none,rfl,hb,s10,λl H1 s1 hl el=>?_⟩;refine ⟨l,rfl,⟨_,SqL.of el⟩,λR hR=>?_⟩;have hu:=AAl st p;have ul:(undW st (st.getD p none) st.length).length<=10:=BM (Cs ..) (by rw[BD];exact s10);generalize undW st (st.getD p none) st.length=us at el hu ul;refine Bl (K:=K) (a:=l) (xs:=nI us) (λj τ H2=>∃o:Option V,τ=[o,some (.int p)]/\Same H1 H2/\H2 R=some (.lst (nI ((us.take j).filter λq=>decide (q≠p))))) ⟨none,rfl,Same.new hR _,Ab⟩ (λj τ H2 _ ⟨_,_,sm,_⟩=>SqL.of (sm _ _ el)) ?_ ?_
 ·rintro j x τ H2 hx ⟨o,rfl,sm,eR⟩
  obtain ⟨k,hk,rfl⟩:=AAd hx;have fl:((us.take j).filter λq=>decide (q≠p)).length<=10:=BM (Cs ..) (by rw[BQ];lia);refine ⟨_,rfl,_,rfl,rfl,_,rfl,?_⟩;by_cases c:k=p
  ·refine iteNP (by rw[c]) ⟨_,rfl,sm,?_⟩
   rw[DM,hk,Cc,show (some k).toList=[k] from rfl,EQ (by simpa using c),EL,BI];exact eR
  ·refine iteNN (λz=>c (by injection z with z;lia)) ⟨_,rfl,_,eR,Ar (by rw[Du];lia),_,rfl,λb o e=>?_,?_⟩
   ·rw[Af (Ae e hR)]
    exact sm b o e
   ·rw[Ab,DM,hk,Cc,show (some k).toList=[k] from rfl,ER (by simpa using c)]
    unfold nI;rw[BU];rfl
 rintro τ H2 ⟨o,rfl,s2,eR⟩;rw[Du,CF,<- hu] at eR;have rl:(restW st p).length<=10:=BM (Cs ..) (by rw[BD];exact s10);have hb2:StAt K H2 b st:=(s1.trans s2).ts.seq hb;refine ⟨_,rfl,b,rfl,⟨_,hb2⟩,λZ hZ=>?_⟩;refine Gz (xs:=st.map oV) (λk τ H3=>∃n t:Option V,τ=[n,t,some (.ref R)]/\Same H2 H3/\H3 Z=some (.lst ((hdsW st p k).map oV))) ⟨none,none,rfl,Same.new hZ _,Ab⟩ (λk τ H3 _ ⟨_,_,_,sm,_⟩=>sm.ts.seq hb2) ?_ ?_
 ·rintro k y τ H3 T1 hy hT1 ⟨n,t,rfl,sm,eZ⟩
  obtain ⟨kl,rfl⟩:=QZ hy;have s3:Same H3 (upd H3 T1 (.tup [.int k,oV (st.getD k none)])):=Same.new hT1 _;have sl:((hdsW st p k).map oV).length<sizeLine:=Ar (by unfold hdsW;rw[AB,AB,BD];lia);refine ⟨T1,_,rfl,SqT.of Ab,rfl,_,_,rfl,_,_,rfl,rfl,yesD ?_⟩;have eR3:=s3 _ _ (sm _ _ eR);refine ⟨_,rfl,_,rfl,R,_,rfl,.inl (SqL.of eR3),rfl,XC _,_,rfl,?_⟩;rw[if_neg (show ¬ (false=true) by decide),ABO];have fin:∀d:Option Int,d=(if k∈restW st p then some (((restW st p).headD 0:Nat):Int) else st.getD k none)->∃ys,(upd H3 T1 (.tup [.int k,oV (st.getD k none)])) Z=some (.lst ys)/\ys.length<sizeLine/\∃n t:Option V,[some (.int (k:Int)),some (oV (st.getD k none)),some (.ref R)]=[n,t,some (V.ref R)]/\Same H2 (upd (upd H3 T1 (.tup [.int k,oV (st.getD k none)])) Z (.lst (ys++[oV d])))/\(upd (upd H3 T1 (.tup [.int k,oV (st.getD k none)])) Z (.lst (ys++[oV d]))) Z=some (.lst ((hdsW st p (k+1)).map oV)):=λd ed=>by
   refine ⟨_,s3 _ _ eZ,sl,_,_,rfl,λb o e=>?_,?_⟩
   ·rw[Af (Ae e hZ)]
    exact s3 _ _ (sm b o e)
   ·rw[Ab,ABY,BU,ed]
    rfl
  by_cases cc:k∈restW st p
  ·have h0:atI (nI (restW st p)) 0=some (.int (((restW st p).headD 0:Nat):Int)):=by
    cases e:restW st p with
    | nil=>rw[e] at cc;cases cc
    | cons x xs=>exact Bm (show (nI (x::xs))[0]?=some (V.int (x:Int)) from rfl)
   exact iteP cc ⟨_,rfl,R,_,_,_,rfl,rfl,SqL.of eR3,h0,fin (some _) (by rw[if_pos cc])⟩
  ·exact iteN cc ⟨_,rfl,fin _ (by rw[if_neg cc])⟩
 rintro τ H3 ⟨n,t,rfl,s3,eZ⟩;rw[AB] at eZ;have hl:((hdsW st p st.length).map oV).length=st.length:=by unfold hdsW;rw[AB,AB,BD]
 refine ⟨_,rfl,_,rfl,Z,_,_,p,rfl,rfl,eZ,ABr (by rw[hl];exact pl),?_⟩;refine ⟨_,rfl,Z,_,rfl,.inl ⟨SqL.of Ab,λt ht=>?_⟩⟩;have s13:=s1.trans (s2.trans s3);refine q t _ (λc o e=>?_) ?_
 ·have nz:c≠Z:=Ae (s2 _ _ (s1 _ _ e)) hZ
  have e3:(upd H3 Z (.lst (((hdsW st p st.length).map oV).set p .non))) c=some o:=by rw[Af nz];exact s13 _ _ e
  rw[Af (Ae e3 ht)];exact e3
 ·refine SqT.of ?_
  rw[Ab];have:((hdsW st p st.length).map oV).set p .non=(dropW st p).map oV:=by
   unfold dropW hdsW;rw[List.map_set];rfl
  rw[this]
end
def uW:Wr:=⟨λst p=>some (dropW st p),takeW,λ_=>true,λst a b=>(∃i:Int,st.getD a none=some i)/\∃j:Int,st.getD b none=some j,λz st=>st.length=z⟩
def begW(z:Nat):StO:=(AI z).map λp=>some ((p:Nat):Int)
def Yb(K:As)(C:Addr):Sp:=λvs H Q _=>∃(r:V) (p:Addr) (z:Nat) (bs:List (List Int)),vs=[r,.ref p]/\WebAt K C H p z bs/\z<=10/\∀(b:Addr) (H':Hp),Same H H'->StAt K H' b (begW z)->Q (.ref b) H'
section
variable{P:AK}{w:AR}{K:As}{mg:Str->Option Au}{base:Heap}{f C D:Addr}{fd:BV}
theorem ADz:FnScope ["self","web"] ["self","web"] (Ag Ur):=⟨rfl,rfl,rfl,by decide +kernel,rfl,by decide +kernel,by decide +kernel⟩
theorem AAx{fS:Addr}{fdS:BV}(F:Fun K "begun" "Woods.begun" Ur f fd)(T:Txt K mg C)(GS:FnOk P w K mg base CX0 1 fS fdS ["self"] (Ve K C))(bS:Binds K fdS ["self"] [])(mS:Meth K C "size" fS) :
  FnOk P w K mg base CX0 2 f fd ["self","web"] (Yb K C):=by
 refine F.ok ADz (λvs H Q E h=>?_) (λcdv A outer s H vs Q E hr h=>?_)
 ·obtain ⟨r,p,z,bs,rfl,_⟩:=h
  rfl
 obtain ⟨r,p,z,bs,rfl,hW,z10,q⟩:=h;refine ⟨_,Ai (Ax (BP (GJ rfl) rfl T.tuple C2 (Aa (BP Fx rfl T.range Lc (Aa (CG (pv 1) T.cl mS GS hr bS .nil pass0) Ac)) Ac))),?_⟩;obtain ⟨dw,jw,hw,_⟩:=id hW;refine ⟨_,rfl,p,dw,_,rfl,hw,DW _ _ (by decide +kernel) (by decide +kernel),p,z,bs,rfl,hW,(z:Int),rfl,λR hR=>⟨R,(z:Int),rfl,Ab,by lia,by lia,λt ht=>?_⟩⟩;refine q t _ ((Same.new hR _).trans (Same.new ht _)) (SqT.of ?_);rw[Ab,CI];unfold begW below;rw[DS,DS];rfl
theorem AFV:FnScope ["self","web","state","number"] ["self","web","state","number"] (Ag ABH):=⟨rfl,rfl,rfl,by decide +kernel,rfl,by decide +kernel,by decide +kernel⟩
theorem ADU(F:Fun K "left" "Rule.left" ABH f fd):FnOk P w K mg base CX0 1 f fd ["self","web","state","number"] WK:=by
 refine F.ok AFV (λvs H Q E h=>?_) (λcdv A outer s H vs Q E hr h=>?_)
 ·obtain ⟨r,p,b,x,rfl,_⟩:=h
  rfl
 obtain ⟨r,p,b,x,rfl,q⟩:=h;exact ⟨_,Ai (Ax (pv 2)),⟨_,rfl,q⟩⟩
theorem AGI:FnScope ["self","web","state"] ["self","web","state"] (Ag AFm):=⟨rfl,rfl,rfl,by decide +kernel,rfl,by decide +kernel,by decide +kernel⟩
theorem AFp(F:Fun K "fulfilled" "Woods.fulfilled" AFm f fd):FnOk P w K mg base CX0 1 f fd ["self","web","state"] (SM uW K):=by
 refine F.ok AGI (λvs H Q E h=>?_) (λcdv A outer s H vs Q E hr h=>?_)
 ·obtain ⟨r,p,b,st,rfl,_⟩:=h
  rfl
 obtain ⟨r,p,b,st,rfl,_,q⟩:=h;exact ⟨_,Ai (Ax Kz),q⟩
theorem Xq:FnScope ["self","web","state","number","tie"] ["self","web","state","number"] (Ag VD):=⟨rfl,rfl,rfl,by decide +kernel,rfl,by decide +kernel,by decide +kernel⟩
theorem ABn{fO fT:Addr}{fdO fdT:BV}(F:Fun K "taken" "Woods.taken" VD f fd)(T:Txt K mg C)
  (GO:FnOk P w K mg base CX0 1 fO fdO ["heads","one","other"] (Xn K)) (bO:Binds K fdO ["heads","one","other"] []) (kO:AW K (.ref fO)=true) (mO:mg "parts_as_one" = some (.ref fO))
  (GT:FnOk P w K mg base CX0 1 fT fdT ["self"] (Vx K C)) (bT:Binds K fdT ["self"] []) (mT:Meth K C "ties" fT) :
  FnOk P w K mg base CX0 3 f fd ["self","web","state","number"] (Ib uW K C D):=by
 refine F.ok Xq (λvs H Q E h=>?_) (λcdv A outer s H vs Q E hr h=>?_)
 ·obtain ⟨a,p,b,dx,t,z,bs,st,rfl,_⟩:=h
  rfl
 obtain ⟨a,p,b,dx,t,z,bs,st,rfl,ha,hW,okb,hb,vl,⟨⟨i,ei⟩,⟨j,ej⟩⟩,tn,z10,q⟩:=h;have hr1:Room 1 _:=hr.mono (by decide);have vl':st.length=z:=vl;refine ⟨_,Ad (Av (i:=4) Xq.nd rfl (BC rfl) (BK Bk (CG (pv 1) T.cl mT GT hr1 bT .nil pass0) (pv 3) (λ_ _=>rfl)))
  (Ad (Bx (Ao Ci (BK Bj (pv 2) (BK Bj (pv 4) Ah (λ_ _=>rfl)) (λ_ _=>rfl)) (BK Bj (pv 2) (BK Bj (pv 4) Ah (λ_ _=>rfl)) (λ_ _=>rfl)) (nomark _)) (Ai (Ax Wa)) BW)
  (Ai (Ax (BP Bc rfl T.tuple C2 (Aa (Ay GO hr1 rfl mO kO bO .nil pass0 (Aa (pv 2) (Aa (BK Bj (pv 2) (BK Bj (pv 4) Ah (λ_ _=>rfl)) (λ_ _=>rfl)) (Aa (BK Bj (pv 2) (BK Bj (pv 4) Ah (λ_ _=>rfl)) (λ_ _=>rfl)) Ac)))) Ac))))),?_⟩
 obtain ⟨dw,jw,hw,_⟩:=id hW;refine ⟨_,rfl,p,dw,_,rfl,hw,DW _ _ (by decide +kernel) (by decide +kernel),p,z,bs,rfl,hW,λl H1 s1 hl hL=>?_⟩;obtain ⟨l',ts,el,hX,px⟩:=hL;cases el;have hbt:bs[t]?=some bs[t]:=AJ tn;obtain ⟨v,hv,rt⟩:=Paired.getL px hbt;obtain ⟨x,y,ext,xz,yz⟩:=okb bs[t] (Fc tn);have gd:bs.getD t []=bs[t]:=by rw[AD,hbt];rfl
 have ex:ea bs t=x:=by unfold ea;rw[gd,ext];rfl
 have ey:eb bs t=y:=by unfold eb;rw[gd,ext];rfl
 rw[ext] at rt;obtain ⟨tq,rfl,htq⟩:=Bq rt;rw[ex] at ei;rw[ey] at ej;have q':∀(v':V) (H':Hp),Same H H'->RS uW K z H' v' (takeW st x y)->Q v' H':=by
  rw[<- ex,<- ey];exact q
 have hb1:StAt K H1 b st:=s1.ts.seq hb;have gx:=QW (st:=st) (p:=x) (by lia);have gy:=QW (st:=st) (p:=y) (by lia);rw[ei] at gx;rw[ej] at gy;have at0':atI ([(x:Int),(y:Int)].map V.int) 0=some (.int (x:Int)):=rfl;have at1':atI ([(x:Int),(y:Int)].map V.int) 1=some (.int (y:Int)):=rfl;refine ⟨_,rfl,l,ts,_,_,rfl,rfl,hX,Bm hv,?_⟩;refine ⟨_,rfl,_,rfl,tq,_,_,_,rfl,rfl,htq,at0',b,_,_,_,rfl,rfl,hb1,gx,_,rfl,_,rfl,tq,_,_,_,rfl,rfl,htq,at1',b,_,_,_,rfl,rfl,hb1,gy,rfl,_,rfl,?_⟩;have tk:takeW st x y=if (some i:Option Int)=some j then none else some (joinW st i j):=by
  unfold takeW;rw[ei,ej]
 by_cases c:i=j
 ·refine iteP (by rw[c]) (q' _ _ s1 ?_)
  rw[tk,if_pos (by rw[c])];exact rfl
 ·refine iteN (λe=>c (V.int.inj e)) ?_
  rw[tk,if_neg (λe=>c (BH e))] at q';refine ⟨_,rfl,_,rfl,_,rfl,tq,_,_,_,rfl,rfl,htq,at0',b,_,_,_,rfl,rfl,hb1,gx,_,rfl,_,rfl,tq,_,_,_,rfl,rfl,htq,at1',b,_,_,_,rfl,rfl,hb1,gy,b,st,i,j,rfl,hb1,by lia,λl2 H2 s2 hl2 el2=>?_⟩;refine ⟨l2,_,rfl,.inl ⟨SqL.of el2,λt2 ht2=>q' _ _ (s1.trans (s2.trans (Same.new ht2 _))) ⟨t2,rfl,SqT.of Ab,?_⟩⟩⟩;show (joinW st i j).length=z;unfold joinW;rw[AB];exact vl'
end
end K43
end
section
namespace G
def comW(st:StO):List (Option Int):=st.filter λh=>decide (h≠none)
def undT(st:StO)(c:Option Int)(j:Nat):List Nat:=(AI j).filter λq=>decide (st.getD q none=c)
def passT(st:StO)(p:Nat):Option StO:=if 1<(comW st).length/\undT st (st.getD p none) st.length=[p] then none else some (dropW st p)
def passTs:StO->List Nat->Option StO
 | st,[]=>some st
 | st,p::ps=>(passT st p).bind λs=>passTs s ps
def conn(z:Nat)(U:Nat->Prop)(F:Nat->Int):Prop:=∀q r,q<z->r<z->U q->U r->F q=F r
section
variable{ea eb:Nat->Nat}
theorem Xg{p q:Nat}:∀(s:List Nat) (lab:Nat->Int),lab p=lab q->finL ea eb lab s p=finL ea eb lab s q
 | [],_,h=>h
 | x::xs,lab,h=>Xg xs (mergeL lab (ea x) (eb x)) (by unfold mergeL;rw[h])
theorem Ro{z:Nat}{U:Nat->Prop}{p:Nat}:∀(s:List Nat) (lab:Nat->Int),(∀x∈s,U (ea x)/\U (eb x))->(∀u,U u->lab u≠lab p)->finL ea eb lab s p=lab p/\∀u,U u->finL ea eb lab s u≠lab p
 | [],_,_,h=>⟨rfl,h⟩
 | x::xs,lab,hs,h=>by
  obtain ⟨ua,ub⟩:=hs x AC;have na:=h _ ua;have nb:=h _ ub;have e:mergeL lab (ea x) (eb x) p=lab p:=by
   unfold mergeL;rw[if_neg (by lia)]
  have:=Ro (z:=z) (U:=U) (p:=p) xs (mergeL lab (ea x) (eb x)) (λy hy=>hs y (AG _ hy)) (λu hu=>by
   rw[e];have:=h u hu;unfold mergeL;split<;>lia)
  rw[e] at this;exact this
end
section
variable{z:Nat}{U:Nat->Prop}{st:StO}{lab:Nat->Int}{p:Nat}
theorem ABZ{c:Option Int}{j q:Nat}:q∈undT st c j↔q<j/\st.getD q none=c:=by
 unfold undT;rw[BS,AS,decide_eq_true_iff]
theorem Oj(W:WdR z U st lab)(pz:p<z)(up:U p):undT st (st.getD p none) st.length=[p]↔∀q,q<z->U q->q≠p->lab q≠lab p:=by
 have L:=W.len;obtain ⟨hp,ep,_⟩:=W.hd p pz up;have key:∀q,q∈undT st (st.getD p none) st.length↔q<z/\st.getD q none=st.getD p none:=λq=>by rw[ABZ,L]
 constructor
 ·intro e q qz uq qp le
  have:q∈undT st (st.getD p none) st.length:=(key q).mpr ⟨qz,(W.eq q p qz pz uq up).mpr le⟩;rw[e] at this;exact qp (Bn.mp this)
 ·intro h
  have only:∀q,q∈undT st (st.getD p none) st.length↔q=p:=λq=>by
   rw[key];constructor
   ·rintro⟨qz,e⟩
    refine BO λne=>?_;have uq:U q:=BO λnu=>by
     have:=W.no q qz nu;rw[this,ep] at e;cases e
    exact h q qz uq ne ((W.eq q p qz pz uq up).mp e)
   ·rintro rfl
    exact ⟨pz,rfl⟩
  have nd:(undT st (st.getD p none) st.length).Nodup:=(D5).filter _;generalize undT st (st.getD p none) st.length=l at only nd
  match l,only,nd with
  | [],only,_=>exact absurd ((only p).mpr rfl) (λz=>nomatch z)
  | [x],only,_=>rw[(only x).mp AC]
  | x::y::r,only,nd =>
   have h1:=(only x).mp AC;have h2:=(only y).mp (AG _ AC);have:=(CU.mp nd).1;rw[h1,h2] at this;exact absurd AC this
theorem Rq(W:WdR z U st lab)(pz:p<z)(up:U p):1<(comW st).length↔∃q,q<z/\U q/\q≠p:=by
 have L:=W.len;have e:(comW st).length=((AI z).filter λq=>decide (st.getD q none≠none)).length:=by
  have es:st=(AI z).map λq=>st.getD q none:=by
   apply EV;intro i;by_cases c:i<st.length
   ·rw[A2,D8 (by lia),AJ c]
    simp[c]
   ·rw[A2,Ee (by lia),Ee (by rw[BD];lia)]
    rfl
  unfold comW
  conv=>lhs;rw[es,Mc,AB]
  rfl
 rw[e];have mem:∀q,q∈(AI z).filter (λq=>decide (st.getD q none≠none))↔q<z/\U q:=λq=>by
  rw[BS,AS,decide_eq_true_iff];constructor
  ·rintro⟨qz,n⟩
   exact ⟨qz,BO λnu=>n (W.no q qz nu)⟩
  ·rintro⟨qz,uq⟩
   obtain ⟨h,e,_⟩:=W.hd q qz uq;exact ⟨qz,by rw[e];intro z;cases z⟩
 have nd:((AI z).filter λq=>decide (st.getD q none≠none)).Nodup:=(D5).filter _;generalize (AI z).filter (λq=>decide (st.getD q none≠none))=l at mem nd;constructor
 ·intro h
  match l,h,mem,nd with
  | [],h,_,_=>exact absurd h (by decide)
  | [x],h,_,_=>exact absurd h (by simp)
  | x::y::r,_,mem,nd =>
   have m1:=(mem x).mp AC;have m2:=(mem y).mp (AG _ AC);by_cases c:x=p
   ·refine ⟨y,m2.1,m2.2,λe=>?_⟩
    have:=(CU.mp nd).1;rw[c,e] at this;exact this AC
   ·exact ⟨x,m1.1,m1.2,c⟩
 ·rintro⟨q,qz,uq,qp⟩
  have m1:=(mem p).mpr ⟨pz,up⟩;have m2:=(mem q).mpr ⟨qz,uq⟩
  match l,m1,m2 with
  | [],m1,_=>cases m1
  | [x],m1,m2=>exact absurd ((Bn.mp m2).trans (Bn.mp m1).symm) qp
  | x::y::r,_,_=>simp
theorem WdR.passT{ea eb:Nat->Nat}(W:WdR z U st lab)(pz:p<z)(up:U p)(s:List Nat)(hs:∀x∈s,(U (ea x)/\ea x≠p)/\(U (eb x)/\eb x≠p))(hz:∀x∈s,ea x<z/\eb x<z) :
  (G.passT st p=none/\¬ conn z U (finL ea eb lab s))\/(G.passT st p=some (dropW st p)/\WdR z (λq=>U q/\q≠p) (dropW st p) lab/\(conn z U (finL ea eb lab s)↔conn z (λq=>U q/\q≠p) (finL ea eb lab s))):=by
 unfold G.passT;by_cases c:1<(comW st).length/\undT st (st.getD p none) st.length=[p]
 ·refine .inl ⟨if_pos c,λh=>?_⟩
  obtain ⟨q,qz,uq,qp⟩:=(Rq W pz up).mp c.1;have al:=(Oj W pz up).mp c.2;obtain ⟨f1,f2⟩:=Ro (z:=z) (ea:=ea) (eb:=eb) (U:=λu=>u<z/\U u/\u≠p) (p:=p) s lab (λx hx=>⟨⟨(hz x hx).1,(hs x hx).1⟩,⟨(hz x hx).2,(hs x hx).2⟩⟩) (λu hu=>al u hu.1 hu.2.1 hu.2.2);exact f2 q ⟨qz,uq,qp⟩ ((h q p qz pz uq up).trans f1)
 ·refine .inr ⟨if_neg c,W.drop pz up,λh q r qz rz uq ur=>h q r qz rz uq.1 ur.1,λh=>?_⟩
  by_cases c1:∃q,q<z/\U q/\q≠p
  ·have na:¬ ∀q,q<z->U q->q≠p->lab q≠lab p:=λh2=>c ⟨(Rq W pz up).mpr c1,(Oj W pz up).mpr h2⟩
   obtain ⟨u,uz,uu,unp,eu⟩:∃u,u<z/\U u/\u≠p/\lab u=lab p:=BO λz=>na λq a b d e=>z ⟨q,a,b,d,e⟩;have fu:finL ea eb lab s u=finL ea eb lab s p:=Xg s lab eu;intro q r qz rz uq ur;by_cases cq:q=p<;>by_cases cr:r=p
   ·rw[cq,cr]
   ·rw[cq,<- fu];exact h u r uz rz ⟨uu,unp⟩ ⟨ur,cr⟩
   ·rw[cr,<- fu];exact h q u qz uz ⟨uq,cq⟩ ⟨uu,unp⟩
   ·exact h q r qz rz ⟨uq,cq⟩ ⟨ur,cr⟩
  ·intro q r qz rz uq ur
   have e:∀x,x<z->U x->x=p:=λx xz ux=>BO λn=>c1 ⟨x,xz,ux,n⟩;rw[e q qz uq,e r rz ur]
theorem Fd{U':Nat->Prop}{F:Nat->Int}(h:∀p,p<z->(U p↔U' p)):conn z U F↔conn z U' F :=
 ⟨λc q r qz rz uq ur=>c q r qz rz ((h q qz).mpr uq) ((h r rz).mpr ur),λc q r qz rz uq ur=>c q r qz rz ((h q qz).mp uq) ((h r rz).mp ur)⟩
theorem WdR.passTs{ea eb:Nat->Nat}:∀(ps:List Nat) {U:Nat->Prop}{st:StO},WdR z U st lab->ps.Nodup->(∀p∈ps,p<z/\U p)->∀(s:List Nat),(∀x∈s,(U (ea x)/\ea x∉ps)/\(U (eb x)/\eb x∉ps))->(∀x∈s,ea x<z/\eb x<z) ->
  (G.passTs st ps=none/\¬ conn z U (finL ea eb lab s))\/(∃st',G.passTs st ps=some st'/\WdR z (λq=>U q/\q∉ps) st' lab/\(conn z U (finL ea eb lab s)↔conn z (λq=>U q/\q∉ps) (finL ea eb lab s)))
 | [],U,st,W,_,_,s,_,_=>.inr ⟨st,rfl,W.congr λp _=>⟨λh=>⟨h,by simp⟩,λh=>h.1⟩,Fd λp _=>⟨λh=>⟨h,by simp⟩,λh=>h.1⟩⟩
 | p::ps,U,st,W,nd,h,s,hs,hz=>by
  obtain ⟨n1,n2⟩:=CU.mp nd;obtain ⟨pz,up⟩:=h p AC;have hs1:∀x∈s,(U (ea x)/\ea x≠p)/\(U (eb x)/\eb x≠p):=λx hx=>⟨⟨(hs x hx).1.1,λe=>(hs x hx).1.2 (by rw[e];exact AC)⟩,⟨(hs x hx).2.1,λe=>(hs x hx).2.2 (by rw[e];exact AC)⟩⟩;rcases W.passT pz up s hs1 hz with⟨e,c⟩ | ⟨e,W1,c⟩
  ·exact .inl ⟨by show (G.passT st p).bind _=none;rw[e];rfl,c⟩
  ·have e2:G.passTs st (p::ps)=G.passTs (dropW st p) ps:=by show (G.passT st p).bind _=_;rw[e];rfl
   have cg:∀q,q<z->(((U q/\q≠p)/\q∉ps)↔(U q/\q∉p::ps)):=λq _=>by
    rw[Be,not_or];exact ⟨λ⟨⟨a,b⟩,c⟩=>⟨a,b,c⟩,λ⟨a,b,c⟩=>⟨⟨a,b⟩,c⟩⟩
   rcases WdR.passTs ps W1 n2 (λq hq=>⟨(h q (AG _ hq)).1,(h q (AG _ hq)).2,λe=>n1 (e ▸ hq)⟩) s (λx hx=>⟨⟨(hs1 x hx).1,λm=>(hs x hx).1.2 (AG _ m)⟩,⟨(hs1 x hx).2,λm=>(hs x hx).2.2 (AG _ m)⟩⟩) hz with⟨e3,c3⟩ | ⟨st',e3,W3,c3⟩
   ·exact .inl ⟨e2.trans e3,λh=>c3 (c.mp h)⟩
   ·exact .inr ⟨st',e2.trans e3,W3.congr cg,c.trans (c3.trans (Fd cg))⟩
end
open Classical in
theorem AAb{z n:Nat}{ea eb L:Nat->Nat}(hz:∀x,x<n->ea x<z/\eb x<z/\x<L (ea x)/\x<L (eb x))(hL:∀p,p<z->L p<=n):∀(d t:Nat) (st:StO) (lab:Nat->Int) (s:List Nat),t+d=n->WdR z (λp=>t<=L p) st lab->s.Pairwise (· < ·)->(∀x∈s,t<=x/\x<n) ->
  semO (λ_ st=>some st) (λt st=>takeW st (ea t) (eb t)) (λt st=>passTs st ((AI z).filter λp=>decide (L p=t))) (λ_=>true) d t (some st) s=(acyc ea eb lab s&&decide (conn z (λp=>t<=L p) (finL ea eb lab s))):=by
 intro d
 induction d with
 | zero =>
  intro t st lab s e W pw hs;cases s with
  | cons x xs =>
   have:=hs x AC;lia
  | nil =>
   show (match passTs st ((AI z).filter λp=>decide (L p=t)) with | none=>false | some st=>true&&decide (([]:List Nat)=[]))=_;have nd:((AI z).filter λp=>decide (L p=t)).Nodup:=(D5).filter _;rcases W.passTs (ea:=ea) (eb:=eb) _ nd (λp hp=>by
    obtain ⟨h1,h2⟩:=BS.mp hp;exact ⟨AS.mp h1,by have:=of_decide_eq_true h2;lia⟩) [] (λx hx=>by cases hx) (λx hx=>by cases hx) with⟨e3,c3⟩ | ⟨st',e3,W3,c3⟩
   ·rw[e3]
    exact (PF.mpr (.inr (decide_eq_false c3))).symm
   ·rw[e3]
    have:conn z (λp=>t<=L p) (finL ea eb lab []):=c3.mpr λq r qz rz uq ur=>by
     refine absurd (BS.mpr ⟨AS.mpr qz,decide_eq_true ?_⟩) uq.2;have:=hL q qz;have:=uq.1;lia
    rw[decide_eq_true this];rfl
 | succ d ih =>
  intro t st lab s e W pw hs;have nd:((AI z).filter λp=>decide (L p=t)).Nodup:=(D5).filter _;have inU:∀x∈s,((t<=L (ea x))/\ea x∉(AI z).filter λp=>decide (L p=t))/\((t<=L (eb x))/\eb x∉(AI z).filter λp=>decide (L p=t)):=λx hx=>by
   obtain ⟨h1,h2⟩:=hs x hx;obtain ⟨az,bz,la,lb⟩:=hz x h2;refine ⟨⟨by lia,λm=>?_⟩,⟨by lia,λm=>?_⟩⟩
   ·have:=of_decide_eq_true (BS.mp m).2
    lia
   ·have:=of_decide_eq_true (BS.mp m).2
    lia
  have cg:∀p,p<z->((t<=L p/\p∉(AI z).filter λp=>decide (L p=t))↔t+1<=L p):=λp pz=>by
   rw[BS,AS,decide_eq_true_iff];constructor
   ·rintro⟨h1,h2⟩
    have:¬ L p=t:=λe=>h2 ⟨pz,e⟩;lia
   ·intro h
    exact ⟨by lia,λh2=>by lia⟩
  show (match passTs st ((AI z).filter λp=>decide (L p=t)) with
   | none=>false
   | some st=>stepO (λ_ st=>some st) (λt st=>takeW st (ea t) (eb t)) t (semO (λ_ st=>some st) (λt st=>takeW st (ea t) (eb t)) (λt st=>passTs st ((AI z).filter λp=>decide (L p=t))) (λ_=>true) d (t+1)) st s)=_
  rcases W.passTs (ea:=ea) (eb:=eb) _ nd (λp hp=>by
    obtain ⟨h1,h2⟩:=BS.mp hp;exact ⟨AS.mp h1,by have:=of_decide_eq_true h2;lia⟩) s inU (λx hx=>⟨(hz x (hs x hx).2).1,(hz x (hs x hx).2).2.1⟩) with⟨e3,c3⟩ | ⟨st2,e3,W2',c3⟩
  ·rw[e3]
   exact (PF.mpr (.inr (decide_eq_false c3))).symm
  have W2:=W2'.congr cg;have c2:=c3.trans (Fd cg);have c4:decide (conn z (λp=>t<=L p) (finL ea eb lab s))=decide (conn z (λp=>t+1<=L p) (finL ea eb lab s)):=decide_eq_decide.mpr c2;rw[e3,c4];clear c3 c4 c2 e3 W2';cases s with
  | nil=>exact ih (t+1) st2 lab [] (by lia) W2 .nil λx hx=>by cases hx
  | cons x xs =>
   obtain ⟨p1,p2⟩:=Cf.mp pw;obtain ⟨x1,x2⟩:=hs x AC;have hs':∀y∈xs,x+1<=y/\y<n:=λy hy=>⟨p1 y hy,(hs y (AG _ hy)).2⟩;show (if x<t then false else if x=t then semO (λ_ st=>some st) (λt st=>takeW st (ea t) (eb t)) (λt st=>passTs st ((AI z).filter λp=>decide (L p=t))) (λ_=>true) d (t+1) (takeW st2 (ea t) (eb t)) xs else semO (λ_ st=>some st) (λt st=>takeW st (ea t) (eb t)) (λt st=>passTs st ((AI z).filter λp=>decide (L p=t))) (λ_=>true) d (t+1) (some st2) (x::xs))=_;rw[if_neg (by lia)];by_cases c:x=t
   ·subst c
    rw[if_pos rfl];obtain ⟨az,bz,la,lb⟩:=hz x x2;by_cases ce:lab (ea x)=lab (eb x)
    ·rw[W2.ring az bz la lb ce]
     show _=((!decide (lab (ea x)=lab (eb x))&&_)&&_);rw[decide_eq_true ce];cases d<;>rfl
    ·obtain ⟨st3,e3,W3⟩:=W2.join az bz la lb ce
     rw[e3,ih (x+1) st3 _ xs (by lia) W3 p2 hs'];show _=((!decide (lab (ea x)=lab (eb x))&&_)&&_);rw[decide_eq_false ce];rfl
   ·rw[if_neg c]
    refine ih (t+1) st2 lab (x::xs) (by lia) W2 pw λy hy=>?_;rcases Be.mp hy with rfl | hy
    ·lia
    ·have:=hs' y hy
     lia
theorem Sw{z k:Nat}{F:Nat->Int}(D:Dst z F k)(z1:1<=z){U:Nat->Prop}(hU:∀p,U p):conn z U F↔k=1:=by
 obtain ⟨us,nd,mem,len⟩:=D;subst len;constructor
 ·intro h
  have h0:F 0∈us:=(mem _).mpr ⟨0,z1,rfl⟩;have all:∀x∈us,x=F 0:=λx hx=>by
   obtain ⟨p,pz,e⟩:=(mem x).mp hx;rw[<- e];exact h p 0 pz z1 (hU _) (hU _)
  match us,nd,h0,all with
  | [],_,h0,_=>cases h0
  | [x],_,_,_=>rfl
  | x::y::r,nd,_,all =>
   have h1:=all x AC;have h2:=all y (AG _ AC);have:=(CU.mp nd).1;rw[h1,<- h2] at this;exact absurd AC this
 ·intro e q r qz rz _ _
  match us,e,mem with
  | [x],_,mem =>
   have h1:=Bn.mp ((mem _).mpr ⟨q,qz,rfl⟩);have h2:=Bn.mp ((mem _).mpr ⟨r,rz,rfl⟩);rw[h1,h2]
def span(ea eb:Nat->Nat):(Nat->Int)->List Nat->List Nat
 | _,[]=>[]
 | lab,x::xs=>if lab (ea x)=lab (eb x) then span ea eb lab xs else x::span ea eb (mergeL lab (ea x) (eb x)) xs
section
variable{ea eb:Nat->Nat}
theorem Lg:∀(xs:List Nat) (lab:Nat->Int),(span ea eb lab xs).Sublist xs
 | [],_=>.slnil
 | x::xs,lab=>by
  unfold span;split
  ·exact (Lg xs lab).cons x
  ·exact (Lg xs _).cons_cons x
set_option tactic.hygienic true in
theorem JM:∀(xs:List Nat) (lab:Nat->Int),acyc ea eb lab (span ea eb lab xs)=true
 | [],_=>rfl
 | x::xs,lab=>by
  unfold span;split
  ·exact JM xs lab
  ·rename_i h
   show (!decide (lab (ea x)=lab (eb x))&&_)=true;rw[decide_eq_false h,JM xs];rfl
set_option tactic.hygienic true in
theorem Lr:∀(xs:List Nat) (lab:Nat->Int),finL ea eb lab (span ea eb lab xs)=finL ea eb lab xs
 | [],_=>rfl
 | x::xs,lab=>by
  unfold span;split
  ·rename_i h
   rw[Lr xs lab];show _=finL ea eb (mergeL lab (ea x) (eb x)) xs;rw[Lq h]
  ·exact Lr xs _
def Crs(lab lab':Nat->Int):Prop:=∀p q,lab p=lab q->lab' p=lab' q
theorem Crs.merge{lab lab':Nat->Int}(h:Crs lab lab')(a b:Nat):Crs (mergeL lab a b) (mergeL lab' a b):=λp q e=>JL.mpr ((JL.mp e).imp (h p q) λ⟨c1,c2⟩=>⟨c1.imp (h p a) (h p b),c2.imp (h q a) (h q b)⟩)
theorem Crs.up{lab lab':Nat->Int}(h:Crs lab lab')(a b:Nat):Crs lab (mergeL lab' a b):=λp q e=>by
 unfold mergeL;rw[h p q e]
theorem Crs.fin{s xs:List Nat}(l:s.Sublist xs):∀{lab lab':Nat->Int},Crs lab lab'->Crs (finL ea eb lab s) (finL ea eb lab' xs):=by
 induction l with
 | slnil=>exact λh=>h
 | cons x _ ih=>exact λh=>ih (h.up _ _)
 | cons_cons x _ ih=>exact λh=>ih (h.merge _ _)
theorem Ry:∀{s:List Nat}{lo k:Nat},s.Pairwise (· < ·)->(∀x∈s,lo<=x/\x<lo+k)->s.Sublist (LN lo k)
 | [],lo,k,_,_=>List.nil_sublist _
 | x::xs,lo,k,pw,h=>by
  obtain ⟨h1,h2⟩:=Cf.mp pw;obtain ⟨h3,h4⟩:=h x AC;have ih:=Ry (s:=xs) (lo:=x+1) (k:=lo+k-(x+1)) h2 λy hy=>⟨h1 y hy,by have:=(h y (AG _ hy)).2;lia⟩;have e:LN lo k=LN lo (x-lo)++(x::LN (x+1) (lo+k-(x+1))):=by
   have e1:x::LN (x+1) (lo+k-(x+1))=LN x (lo+k-x):=by
    rw[show lo+k-x=(lo+k-(x+1))+1 by lia,List.range'_succ]
   rw[e1];have:=List.range'_append_1 (s:=lo) (m:=x-lo) (n:=lo+k-x);rw[show lo+(x-lo)=x by lia] at this;rw[this]
   congr 1
   lia
  rw[e];exact (ih.cons_cons x).trans (List.sublist_append_right _ _)
theorem Yc{z n:Nat}{lab:Nat->Int}{U:Nat->Prop}:(∃s:List Nat,s.Pairwise (· < ·)/\(∀x∈s,x<n)/\acyc ea eb lab s=true/\conn z U (finL ea eb lab s))↔conn z U (finL ea eb lab (AI n)):=by
 constructor
 ·rintro⟨s,pw,lt,_,c⟩
  have sub:s.Sublist (AI n):=by
   rw[List.range_eq_range'];exact Ry pw λx hx=>⟨A8 _,by have:=lt x hx;lia⟩
  intro q r qz rz uq ur;exact Crs.fin sub (λp q e=>e) q r (c q r qz rz uq ur)
 ·intro c
  have sub:=Lg (ea:=ea) (eb:=eb) (AI n) lab;exact ⟨span ea eb lab (AI n),JY.sublist sub,λx hx=>AS.mp (sub.subset hx),JM _ _,by rw[Lr];exact c⟩
end
theorem Pk{n:Nat}{rows:List Row}(L:Least n rows):∀(f k:Nat),k<f->Knot rows k->k≠0->∃s,led rows k s=true
 | 0,k,h,_,_=>absurd h (UP _)
 | f+1,k,h,kn,k0=>by
  by_cases c:k=1
  ·subst c
   exact ⟨[],by rw[Cu];rfl⟩
  ·have k2:2<=k:=by lia
   have kl:k-2<rows.length:=by
    have:k<rows.length+2:=kn;lia
   have hr:rows[k-2]?=some rows[k-2]:=AJ kl;have ed:rows.getD (k-2) (0,0,0)=rows[k-2]:=by rw[AD,hr];rfl
   have pos:=L.pos _ _ hr;obtain ⟨_,_,lo⟩:=L.ok _ _ hr;have l1:(rows[k-2]).2.2<k:=by
    have:=lo.1;lia
   obtain ⟨s,hs⟩:=Pk L f (rows[k-2]).2.2 (by lia) (by show _<rows.length+2;lia) (by lia);refine ⟨(rows[k-2]).1::s,?_⟩;rw[Bf L.ok kn k2,ed,if_neg (FI _),if_pos rfl];exact hs
end G
end
section
namespace K43
open PySem L2 G
def uT:Wr:=⟨passT,takeW,λ_=>true,λst a b=>(∃i:Int,st.getD a none=some i)/\∃j:Int,st.getD b none=some j,λz st=>st.length=z⟩
theorem Qm:∀(ps:List Nat) (st:StO),passU uT st ps=passTs st ps
 | [],st=>rfl
 | p::ps,st=>by
  show (passT st p).bind (λs=>passU uT s ps)=(passT st p).bind λs=>passTs s ps;rw[show (λs=>passU uT s ps)=λs=>passTs s ps from funext λs=>Qm ps s]
theorem Jd:∀(ps:List Nat) {st st':StO},passTs st ps=some st'->st'=passW st ps
 | [],st,st',h=>by cases h;rfl
 | p::ps,st,st',h=>by
  have h':(passT st p).bind (λs=>passTs s ps)=some st':=h;unfold passT at h';split at h'
  ·cases h'
  ·exact Jd ps h'
theorem ACR{st:StO}{k:Nat}{c:Option Int}(h:st[k]?=some c):comW (st.take (k+1))=comW (st.take k)++if c=none then [] else [c]:=by
 unfold comW;rw[DM,h,Cc]
 congr 1
 by_cases e:c=none
 ·rw[if_pos e,e];rfl
 ·rw[if_neg e]
  show List.filter (λh=>decide (h≠none)) [c]=[c];rw[ER (p:=λh:Option Int=>decide (h≠none)) (decide_eq_true e)];rfl
section
variable{P:AK}{w:AR}{K:As}{mg:Str->Option Au}{base:Heap}{f C D:Addr}{fd:BV}
theorem Oh:FnScope ["self","web","state","point","coming"] ["self","web","state","point"] (Ag Hv):=⟨rfl,rfl,rfl,by decide +kernel,rfl,by decide +kernel,by decide +kernel⟩
theorem Wq{fH fU:Addr}{fdH fdU:BV}(F:Fun K "passed" "Trees.passed" Hv f fd)(T:Txt K mg C)
  (GH:FnOk P w K mg base CX0 2 fH fdH ["state","point"] (QT K)) (bH:Binds K fdH ["state","point"] []) (kH:AW K (.ref fH)=true) (mH:mg "heads_without" = some (.ref fH))
  (GU:FnOk P w K mg base CX0 1 fU fdU ["heads","head"] (Qg K)) (bU:Binds K fdU ["heads","head"] []) (kU:AW K (.ref fU)=true) (mU:mg "points_under" = some (.ref fU)) :
  FnOk P w K mg base CX0 3 f fd ["self","web","state","point"] (Tc uT K D):=by
 refine F.ok Oh (λvs H Q E h=>?_) (λcdv A outer s H vs Q E hr h=>?_)
 ·obtain ⟨p,b,dx,a,q,z,st,rfl,_⟩:=h
  rfl
 obtain ⟨p,b,dx,a,qp,z,st,rfl,ha,hb,vl,qz,z10,q⟩:=h;have vl':st.length=z:=vl;have hr1:Room 1 _:=hr.mono (by decide);refine ⟨_,Ad (Jv (i:=4) (Ag Hv) ["head"] [] [] Oh.nd rfl (BC rfl) rfl rfl (by decide +kernel) trivial (AAm (pv 2))
    (λ_ _ _=>Aq (i:=0) (show ((["head"]:List Str)++([]:List Str)).Nodup by decide +kernel) rfl (BC rfl)) (λ_ _ _=>Bt (Iw (Xc (pv 0)))) (λ_ _ _=>pv 0))
  (Ad (Bx (PW.pt (VL (Ao JT (BJ Aw rfl T.len CL (Aa (pv 4) Ac)) Ah (nomark _))
    (Pq (Ao (Iv Dy (Cg hr)) (Ay GU hr1 rfl mU kU bU .nil pass0 (Aa (pv 2) (Aa (BK Bj (pv 2) (pv 3) (λ_ _=>rfl)) Ac))) (Ce (Aa (pv 3) Ac)) (nomark _))))) (Ai (Ax Wa)) BW)
  (Ai (Ax (Ay GH hr rfl mH kH bH .nil pass0 (Aa (pv 2) (Aa (pv 3) Ac)))))),?_⟩
 refine ⟨_,rfl,b,rfl,⟨_,hb⟩,λZ hZ=>?_⟩;refine JD (K:=K) (a:=b) (xs:=st.map oV) (λk τ H2=>∃n:Option V,τ=[n]/\Same H H2/\H2 Z=some (.lst ((comW (st.take k)).map oV))) ⟨none,rfl,Same.new hZ _,Ab⟩ (λk τ H2 _ ⟨_,_,sm,_⟩=>sm.ts.seq hb) ?_ ?_
 ·rintro k y τ H2 hy ⟨n,rfl,sm,eZ⟩
  obtain ⟨kl,rfl⟩:=QZ hy;have hk:st[k]?=some (st.getD k none):=by rw[AD,AJ kl];rfl
  have cs:=ACR hk;generalize st.getD k none=c at hk cs;have cl:(comW (st.take k)).length<=10:=BM (Cs ..) (by rw[BQ];lia);refine ⟨_,rfl,_,rfl,?_⟩;by_cases cc:c=none
  ·refine iteNP (by rw[cc];rfl) ⟨_,rfl,sm,?_⟩
   rw[cs,if_pos cc,BI];exact eZ
  ·refine iteNN (λe=>cc (by cases c with | none=>rfl | some x=>cases e)) ⟨_,rfl,_,eZ,Ar (by rw[AB];lia),_,rfl,λb o e=>?_,?_⟩
   ·rw[Af (Ae e hZ)]
    exact sm b o e
   ·rw[Ab,cs,if_neg cc,BU]
    rfl
 rintro τ H2 ⟨n,rfl,sm,eZ⟩;rw[AB,CF] at eZ;have hb2:StAt K H2 b st:=sm.ts.seq hb;have drop:¬ (1<(comW st).length/\undT st (st.getD qp none) st.length=[qp])->∀H3,Same H2 H3->QT K [.ref b,.int qp] H3 Q E:=λn H3 s3=>by
  refine ⟨b,st,qp,rfl,s3.ts.seq hb2,by lia,by lia,λt H' s' hT=>q _ _ (sm.trans (s3.trans s')) ?_⟩;show RS uT K z H' (.ref t) (passT st qp);rw[show passT st qp=some (dropW st qp) from if_neg n];refine ⟨t,rfl,hT,?_⟩;show (dropW st qp).length=z;rw[Ms];exact vl'
 refine ⟨_,rfl,Z,_,rfl,.inl (SqL.of eZ),_,_,rfl,rfl,_,rfl,?_⟩;rw[AB];by_cases c1:1<(comW st).length
 ·refine iteP (by lia) ?_
  refine ⟨_,rfl,_,rfl,_,rfl,b,_,_,_,rfl,rfl,hb2,QW (by lia),b,st,st.getD qp none,rfl,hb2,by lia,λl H3 s3 nl el=>?_⟩;refine ⟨_,rfl,(by show 1<=sizeLine;decide),λY hY=>?_⟩;have s4:=Same.new hY (.lst [V.int (qp:Int)]);refine ⟨up (undW st (st.getD qp none) st.length),[(qp:Int)],⟨l,_,rfl,SqL.of (by rw[s4 _ _ el]),?_⟩,⟨Y,_,rfl,SqL.of Ab,paired_ints [(qp:Int)]⟩,_,rfl,?_⟩
  ·have:=paired_ints (H:=upd H3 Y (.lst [V.int (qp:Int)])) (up (undW st (st.getD qp none) st.length))
   unfold up at this;rw[DS] at this;exact this
  have ei:up (undW st (st.getD qp none) st.length)=[(qp:Int)]↔undT st (st.getD qp none) st.length=[qp]:=⟨λe=>JN (u:=[qp]) e,λe=>by show up (undT st (st.getD qp none) st.length)=_;rw[e];rfl⟩;by_cases c2:undT st (st.getD qp none) st.length=[qp]
  ·refine iteP (ei.mpr c2) (q _ _ (sm.trans (s3.trans s4)) ?_)
   show RS uT K z _ .non (passT st qp);rw[show passT st qp=none from if_pos ⟨c1,c2⟩];exact rfl
  ·exact iteN (λe=>c2 (ei.mp e)) ⟨_,rfl,_,rfl,drop (λh=>c2 h.2) _ (s3.trans s4)⟩
 ·exact iteN (by lia) (iteF ⟨_,rfl,_,rfl,drop (λh=>c1 h.1) _ (Same.refl _)⟩)
theorem ADl(h:FnOk P w K mg base CX0 1 f fd ["self","web","state"] (SM uW K)):FnOk P w K mg base CX0 1 f fd ["self","web","state"] (SM uT K):=h
theorem ZM(h:FnOk P w K mg base CX0 3 f fd ["self","web","state","number"] (Ib uW K C D)):FnOk P w K mg base CX0 3 f fd ["self","web","state","number"] (Ib uT K C D):=h
end
noncomputable def treeB(bs:List (List Int))(z:Nat)(s:List Nat):Bool:=acyc (ea bs) (eb bs) (λp=>(p:Int)) s && @decide (conn z (λ_=>True) (finL (ea bs) (eb bs) (λp=>(p:Int)) s)) (DB _)
def Wu(K:As)(C Dc S:Addr):Sp:=λvs H Q _=>∃(W r dr:Addr) (z:Nat) (bs:List (List Int)),vs=[.ref W,.ref r]/\WebAt K C H W z bs/\H r=some (.ins Dc dr [])/\1<=z/\z<=10/\bs.length<=12/\OkB z bs /\
 ∀(p:Addr) (nums:List Row) (hd:Nat) (H':Hp),Same H H'->K43s.SvAt K S H' p bs.length nums hd->Canon bs.length nums hd->(∀s:List Nat,s.Pairwise (· < ·)->(∀x∈s,x<bs.length)->led nums hd s=treeB bs z s)->nums.length<=4000->Q (.ref p) H'
def GW(bs:List (List Int))(z t:Nat)(o:Option StO):Prop:=∀st,o=some st->∃lab,WdR z (λp=>t<=Lp bs p) st lab
theorem Xd{z:Nat}{bs:List (List Int)}(h:OkB z bs){t:Nat}(tn:t<bs.length):ea bs t<z/\eb bs t<z/\t<Lp bs (ea bs t)/\t<Lp bs (eb bs t):=by
 have hbt:bs[t]?=some bs[t]:=AJ tn;obtain ⟨x,y,e,xz,yz⟩:=h bs[t] (Fc tn);have gd:bs.getD t []=bs[t]:=by rw[AD,hbt];rfl
 have ex:ea bs t=x:=by unfold ea;rw[gd,e];rfl
 have ey:eb bs t=y:=by unfold eb;rw[gd,e];rfl
 rw[ex,ey];refine ⟨xz,yz,AEp tn ?_,AEp tn ?_⟩<;>(unfold onB;rw[gd,e];simp)
theorem AAS{z t:Nat}{bs:List (List Int)}{st:StO}{lab:Nat->Int}(W:WdR z (λp=>t<=Lp bs p) st lab):WdR z (λp=>t+1<=Lp bs p) (passW st (behP bs z t)) lab:=by
 refine (W.pass _ ?_ λp hp=>?_).congr λp pz=>?_
 ·exact (D5).filter _
 ·obtain ⟨h1,h2⟩:=BS.mp hp
  exact ⟨AS.mp h1,by have:=of_decide_eq_true h2;lia⟩
 ·unfold behP
  rw[BS,AS,decide_eq_true_iff];constructor
  ·rintro⟨h1,h2⟩
   have:¬ Lp bs p=t:=λe=>h2 ⟨pz,e⟩;lia
  ·intro h
   exact ⟨by lia,λh2=>by lia⟩
theorem AFk{z:Nat}{bs:List (List Int)}(h:OkB z bs):Good uT bs z (GW bs z):=λt o st tn g e=>by
 cases o with
 | none=>cases e
 | some r =>
  obtain ⟨lab,W⟩:=g r rfl;have e':passU uT r (behP bs z t)=some st:=e;rw[Qm] at e';have e2:=Jd _ e';subst e2;have W2:=AAS W;obtain ⟨az,bz,la,lb⟩:=Xd h tn;obtain ⟨i,ei,_⟩:=W2.hd _ az la;obtain ⟨j,ej,_⟩:=W2.hd _ bz lb;refine ⟨⟨⟨_,ei⟩,⟨_,ej⟩⟩,λst' e'=>?_,λst' e'=>?_⟩
  ·cases e'
   exact ⟨lab,W2⟩
  ·by_cases c:lab (ea bs t)=lab (eb bs t)
   ·have:takU uT bs t (passW r (behP bs z t))=none:=W2.ring az bz la lb c
    rw[this] at e';cases e'
   ·obtain ⟨st3,e3,W3⟩:=W2.join az bz la lb c
    have:takU uT bs t (passW r (behP bs z t))=some st3:=e3;rw[this] at e';cases e';exact ⟨_,W3⟩
theorem AGK{z:Nat}{bs:List (List Int)}(h:OkB z bs)(s:List Nat)(pw:s.Pairwise (· < ·))(hs:∀x∈s,x<bs.length):semC uT bs z bs.length 0 (some (begW z)) s=treeB bs z s:=by
 have e:(λt r=>passU uT r (behP bs z t))=λt st=>passTs st ((AI z).filter λp=>decide (Lp bs p=t)):=by
  funext t r
  exact Qm _ r
 show semO lefU (takU uT bs) (λt r=>passU uT r (behP bs z t)) uT.fu bs.length 0 (some (begW z)) s=_;rw[e];refine (AAb (z:=z) (n:=bs.length) (ea:=ea bs) (eb:=eb bs) (L:=Lp bs) (λx xn=>Xd h xn) (λp _=>AGW) bs.length 0 (begW z) _ s (by lia) (Ng z (Lp bs)) pw λx hx=>⟨A8 _,hs x hx⟩).trans ?_;unfold treeB
 congr 1
 exact @decide_eq_decide _ _ (DB _) (DB _) |>.mpr (Fd λp _=>⟨λ_=>trivial,λ_=>A8 _⟩)
section
variable{P:AK}{w:AR}{K:As}{mg:Str->Option Au}{base:Heap}{f C D Gc S:Addr}{fd:BV}
theorem Qn:FnScope ["web","rule","growth","top"] ["web","rule"] (Ag Ul):=⟨rfl,rfl,rfl,by decide +kernel,rfl,by decide +kernel,by decide +kernel⟩
theorem ABG{fI fK fB fG:Addr}{fdI fdK fdB fdG:BV}(F:Fun K "grown" "grown" Ul f fd)(cD:Cls K D)(O:Gro K mg Gc)(M:Mk K Gc fI)
  (GI:FnOk P w K mg base CX0 3 fI fdI ["self","web","rule"] (Xr uT P w K C D Gc)) (bI:Binds K fdI ["self","web","rule"] [])
  (GK:∀d,FnOk P w K mg base CX0 (d+5) fK fdK ["self","number","reached"] (Kf uT P w K C D Gc d)) (bK:Binds K fdK ["self","number","reached"] []) (mK:Meth K Gc "knot_at" fK)
  (GB:FnOk P w K mg base CX0 2 fB fdB ["self","web"] (Yb K C)) (bB:Binds K fdB ["self","web"] []) (mB:Meth K D "begun" fB)
  (GG:FnOk P w K mg base CX0 3 fG fdG ["n","rows","top"] (K43s.Qw K S)) (bG:Binds K fdG ["n","rows","top"] []) (kG:AW K (.ref fG)=true) (mG:mg "least_graph" = some (.ref fG)) :
  FnOk P w K mg base CX0 18 f fd ["web","rule"] (Wu K C D S):=by
 refine F.ok Qn (λvs H Q E h=>?_) (λcdv A outer s H vs Q E hr h=>?_)
 ·obtain ⟨W,r,dr,z,bs,rfl,_⟩:=h
  rfl
 obtain ⟨W,r,dr,z,bs,rfl,hW,hr0,z1,z10,b8,okb,q⟩:=h;have hr2:Room 2 _:=hr.mono (by decide);have hr3:Room 3 _:=hr.mono (by decide);have hrM:Room (3+1) _:=hr.mono (by decide);have hrK:Room (bs.length+5) _:=hr.mono (by lia);refine ⟨_,Ad (Av (i:=2) Qn.nd rfl (BC rfl) (QV M GI hrM rfl O.mgG bI .nil pass0 (Aa (pv 0) (Aa (pv 1) Ac))))
  (Ad (Av (i:=3) Qn.nd rfl (BC rfl) (Dj (pv 2) O.cl mK (GK bs.length) hrK bK .nil pass0 (Aa Ah (Aa (Dj (pv 1) cD mB GB hr2 bB .nil pass0 (Aa (pv 0) Ac)) Ac))))
  (Ai (Ax (Ay GG hr3 rfl mG kG bG .nil pass0 (Aa (Bp (pv 2) rfl) (Aa (Bp (pv 2) rfl) (Aa (pv 3) Ac))))))),?_⟩
 refine ⟨_,rfl,_,rfl,λg dx hg hdx ne=>?_⟩;have hg2:(upd H dx (.own g)) g=none:=by rw[Af (DF ne)];exact hg
 have s1:=(Same.new hdx (.own g)).trans (Same.new hg2 (.ins Gc dx []));obtain ⟨dw,jw,hw,_⟩:=id hW;refine ⟨g,dx,W,r,dr,z,bs,rfl,Ab,Ae hw hg,Ae hr0 hg,hW.same s1,s1 _ _ hr0,z10,b8,λBh R Dk H2 k2 gr rw0 nR0 nD0=>⟨rfl,?_⟩⟩;have s2:Same H H2:=λb o e=>k2 _ _ (s1 _ _ e) (Ae e hg);obtain ⟨dg,hg2'⟩:=gr.ins;refine ⟨_,rfl,g,dg,_,rfl,hg2',XS _ _ _ _ _ _ (by decide +kernel) (by decide +kernel) (by decide +kernel) (by decide +kernel) (by decide +kernel) (by decide +kernel),_,rfl,r,dr,_,rfl,s2 _ _ hr0,rfl,_,rfl,_,W,z,bs,rfl,gr.web,z10,λb H3 s3 hb=>?_⟩;have rw3:=rw0.same s3;have gr3:=gr.same s3;have p2:2 ^ bs.length<=2 ^ 12:=Ki (by decide) b8;have gb:GW bs z 0 (some (begW z)):=λst e=>by
  cases e;exact ⟨_,Ng z (Lp bs)⟩
 refine ⟨g,W,r,Bh,R,Dk,z,0,bs,.ref b,some (begW z),[],[],GW bs z,rfl,by lia,gr3,z1,z10,b8,okb,AFk okb,gb,⟨b,rfl,hb,by show (begW z).length=z;unfold begW;rw[AB,BD]⟩,rw3,by show 0+_<=_;lia,λk more kvs' H4 kp rw4 ld _ cnt ml=>?_⟩;rw[UN] at rw4 ld;obtain ⟨xs3,eR3,_⟩:=id rw3.at_;obtain ⟨_,_,ax3,eD3,_⟩:=id rw3.dn;have gr4:=gr3.keep kp eR3 eD3;obtain ⟨dg4,hg4⟩:=gr4.ins;obtain ⟨xs4,eR4,px4⟩:=id rw4.at_;refine ⟨_,rfl,g,Gc,dg4,_,_,rfl,hg4,O.cl,O.nA,NT _ _ _ _ _ _,_,rfl,g,Gc,dg4,_,_,rfl,hg4,O.cl,O.nR,Px _ _ _ _ _ _,_,rfl,R,bs.length,k,more,rfl,K43s.RowsAt.of ⟨R,xs4,rfl,SqL.of eR4,px4⟩,rw4.ok,by lia,by lia,Vk rw4.ok b8 cnt k,ld.kn,λp nums hd H' s' h1 h2 h3 h4=>?_⟩;have none_back:∀{x:Addr},(upd (upd H dx (.own g)) g (.ins Gc dx [])) x=none->H x=none:=λ{x} n=>by
  cases e:H x with
  | none=>rfl
  | some o=>have:=s1 _ _ e;rw[n] at this;cases this
 refine q p nums hd H' (λb o e=>s' _ _ (kp _ _ (Ae e (none_back nR0)) (Ae e (none_back nD0)) (s3 _ _ (s2 _ _ e)))) h1 h2 (λs pw hs=>?_) h4.1;rw[h3 s,ld.eq s,AGK okb s pw hs]
end
def YX:Sp:=λvs H Q _=>∃(c:Int),vs=[.int c]/\∀z:Nat,1<=z->z<=10->Q (.int z) H
section
variable{P:AK}{w:AR}{K:As}{mg:Str->Option Au}{base:Heap}{f C:Addr}{fd:BV}
theorem AEu:FnScope ["_law_script","_law_k"] ["_law_script","_law_k"] (Ag ACG):=⟨rfl,rfl,rfl,by decide +kernel,rfl,by decide +kernel,by decide +kernel⟩
theorem ADh(F:Fun K "_law_cell_at" "_law_cell_at" ACG f fd)(T:Txt K mg C):FnOk P w K mg base CX0 1 f fd ["_law_script","_law_k"] (QB K):=by
 refine F.ok AEu (λvs H Q E h=>?_) (λcdv A outer s H vs Q E hr h=>?_)
 ·obtain ⟨a,ns,k,rfl,_⟩:=h
  rfl
 obtain ⟨a,ns,k,rfl,hS,h0,q⟩:=h;refine ⟨_,Ad (Bx (Ao Ug (pv 1) (BJ Aw rfl T.len CL (Aa (pv 0) Ac)) (nomark _)) (Ai (Ax (BK Bk (pv 0) (pv 1) (λ_ _=>rfl)))) BW) (Ai (Ax Ah)),?_⟩;refine ⟨_,rfl,_,rfl,a,_,rfl,.inl hS,_,_,rfl,rfl,_,rfl,?_⟩;refine ite2 (λc=>?_) (λc=>?_)
 ·have c':k<(((ns.map V.int).length:Nat):Int):=of_decide_eq_true c
  rw[AB] at c';obtain ⟨v,hv⟩:=ABv h0 c';exact ⟨_,rfl,_,rfl,a,_,_,_,rfl,rfl,hS,hv,q v⟩
 ·exact q 0
theorem AEh:FnScope ["_law_cell","_law_k","_law_number"] ["_law_cell","_law_k"] (Ag AFi):=⟨rfl,rfl,rfl,by decide +kernel,rfl,by decide +kernel,by decide +kernel⟩
theorem AEz(F:Fun K "_law_mixed" "_law_mixed" AFi f fd):FnOk P w K mg base CX0 1 f fd ["_law_cell","_law_k"] AEi:=by
 refine F.ok AEh (λvs H Q E h=>?_) (λcdv A outer s H vs Q E hr h=>?_)
 ·obtain ⟨c,k,rfl,_⟩:=h
  rfl
 obtain ⟨c,k,rfl,q⟩:=h;refine ⟨_,Ad (Av (i:=2) AEh.nd rfl (BC rfl) (Az Cz (Az Vr (Az Cy (Az Cy (pv 0) (Az Vr Ah (pv 1))) Ah) Ah) Ah))
  (Ai (Ax (Az Cz (Az Vr (pv 2) (pv 2)) Ah))),?_⟩
 refine ⟨_,rfl,_,rfl,_,_,rfl,rfl,.inl ⟨by decide,by decide⟩,_,_,rfl,rfl,_,_,rfl,rfl,_,_,rfl,rfl,.inr ⟨by decide,by decide⟩,_,_,rfl,rfl,(by show (0:Int)<2147483647;decide),?_⟩;have h1:=FE ((c+31*k+5)*48271) (show (2147483647:Int)≠0 by decide);have h2:=EO ((c+31*k+5)*48271) (show (0:Int)<2147483647 by decide);refine ⟨_,rfl,_,rfl,_,_,rfl,rfl,?_,_,_,rfl,rfl,(by show (0:Int)<1000003;decide),q _⟩;exact .inl ⟨by lia,by lia⟩
theorem AEW:FnScope ["_law_cell"] ["_law_cell"] (Ag Wd):=⟨rfl,rfl,rfl,by decide +kernel,rfl,by decide +kernel,by decide +kernel⟩
theorem ACJ(F:Fun K "_law_size" "_law_size" Wd f fd):FnOk P w K mg base CX0 1 f fd ["_law_cell"] YX:=by
 refine F.ok AEW (λvs H Q E h=>?_) (λcdv A outer s H vs Q E hr h=>?_)
 ·obtain ⟨c,rfl,_⟩:=h
  rfl
 obtain ⟨c,rfl,q⟩:=h;refine ⟨_,Ad (Bx (Ao Ci (Az Cz (Az DK (pv 0) Ah) Ah) Ah (nomark _)) (Ai (Ax (Az Cy Ah (Az Cz (Az DK (pv 0) Ah) Ah)))) BW)
  (Ai (Ax (Az Cy Ah (Az Cz (Az DK (pv 0) Ah) Ah)))),?_⟩
 have fin:∀x:Int,1<=x->x<=10->Q (.int x) H:=λx h1 h2=>by
  have:=q x.toNat (by lia) (by lia);rw[show ((x.toNat:Nat):Int)=x by lia] at this;exact this
 refine ⟨_,rfl,_,_,rfl,rfl,⟨by decide,by decide⟩,_,_,rfl,rfl,(by show (0:Int)<16;decide),rfl,_,rfl,?_⟩;refine ite2 (λ_=>?_) (λ_=>?_)
 ·refine ⟨_,rfl,_,_,rfl,rfl,⟨by decide,by decide⟩,_,_,rfl,rfl,(by show (0:Int)<4;decide),_,_,rfl,rfl,?_⟩
  have h1:=FE (c / 32) (show (4:Int)≠0 by decide);have h2:=EO (c / 32) (show (0:Int)<4 by decide);exact fin (7+c / 32%4) (by lia) (by lia)
 ·refine ⟨_,rfl,_,_,rfl,rfl,⟨by decide,by decide⟩,_,_,rfl,rfl,(by show (0:Int)<6;decide),_,_,rfl,rfl,?_⟩
  have h1:=FE (c / 32) (show (6:Int)≠0 by decide);have h2:=EO (c / 32) (show (0:Int)<6 by decide);exact fin (1+c / 32%6) (by lia) (by lia)
end
end K43
end
section
namespace K35
open PySem L2
theorem ABL{a b:Nat}(h:b<a):srt [(a:Int),(b:Int)]=[(b:Int),(a:Int)]:=by rw[Dt,if_pos (by lia)]
theorem Gp{a b:Nat}(h:b<a):srt [(b:Int),(a:Int)]=[(b:Int),(a:Int)]:=by rw[Dt,if_neg (by lia)]
theorem Ke{α:Type}:∀{l:List α}{j:Nat}{p:α},l[j]?=some p->(p::l.eraseIdx j).Perm l
 | [],j,p,h=>by cases h
 | a::l,0,p,h=>by
  cases h;exact K8 _
 | a::l,j+1,p,h=>(Po a p _).trans (Pl a (Ke (l:=l) (j:=j) (by simpa using h)))
theorem ADr{as ps:List (List Int)}{j:Nat}{p p':List Int}(hn:((as++ps).map srt).Nodup)(hj:ps[j]?=some p)(e:srt p'=srt p):(((as++[p'])++ps.eraseIdx j).map srt).Nodup:=by
 obtain ⟨jl,ej⟩:=AL.mp hj;have pm:(p::ps.eraseIdx j).Perm ps:=Ke hj;have e2:(((as++[p'])++ps.eraseIdx j).map srt)=((as++(p::ps.eraseIdx j)).map srt):=by
  rw[CD,BU,BU (l₁:=as)];show _++(srt p'::_)=_++(srt p::_);rw[e];rfl
 rw[e2];exact (((EZ as pm).map srt).nodup_iff).mpr hn
theorem Paired.erase{α β:Type}{F:α->β->Prop}:∀{l:List α}{m:List β},A9 F l m->∀j,A9 F (l.eraseIdx j) (m.eraseIdx j)
 | _,_,.nil,_=>.nil
 | _,_,.cons h t,0=>t
 | _,_,.cons h t,j+1=>.cons h (Paired.erase t j)
end K35
end
section
namespace K43
open PySem L2 G
def UpP(i:Nat)(t:List Int):Prop:=∃a b:Nat,t=[(a:Int),(b:Int)]/\a<b/\b<i
def newU(i j:Nat):List (List Int):=(AI j).map λ(o:Nat)=>[(o:Int),(i:Int)]
theorem Ue(i j:Nat):(newU i j).length=j:=by unfold newU;rw[AB,BD]
theorem Yr(i j:Nat):newU i (j+1)=newU i j++[[(j:Int),(i:Int)]]:=by
 unfold newU;rw[EX,BU];rfl
theorem AFT{i j:Nat}{t:List Int}(h:t∈newU i j)(ji:j<=i):UpP (i+1) t:=by
 obtain ⟨o,ho,rfl⟩:=AY.mp h;have:=AS.mp ho;exact ⟨o,i,rfl,by lia,by lia⟩
theorem ACX{i:Nat}{ps:List (List Int)}(hd:∀t∈ps,UpP i t)(hn:(ps.map srt).Nodup):((ps++newU i i).map srt).Nodup:=by
 have e:(newU i i).map srt=(AI i).map λ(o:Nat)=>[(o:Int),(i:Int)]:=by
  unfold newU;rw[DS];refine G9 λo ho=>?_;exact K35.Gp (AS.mp ho)
 rw[BU,e,HV];refine ⟨hn,?_,?_⟩
 ·unfold Mb
  rw[CS];refine D5.imp λ{a b} h z=>h ?_;injection z with z _
  lia
 ·rintro t ht u hu rfl
  obtain ⟨t0,h0,rfl⟩:=AY.mp ht;obtain ⟨a,b,rfl,ba,ai⟩:=hd t0 h0;obtain ⟨o,ho,e⟩:=AY.mp hu;rw[K35.Gp ba] at e;injection e with e1 e2
  injection e2 with e2 _
  lia
theorem Nu(ea eb:Nat->Nat):∀(s:List Nat) (lab:Nat->Int) (x:Nat),finL ea eb lab (s++[x])=mergeL (finL ea eb lab s) (ea x) (eb x)
 | [],_,_=>rfl
 | y::s,lab,x=>Nu ea eb s (mergeL lab (ea y) (eb y)) x
theorem Ux(lab:Nat->Int)(a b:Nat):mergeL lab a b=mergeL lab b a:=by
 funext q
 unfold mergeL;rw[Int.max_comm,Int.min_comm]
theorem ACQ{as:List (List Int)}{x:Nat}{a b:Nat}(h:as[x]?=some [(a:Int),(b:Int)]):(ea (as.map srt) x=a/\eb (as.map srt) x=b)\/(ea (as.map srt) x=b/\eb (as.map srt) x=a):=by
 have e:(as.map srt).getD x []=srt [(a:Int),(b:Int)]:=by
  rw[AD,A2,h];rfl
 unfold ea eb;rw[e,Dt];split
 ·exact .inr ⟨rfl,rfl⟩
 ·exact .inl ⟨rfl,rfl⟩
theorem Zm{as:List (List Int)}{x:Nat}{a b:Nat}(h:as[x]?=some [(a:Int),(b:Int)])(lab:Nat->Int):mergeL lab (ea (as.map srt) x) (eb (as.map srt) x)=mergeL lab a b:=by
 rcases ACQ h with⟨e1,e2⟩ | ⟨e1,e2⟩
 ·rw[e1,e2]
 ·rw[e1,e2,Ux]
theorem Wt{z:Nat}{as:List (List Int)}(h:OkTies (z:Int) as):OkB z (as.map srt):=λt ht=>by
 obtain ⟨t0,h0,rfl⟩:=AY.mp ht;obtain ⟨a,b,rfl,a0,a1,b0,b1,_⟩:=h.ok t0 h0;rw[Dt];split
 ·exact ⟨b.toNat,a.toNat,by rw[ED b0,ED a0],by lia,by lia⟩
 ·exact ⟨a.toNat,b.toNat,by rw[ED b0,ED a0],by lia,by lia⟩
theorem YH{z:Nat}{bs:List (List Int)}(h:OkB z bs){x:Nat}(hx:x<bs.length):ea bs x<z/\eb bs x<z:=by
 obtain ⟨a,b,e,az,bz⟩:=h bs[x] (Fc hx);have e':bs.getD x []=[(a:Int),(b:Int)]:=by rw[AD,AJ hx];exact e
 unfold ea eb;rw[e'];exact ⟨az,bz⟩
theorem AEZ{ms:List Int}{s:List Nat}(pm:ms.Perm (up s))(le:ms.Pairwise (·<=·))(nd:s.Nodup):∃s':List Nat,ms=up s'/\s'.Pairwise (· < ·)/\∀x,x∈s'↔x∈s:=by
 have inn:∀m∈ms,0<=m:=λm hm=>by
  obtain ⟨x,_,rfl⟩:=AY.mp (pm.mem_iff.mp hm);lia
 have e:ms=up (ms.map Int.toNat):=by
  unfold up;rw[DS]
  conv=>lhs;rw[<- List.map_id ms]
  refine G9 λm hm=>?_;exact (ED (inn m hm)).symm
 have nu:(up s).Nodup:=by
  unfold up Mb;rw[CS];exact nd.imp λh z=>h (by lia)
 have nm:ms.Nodup:=pm.nodup_iff.mpr nu;refine ⟨ms.map Int.toNat,e,?_,λx=>?_⟩
 ·rw[CS]
  refine EI (λ{a b} ha hb h=>?_) (YU (λa b (h1:a<=b) (h2:a≠b)=>(by lia:a<b)) le nm);have:=inn a ha;have:=inn b hb;lia
 ·constructor
  ·intro h
   obtain ⟨m,hm,rfl⟩:=AY.mp h;obtain ⟨y,hy,rfl⟩:=AY.mp (pm.mem_iff.mp hm);exact hy
  ·intro h
   exact AY.mpr ⟨(x:Int),pm.mem_iff.mpr (AY.mpr ⟨x,h,rfl⟩),rfl⟩
def Xe(K:As):Sp:=λvs H Q _=>∃(a:Addr) (ns:List Int) (y:Int) (m:Nat),vs=[.ref a,.int y,.int m]/\SqL K H a (ns.map V.int)/\0<=y/\1<=m/\m<=10 /\
 ∀(l:Addr) (xs:List V) (as:List (List Int)) (H':Hp),Same H H'->H l=none->H' l=some (.lst xs)->A9 (rPair K H') as xs->OkTies (m:Int) as->as.length<=12->Q (.ref l) H'
inductive TiI (K:As) (H:Hp) (a:Addr) (y:Int) (m:Nat) (Pa R:Addr) (hd:Int) (ps0:List (List Int)) (i:Nat) (σ:St) (H3:Hp):Prop
 | mk (o4 o5 o9 o10:Option V) (c:Int) (ps as:List (List Int)) (xs ys:List V) (h0:σ=[some (.ref a),some (.int y),some (.int m),some (.ref Pa),o4,o5,some (.int hd),some (.int c),some (.ref R),o9,o10]) (h1:Same H H3) (h2:H3 Pa=some (.lst xs)) (h3:H3 R=some (.lst ys)) (h4:A9 (rPair K H3) ps xs) (h5:A9 (rPair K H3) as ys) (h6:(∀t∈ps,UpP m t)) (h7:(∀t∈as,OkTie m t)) (h8:((as++ps).map srt).Nodup) (h9:ps.length+i=ps0.length) (h10:as.length=i):TiI K H a y m Pa R hd ps0 i σ H3
section
variable{P:AK}{w:AR}{K:As}{mg:Str->Option Au}{base:Heap}{f C D:Addr}{fd:BV}
abbrev tiN:List Str:=["_law_script","_law_at","_law_many","_law_pairs","_law_b","_law_a","_law_head","_law_cell","_law_ties_here","_law_k","_law_number"]
def AEV:Stmt->List Stmt
 | .For _ _ b _ _=>b
 | _=>[]
abbrev tiB:List Stmt:=AEV ((Ca HS).getD 5 (.Pass ⟨0,0,0,0⟩))
theorem Ck:FnScope tiN ["_law_script","_law_at","_law_many"] (Ag HS):=⟨rfl,rfl,rfl,by decide +kernel,rfl,by decide +kernel,by decide +kernel⟩
theorem ABo{fC fM:Addr}{fdC fdM:BV}(F:Fun K "_law_ties" "_law_ties" HS f fd)(T:Txt K mg C)
  (GC:FnOk P w K mg base CX0 1 fC fdC ["_law_script","_law_k"] (QB K)) (bC:Binds K fdC ["_law_script","_law_k"] []) (kC:AW K (.ref fC)=true) (mC:mg "_law_cell_at" = some (.ref fC))
  (GM:FnOk P w K mg base CX0 1 fM fdM ["_law_cell","_law_k"] AEi) (bM:Binds K fdM ["_law_cell","_law_k"] []) (kM:AW K (.ref fM)=true) (mM:mg "_law_mixed" = some (.ref fM)) :
  FnOk P w K mg base CX0 2 f fd ["_law_script","_law_at","_law_many"] (Xe K):=by
 refine F.ok Ck (λvs H Q E h=>?_) (λcdv A outer s H vs Q E hr h=>?_)
 ·obtain ⟨a,ns,y,m,rfl,_⟩:=h
  rfl
 obtain ⟨a,ns,y,m,rfl,hS,y0,m1,m10,q⟩:=h;have hr1:Room 1 _:=hr.mono (by decide);obtain ⟨t3,h3,q3⟩:∃t,PSs (cxOf CX0 P w K mg base tiN "_law_ties" (Ag HS) f cdv A outer s H E).nox (tiB.drop 2) t/\∀(D':Ends) (σ:St) (H':Hp) (Pa R:Addr) (hd c:Int) (i j:Nat) (o4 o5:Option V) (ps as:List (List Int)) (xs ys:List V) (p:List Int),σ=[some (.ref a),some (.int y),some (.int m),some (.ref Pa),o4,o5,some (.int hd),some (.int c),some (.ref R),some (.int i),some (.int j)]->j<xs.length->xs.length<=100->as.length<=100->Pa≠R->H' Pa=some (.lst xs)->H' R=some (.lst ys)->A9 (rPair K H') ps xs->A9 (rPair K H') as ys->ps[j]?=some p->UpP m p ->
   (∀(o4' o5':Option V) (c':Int) (x':Addr) (p':List Int) (H4:Hp),srt p'=srt p->OkTie m p'->(∀b o,b≠Pa->b≠R->H' b=some o->H4 b=some o)->H4 Pa=some (.lst (xs.eraseIdx j))->H4 R=some (.lst (ys++[.ref x']))->A9 (rPair K H4) (ps.eraseIdx j) (xs.eraseIdx j)->A9 (rPair K H4) (as++[p']) (ys++[.ref x'])->D'.nx [some (.ref a),some (.int y),some (.int m),some (.ref Pa),o4',o5',some (.int hd),some (.int c'),some (.ref R),some (.int i),some (.int j)] H4)->t D' σ H':=by
  refine ⟨_,Ad (Av (i:=7) Ck.nd rfl (BC rfl) (Az DK (pv 7) (BJ Aw rfl T.len CL (Aa (pv 3) Ac))))
   (Ad (ACq (Hy DL PySem.F.slot_list_pop PySem.F.type_list_pop ACU (pv 3) (Aa (pv 10) Ac)) (Fl (K:=K) (n:=2) rfl rfl (CK (Aq (i:=5) Ck.nd rfl (BC rfl)) (CK (Aq (i:=4) Ck.nd rfl (BC rfl)) FZ))))
   (Ai (DQ (Hy DL D3 D4 Cp (pv 8) (Aa (BK Bk (Ce (Aa (CZ (Aa (pv 5) (Aa (pv 4) Ac))) (Aa (CZ (Aa (pv 4) (Aa (pv 5) Ac))) Ac))) (Az Cz (Az Cy (pv 10) (pv 9)) Ah) (λ_ _=>rfl)) Ac))))),?_⟩
  rintro D' σ H' Pa R hd c i j o4 o5 ps as xs ys p rfl jl x100 a100 PR eP eR pp pr hp upp fin;obtain ⟨x,hx,rp⟩:=Paired.getL pp hp;obtain ⟨t,rfl,ht⟩:=Bq rp;obtain ⟨u,v,rfl,uv,vm⟩:=upp;have lx:=AQ pp;have ly:=AQ pr;have xl:(0:Int)<(xs.length:Nat):=by lia
  refine ⟨_,rfl,_,rfl,Pa,_,rfl,.inl (SqL.of eP),_,_,rfl,rfl,⟨xl,by lia⟩,?_⟩;have ix:=RV (n:=xs.length) (i:=(j:Int)) (j:=j) (ABr jl);refine ⟨_,rfl,.inl ⟨rfl,_,SqL.of eP⟩,_,rfl,Pa,xs,_,j,.ref t,rfl,rfl,eP,by lia,by lia,ix.1,hx,?_⟩;have ts6:TSm H' (upd H' Pa (.lst (xs.eraseIdx j))):=TSm.lst eP;have eP6:(upd H' Pa (.lst (xs.eraseIdx j))) Pa=some (.lst (xs.eraseIdx j)):=Ab;have eR6:(upd H' Pa (.lst (xs.eraseIdx j))) R=some (.lst ys):=by rw[Af (DF PR)];exact eR
  have s6:∀b o,b≠Pa->H' b=some o->(upd H' Pa (.lst (xs.eraseIdx j))) b=some o:=λb o n1 e=>by
   rw[Af n1];exact e
  have ht6:SqT K (upd H' Pa (.lst (xs.eraseIdx j))) t ([(u:Int),(v:Int)].map V.int):=ts6.seq ht;have pp6:A9 (rPair K (upd H' Pa (.lst (xs.eraseIdx j)))) (ps.eraseIdx j) (xs.eraseIdx j):=Paired.imp (λa b=>Ak Am _ _ a b ts6) (K35.Paired.erase pp j);have pr6:A9 (rPair K (upd H' Pa (.lst (xs.eraseIdx j)))) as ys:=Paired.imp (λa b=>Ak Am _ _ a b ts6) pr;generalize upd H' Pa (.lst (xs.eraseIdx j))=H6 at ts6 eP6 eR6 s6 ht6 pp6 pr6;refine ⟨t,_,rfl,ht6,rfl,_,_,rfl,_,_,rfl,rfl,?_⟩;refine ⟨_,rfl,.inl ⟨rfl,_,SqL.of eR6⟩,_,rfl,_,rfl,(by show 2<=sizeLine;decide),λt3 ht3=>?_⟩;refine ⟨_,rfl,_,rfl,(by show 2<=sizeLine;decide),λt4 ht4=>?_⟩;refine ⟨(by show 2<=sizeLine;decide),λL hL=>?_⟩;have s7:=(Same.new ht3 (.tup [.int (u:Int),.int (v:Int)])).trans ((Same.new ht4 (.tup [.int (v:Int),.int (u:Int)])).trans (Same.new hL (.lst [.ref t3,.ref t4])));have e3:(upd (upd (upd H6 t3 (.tup [.int (u:Int),.int (v:Int)])) t4 (.tup [.int (v:Int),.int (u:Int)])) L (.lst [.ref t3,.ref t4])) t3=some (.tup [.int (u:Int),.int (v:Int)]):=(Same.new hL _) _ _ ((Same.new ht4 _) _ _ Ab);have e4:(upd (upd (upd H6 t3 (.tup [.int (u:Int),.int (v:Int)])) t4 (.tup [.int (v:Int),.int (u:Int)])) L (.lst [.ref t3,.ref t4])) t4=some (.tup [.int (v:Int),.int (u:Int)]):=(Same.new hL _) _ _ Ab;have eL:(upd (upd (upd H6 t3 (.tup [.int (u:Int),.int (v:Int)])) t4 (.tup [.int (v:Int),.int (u:Int)])) L (.lst [.ref t3,.ref t4])) L=some (.lst [.ref t3,.ref t4]):=Ab;generalize upd (upd (upd H6 t3 (.tup [.int (u:Int),.int (v:Int)])) t4 (.tup [.int (v:Int),.int (u:Int)])) L (.lst [.ref t3,.ref t4])=H7 at s7 e3 e4 eL;have v0:=FE ((j:Int)+(i:Int)) (show (2:Int)≠0 by decide);have v1:=EO ((j:Int)+(i:Int)) (show (0:Int)<2 by decide);obtain ⟨x',p',hat,esr,okp,rp'⟩:∃(x':Addr) (p':List Int),atI [V.ref t3,V.ref t4] (((j:Int)+(i:Int))%2)=some (.ref x')/\srt p'=srt [(u:Int),(v:Int)]/\OkTie m p'/\rPair K H7 p' (.ref x'):=by
   generalize ((j:Int)+(i:Int))%2=vv at v0 v1;obtain ⟨k,rfl⟩:=IY v0
   match k,v1 with
   | 0,_=>exact ⟨t3,[(u:Int),(v:Int)],Bm rfl,rfl,⟨_,_,rfl,by lia,by lia,by lia,by lia,by lia⟩,Cj (ns:=[(u:Int),(v:Int)]) e3⟩
   | 1,_=>exact ⟨t4,[(v:Int),(u:Int)],Bm rfl,by rw[K35.Gp uv,K35.ABL uv],⟨_,_,rfl,by lia,by lia,by lia,by lia,by lia⟩,Cj (ns:=[(v:Int),(u:Int)]) e4⟩
   | k+2,h=>exact absurd h (by lia)
  have eR7:=s7 _ _ eR6;refine ⟨_,rfl,_,rfl,_,_,rfl,rfl,_,_,rfl,rfl,(by show (0:Int)<2;decide),L,_,_,_,rfl,rfl,SqL.of eL,hat,R,ys,_,rfl,rfl,eR7,Ar (by lia),?_⟩;have ts8:TSm H7 (upd H7 R (.lst (ys++[.ref x']))):=TSm.lst eR7;refine fin _ _ _ x' p' _ esr okp (λb o n1 n2 e=>?_) ?_ Ab (Paired.imp (λa b=>Ak Am _ _ a b (s7.ts.trans ts8)) pp6) (Paired.app (Paired.imp (λa b=>Ak Am _ _ a b (s7.ts.trans ts8)) pr6) (Paired.one (Ak Am _ _ _ _ ts8 rp')))
  ·rw[Af n2]
   exact s7 _ _ (s6 b o n1 e)
  ·rw[Af PR]
   exact s7 _ _ eP6
 obtain ⟨t5,h5,q5⟩:∃t,PSs (cxOf CX0 P w K mg base tiN "_law_ties" (Ag HS) f cdv A outer s H E).nox ((Ca HS).drop 5) t/\∀(σ:St) (H2:Hp) (Pa R:Addr) (hd c0:Int) (o4 o5:Option V) (ps0:List (List Int)) (xs0:List V),σ=[some (.ref a),some (.int y),some (.int m),some (.ref Pa),o4,o5,some (.int hd),some (.int c0),some (.ref R),none,none]->Same H H2->H Pa=none->H R=none->Pa≠R->H2 Pa=some (.lst xs0)->H2 R=some (.lst [])->A9 (rPair K H2) ps0 xs0->(∀t∈ps0,UpP m t)->(ps0.map srt).Nodup->ps0.length<=10*m->t {nx:=λ_ H'=>Q .non H',rt:=Q} σ H2:=by
  refine ⟨_,Ad (Cw Db rfl (DG rfl T.range (Aa (BJ (JH rfl) rfl T.min J7 (Aa (Az Cz (Az DK (pv 6) Ah) Ah) (Aa (BJ Aw rfl T.len CL (Aa (pv 3) Ac)) Ac))) Ac)) (Aq (i:=9) Ck.nd rfl (BC rfl))
   (Ad (Av (i:=10) Ck.nd rfl (BC rfl) (Az Cz (pv 7) (BJ Aw rfl T.len CL (Aa (pv 3) Ac))))
   (Js (Bx (Ao Ci (Az Cz (pv 6) Ah) Ah (nomark _)) (Ai (Av (i:=10) Ck.nd rfl (BC rfl) (Az Cz (Ay GM hr1 rfl mM kM bM .nil pass0 (Aa (Ay GC hr1 rfl mC kC bC .nil pass0 (Aa (pv 0) (Aa (Az Cy (pv 1) Ah) Ac))) (Aa (pv 9) Ac))) (BJ Aw rfl T.len CL (Aa (pv 3) Ac))))) BW)
   h3)))
  (Ai (Ax (pv 8))),?_⟩
  rintro σ H2 Pa R hd c0 o4 o5 ps0 xs0 rfl sm hPa hRH PR eP eR0 pp dn nd ln;have lx0:=AQ pp;have h0:=FE (hd / 192) (show (13:Int)≠0 by decide);have h1:=EO (hd / 192) (show (0:Int)<13 by decide);refine ⟨_,rfl,_,_,rfl,rfl,⟨by decide,by decide⟩,_,_,rfl,rfl,(by show (0:Int)<13;decide),_,rfl,Pa,_,rfl,.inl (SqL.of eP),_,_,rfl,?_⟩;obtain ⟨cnt,ec,cl1,cl2⟩:∃cnt:Nat,(if ((xs0.length:Nat):Int)<hd / 192%13 then ((xs0.length:Nat):Int) else hd / 192%13)=(cnt:Int)/\cnt<=12/\cnt<=ps0.length:=by
   refine ⟨(if ((xs0.length:Nat):Int)<hd / 192%13 then ((xs0.length:Nat):Int) else hd / 192%13).toNat,?_,?_,?_⟩<;>split<;>lia
  rw[ec];refine ⟨(cnt:Int),rfl,by lia,by lia,?_⟩;refine Et (lo:=0) (n:=(cnt:Int).toNat) (TiI K H a y m Pa R hd ps0) ?_ ?_ ?_
  ·exact ⟨_,_,_,_,c0,ps0,[],xs0,[],rfl,sm,eP,eR0,pp,.nil,dn,λt h=>(by cases h),nd,rfl,rfl⟩
  ·intro i σ H3 hi hP
   obtain ⟨o4,o5,o9,o10,c,ps,as,xs,ys,rfl,s3,eP,eR,pp,pr,dn,ok,nd,ln,la⟩:=hP;have ei:(0:Int)+i=(i:Int):=by lia
   rw[ei];have lx:=AQ pp;have ly:=AQ pr;have xl:(0:Int)<(xs.length:Nat):=by lia
   refine ⟨_,rfl,_,rfl,Pa,_,rfl,.inl (SqL.of eP),_,_,rfl,rfl,xl,?_⟩;refine ⟨λσ' H'=>∃j:Nat,j<xs.length/\σ'=[some (.ref a),some (.int y),some (.int m),some (.ref Pa),o4,o5,some (.int hd),some (.int c),some (.ref R),some (.int i),some (.int j)]/\H'=H3,?_,?_⟩
   ·have dr:∀x:Int,∃j:Nat,j<xs.length/\x%((xs.length:Nat):Int)=(j:Int):=λx=>by
     have j0:=FE x (show ((xs.length:Nat):Int)≠0 by lia);have j1:=EO x xl;obtain ⟨j,ej⟩:=IY j0;exact ⟨j,by lia,ej⟩
    have cg:∀{u v:Int},u=v->[some (V.ref a),some (.int y),some (.int m),some (.ref Pa),o4,o5,some (.int hd),some (.int c),some (.ref R),some (.int i),some (.int u)]=[some (V.ref a),some (.int y),some (.int m),some (.ref Pa),o4,o5,some (.int hd),some (.int c),some (.ref R),some (.int i),some (.int v)]:=λe=>by rw[e]
    refine ⟨_,rfl,_,_,rfl,rfl,(by show (0:Int)<2;decide),rfl,_,rfl,?_⟩;refine ite2 (λ_=>?_) (λ_=>?_)
    ·refine ⟨_,rfl,_,rfl,_,_,rfl,rfl,a,ns,y+1,rfl,s3.seq hS,by lia,λc1=>⟨_,rfl,c1,i,rfl,λr=>?_⟩⟩
     obtain ⟨j,jl,ej⟩:=dr r;exact ⟨_,rfl,Pa,_,rfl,.inl (SqL.of eP),_,_,rfl,rfl,xl,j,jl,cg ej,rfl⟩
    ·obtain ⟨j,jl,ej⟩:=dr c
     exact ⟨j,jl,cg ej,rfl⟩
   rintro σ' H' ⟨j,jl,rfl,rfl⟩;obtain ⟨p,hp⟩:∃p,ps[j]?=some p:=⟨_,AJ (by lia)⟩;refine q3 _ _ H' Pa R hd c i j o4 o5 ps as xs ys p rfl jl (by lia) (by lia) PR eP eR pp pr hp (dn p (Bi hp)) λo4' o5' c' x' p' H4 esr okp kp eP4 eR4 pp4 pr4=>?_;refine ⟨_,_,_,_,_,ps.eraseIdx j,as++[p'],xs.eraseIdx j,ys++[.ref x'],rfl,λb o e=>kp b o (Ae e hPa) (Ae e hRH) (s3 b o e),eP4,eR4,pp4,pr4,λt ht=>dn t (List.mem_of_mem_eraseIdx ht),λt ht=>?_,K35.ADr nd hp esr,?_,?_⟩
   ·rcases B9.mp ht with ht | ht
    ·exact ok t ht
    ·rw[Bn.mp ht]
     exact okp
   ·rw[List.length_eraseIdx,if_pos (by lia)]
    lia
   ·rw[AT,la]
    rfl
  ·intro σ H3 hP
   obtain ⟨o4,o5,o9,o10,c,ps,as,xs,ys,rfl,s3,eP,eR,pp,pr,dn,ok,nd,ln,la⟩:=hP;rw[CI] at la;refine ⟨_,rfl,q R ys as H3 s3 hRH eR pr ⟨ok,?_⟩ (by lia)⟩;rw[BU] at nd;exact (HV.mp nd).1
 refine ⟨_,Ad (Av (i:=3) Ck.nd rfl (BC rfl) (Ce Ac))
  (Js (Cw Db rfl (DG rfl T.range (Aa (pv 2) Ac)) (Aq (i:=4) Ck.nd rfl (BC rfl))
   (Ai (Cw Db rfl (DG rfl T.range (Aa (pv 4) Ac)) (Aq (i:=5) Ck.nd rfl (BC rfl))
    (Ai (DQ (Hy DL D3 D4 Cp (pv 3) (Aa (CZ (Aa (pv 5) (Aa (pv 4) Ac))) Ac)))))))
  (Ad (Av (i:=6) Ck.nd rfl (BC rfl) (Ay GC hr1 rfl mC kC bC .nil pass0 (Aa (pv 0) (Aa (pv 1) Ac))))
  (Ad (Av (i:=7) Ck.nd rfl (BC rfl) (Ay GC hr1 rfl mC kC bC .nil pass0 (Aa (pv 0) (Aa (Az Cy (pv 1) Ah) Ac))))
  (Ad (Av (i:=8) Ck.nd rfl (BC rfl) (Ce Ac))
  h5)))),?_⟩
 refine ⟨A8 _,λPa hPa=>?_⟩;have s0:=Same.new hPa (.lst []);have e0:(upd H Pa (.lst [])) Pa=some (.lst []):=Ab;generalize upd H Pa (.lst [])=H0 at s0 e0;refine ⟨λσ H2=>∃(o4 o5:Option V) (ps:List (List Int)) (xs:List V),σ=[some (.ref a),some (.int y),some (.int m),some (.ref Pa),o4,o5,none,none,none,none,none]/\Same H H2/\H2 Pa=some (.lst xs)/\A9 (rPair K H2) ps xs/\(∀t∈ps,UpP m t)/\(ps.map srt).Nodup/\ps.length<=10*m,?_,?_⟩
 ·refine ⟨_,rfl,(m:Int),rfl,by lia,by lia,?_⟩
  refine Et (lo:=0) (n:=(m:Int).toNat) (λi σ H2=>∃(o4 o5:Option V) (ps:List (List Int)) (xs:List V),σ=[some (.ref a),some (.int y),some (.int m),some (.ref Pa),o4,o5,none,none,none,none,none]/\Same H H2/\H2 Pa=some (.lst xs)/\A9 (rPair K H2) ps xs/\(∀t∈ps,UpP i t)/\(ps.map srt).Nodup/\ps.length<=10*i) ⟨none,none,[],[],rfl,s0,e0,.nil,λt h=>by (cases h),K7,AE _⟩ ?_ ?_
  ·rintro i σ H2 hi ⟨o4,o5,ps,xs,rfl,sm,eP,pp,dn,nd,ln⟩
   have ei:(0:Int)+i=(i:Int):=by lia
   rw[ei];have i9:i<10:=by lia
   have lx:=AQ pp;refine ⟨_,rfl,(i:Int),rfl,by lia,by lia,?_⟩;refine Et (lo:=0) (n:=(i:Int).toNat) (λj σ H3=>∃(o5:Option V) (ys:List V),σ=[some (.ref a),some (.int y),some (.int m),some (.ref Pa),some (.int i),o5,none,none,none,none,none]/\Same H H3/\H3 Pa=some (.lst (xs++ys))/\A9 (rPair K H3) (ps++newU i j) (xs++ys)) ⟨o5,[],rfl,sm,by rw[BI];exact eP,by rw[BI];show A9 _ (ps++[]) _;rw[BI];exact pp⟩ ?_ ?_
   ·rintro j σ H3 hj ⟨o5,ys,rfl,s3,eQ,pq⟩
    have ej:(0:Int)+j=(j:Int):=by lia
    rw[ej];have lq:=AQ pq;rw[AT,Ue] at lq;refine ⟨_,rfl,.inl ⟨rfl,_,SqL.of eQ⟩,_,rfl,_,rfl,(by show 2<=sizeLine;decide),λt ht=>?_⟩;have s4:=Same.new ht (.tup [.int (j:Int),.int (i:Int)]);have tP:t≠Pa:=λz=>by rw[z,eQ] at ht;cases ht
    refine ⟨Pa,_,_,rfl,rfl,s4 _ _ eQ,Ar (by lia),?_⟩;have ts:TSm H3 (upd (upd H3 t (.tup [.int (j:Int),.int (i:Int)])) Pa (.lst (xs++ys++[.ref t]))):=s4.ts.trans (TSm.lst (s4 _ _ eQ));refine ⟨_,ys++[.ref t],rfl,λb o e=>?_,?_,?_⟩
    ·rw[Af (Ae e hPa)]
     exact s4 _ _ (s3 b o e)
    ·rw[Ab,CD]
    ·rw[Yr,<- CD,<- CD]
     exact Paired.app (Paired.imp (λa b=>Ak Am _ _ a b ts) pq) (Paired.one (Cj (ns:=[(j:Int),(i:Int)]) (by rw[Af tP];exact Ab)))
   ·rintro σ H3 ⟨o5,ys,rfl,s3,eQ,pq⟩
    rw[CI] at pq;refine ⟨_,_,ps++newU i i,xs++ys,rfl,s3,eQ,pq,λt ht=>?_,ACX dn nd,by rw[AT,Ue];lia⟩;rcases B9.mp ht with ht | ht
    ·obtain ⟨a,b,e,h1,h2⟩:=dn t ht
     exact ⟨a,b,e,h1,by lia⟩
    ·exact AFT ht (AE _)
  ·intro σ H2 h
   rw[CI] at h;exact h
 rintro σ H2 ⟨o4,o5,ps0,xs0,rfl,sm,eP,pp,dn,nd,ln⟩;refine ⟨_,rfl,_,rfl,a,ns,y,rfl,sm.seq hS,y0,λhd=>?_⟩;refine ⟨_,rfl,_,rfl,_,_,rfl,rfl,a,ns,y+1,rfl,sm.seq hS,by lia,λc0=>?_⟩;refine ⟨A8 _,λR hR=>?_⟩;have sR:=Same.new hR (.lst []);exact q5 _ _ Pa R hd c0 _ _ ps0 xs0 rfl (sm.trans sR) hPa (sm.free hR) (Ae eP hR) (sR _ _ eP) Ab (Paired.imp (λa b=>Ak Am _ _ a b sR.ts) pp) dn nd ln
end
end K43
end
section
namespace G
end G
end
section
namespace K43s
open PySem L2 G
theorem AGj{K:As}{H:Hp}{p:Addr}{s:List Int}{i:Int}{v:Int}{Q:VK}(h:Sq K H p (s.map V.int))(e:atI (s.map V.int) i=some (.int v))(q:Q (.int v) H):rIxA K (.ref p) (.int i) H Q :=
 h.elim (λz=>.inl ⟨p,_,i,_,rfl,rfl,z,e,q⟩) λz=>.inr ⟨p,_,i,_,rfl,rfl,z,e,q⟩
def meets(rows:List Row)(k:Nat)(s:List Int):Bool:=hasW rows (k+1) k s
theorem HN{n:Nat}{rows:List Row}(o:Ok n rows){f k:Nat}(h:k<f)(kn:Knot rows k)(s:List Int):hasW rows f k s=meets rows k s:=by
 unfold meets;rw[F6,Kc o f k s h kn,Kc o (k+1) k s (D2 k) kn]
theorem Zw{rows:List Row}{k:Nat}(h:k<=1)(s:List Int):meets rows k s=decide (k=1/\s=[]):=by
 unfold meets hasW;rw[if_pos h]
theorem Yh{n:Nat}{rows:List Row}(o:Ok n rows){k:Nat}(h:2<=k)(kn:Knot rows k):meets rows k []=meets rows (rows.getD (k-2) (0,0,0)).2.1 []:=by
 obtain ⟨t1,z1,z2,r1,r2,n1,n2⟩:=o.low (BZ kn h);rw[<- HN o (f:=k) (by lia) n1];show hasW rows (k+1) k []=_
 conv=>lhs;unfold hasW
 rw[if_neg (by lia)]
theorem Uq{n:Nat}{rows:List Row}(o:Ok n rows){k:Nat}(h:2<=k)(kn:Knot rows k)(x:Int)(xs:List Int):meets rows k (x::xs)=if x=((rows.getD (k-2) (0,0,0)).1:Int) then meets rows (rows.getD (k-2) (0,0,0)).2.2 xs else meets rows (rows.getD (k-2) (0,0,0)).2.1 (x::xs):=by
 obtain ⟨t1,z1,z2,r1,r2,n1,n2⟩:=o.low (BZ kn h);rw[<- HN o (f:=k) (by lia) n1,<- HN o (f:=k) (by lia) n2];show hasW rows (k+1) k (x::xs)=_
 conv=>lhs;unfold hasW
 rw[if_neg (by lia)]
def AEl(K:As)(C:Addr):Sp:=λvs H Q _=>∃(p t:Addr) (n hd:Nat) (rows:List Row) (s:List Int),vs=[.ref p,.ref t]/\SvAt K C H p n rows hd/\Ok n rows/\Knot rows hd/\Sq K H t (s.map V.int) /\
 ∀(H':Hp),Same H H'->Q (.bl (meets rows hd s)) H'
section
variable{P:AK}{w:AR}{K:As}{mg:Str->Option Au}{base:Heap}{f C:Addr}{fd:BV}
theorem Jc:FnScope ["sieve","some","rows","knot","met","row"] ["sieve","some"] (Ag AFc):=⟨rfl,rfl,rfl,by decide +kernel,rfl,by decide +kernel,by decide +kernel⟩
theorem AFY{fK fT:Addr}{fdK fdT:BV}(F:Fun K "has_set" "has_set" AFc f fd)(T:Txt K mg C)
  (GK:FnOk P w K mg base CX0 1 fK fdK ["self"] (Jq K C)) (bK:Binds K fdK ["self"] []) (mK:Meth K C "knots" fK)
  (GT:FnOk P w K mg base CX0 1 fT fdT ["self"] (Uc K C)) (bT:Binds K fdT ["self"] []) (mT:Meth K C "top" fT) :
  FnOk P w K mg base CX0 2 f fd ["sieve","some"] (AEl K C):=by
 refine F.ok Jc (λvs H Q E h=>?_) (λcdv A outer s H vs Q E hr h=>?_)
 ·obtain ⟨p,t,n,hd,rows,s,rfl,_⟩:=h
  rfl
 obtain ⟨p,t,n,hd,rows,s0,rfl,hV,ok,kn,hS,q⟩:=h;have hr1:Room 1 _:=hr.mono (by decide);refine ⟨_,Ad (Av (i:=2) Jc.nd rfl (BC rfl) (CG (pv 0) T.cl mK GK hr1 bK .nil pass0))
  (Ad (Av (i:=3) Jc.nd rfl (BC rfl) (CG (pv 0) T.cl mT GT hr1 bT .nil pass0))
  (Ad (Av (i:=4) Jc.nd rfl (BC rfl) Ah)
  (Ad (ABk Db (Ao JT (pv 3) Ah (nomark _))
   (Ad (Av (i:=5) Jc.nd rfl (BC rfl) (BK Bk (pv 2) (Az Ft (pv 3) Ah) (λ_ _=>rfl)))
   (Ai (Bx (PW.pt (VL (Ao Ug (pv 4) (BJ Aw rfl T.len CL (Aa (pv 1) Ac)) (nomark _)) (Pq (Ao Ci (BK Fo (pv 1) (pv 4) (λ_ _=>rfl)) (BK Bj (pv 5) Ah (λ_ _=>rfl)) (nomark _)))))
    (Ad (Av (i:=4) Jc.nd rfl (BC rfl) (Az Cy (pv 4) Ah)) (Ai (Av (i:=3) Jc.nd rfl (BC rfl) (BK Bj (pv 5) Ah (λ_ _=>rfl)))))
    (Ai (Av (i:=3) Jc.nd rfl (BC rfl) (BK Bj (pv 5) Ah (λ_ _=>rfl))))))))
  (Ai (Ax (Vw (DR Ci (pv 3) Ah (nomark _)) (VH (DR Ci (pv 4) (BJ Aw rfl T.len CL (Aa (pv 1) Ac)) (nomark _))))))))),?_⟩
 obtain ⟨dx,jj,hp,_⟩:=id hV;refine ⟨_,rfl,p,dx,_,rfl,hp,DW _ _ _ (by decide +kernel) (by decide +kernel) (by decide +kernel),p,n,hd,rows,rfl,hV,λl ys H1 s1 hl el px=>?_⟩;refine ⟨_,rfl,p,dx,_,rfl,s1 _ _ hp,DW _ _ _ (by decide +kernel) (by decide +kernel) (by decide +kernel),p,n,hd,rows,rfl,hV.same s1,?_⟩;have hL:rLst K (rRow K) H1 rows (.ref l):=⟨l,ys,rfl,SqL.of el,px⟩;have hT:=Sq.same hS s1;have lt:(((s0.map V.int).length:Nat):Int)=s0.length:=by rw[AB]
 refine ⟨λm σ H2=>∃(k' at_:Nat) (o5:Option V),m=k'/\H2=H1/\σ=[some (.ref p),some (.ref t),some (.ref l),some (.int k'),some (.int at_),o5]/\Knot rows k'/\at_<=s0.length/\meets rows hd s0=meets rows k' (s0.drop at_),⟨hd,hd,0,none,rfl,rfl,rfl,kn,A8 _,rfl⟩,?_⟩;rintro m σ H2 ⟨k',at_,o5,rfl,rfl,rfl,kn',al,e⟩;refine ⟨_,rfl,_,_,rfl,rfl,_,rfl,?_⟩;refine ite2 (λc=>?_) (λc=>?_)
 ·have m2:2<=m:=by have:=of_decide_eq_true c;lia
  obtain ⟨xs,b,hS2,ha,hb⟩:=ACn hL kn' m2;obtain ⟨t1,z1,z2,r1,r2,n1,n2⟩:=ok.low (BZ kn' m2);refine ⟨λσ' H'=>∃m',m'<m/\_,λσ' H' h=>h,?_⟩;refine ⟨_,rfl,_,rfl,_,_,rfl,rfl,l,xs,_,_,rfl,rfl,hS2,ha,?_⟩;refine ⟨_,rfl,_,rfl,t,_,rfl,hT,_,_,rfl,rfl,_,rfl,?_⟩;rw[lt];by_cases c1:at_<s0.length
  ·have hd':s0.drop at_=s0[at_]::s0.drop (at_+1):=KM c1
   have hv:atI (s0.map V.int) (at_:Int)=some (.int s0[at_]):=Bm (by rw[A2,AJ c1];rfl);have ec:=Uq ok m2 kn' s0[at_] (s0.drop (at_+1));rw[hd',ec] at e;refine iteP (by lia) ?_;refine ⟨_,rfl,_,rfl,AGj hT hv ⟨_,rfl,b,_,_,_,rfl,rfl,hb,at0,rfl,_,rfl,?_⟩⟩;by_cases c3:s0[at_]=((rows.getD (m-2) (0,0,0)).1:Int)
   ·refine iteP (by rw[c3]) ?_
    rw[if_pos c3] at e;exact ⟨_,rfl,_,_,rfl,rfl,_,rfl,b,_,_,_,rfl,rfl,hb,at2,_,(by lia),_,at_+1,_,rfl,rfl,rfl,n2,c1,e⟩
   ·refine iteN (λz=>c3 (by injection z with z)) ?_
    rw[if_neg c3,<- hd'] at e;exact ⟨_,rfl,b,_,_,_,rfl,rfl,hb,at1,_,(by lia),_,at_,_,rfl,rfl,rfl,n1,al,e⟩
  ·have hd':s0.drop at_=[]:=FH (by lia)
   refine iteN (by lia) (iteF ?_);rw[hd',Yh ok m2 kn',<- hd'] at e;exact ⟨_,rfl,b,_,_,_,rfl,rfl,hb,at1,_,(by lia),_,at_,_,rfl,rfl,rfl,n1,al,e⟩
 ·have m1:m<=1:=by
   have:¬ (1:Int)<m:=λz=>c (decide_eq_true z);lia
  have q':=q H2 s1;rw[e,Zw m1] at q';refine ⟨_,rfl,rfl,_,rfl,?_⟩;by_cases c1:m=1
  ·subst c1
   refine iteP rfl ?_;refine ⟨_,rfl,_,rfl,t,_,rfl,hT,rfl,?_⟩;rw[lt];have eb:decide (V.int (at_:Int)=V.int (s0.length:Int))=decide (1=1/\s0.drop at_=[]):=by
    by_cases c2:at_=s0.length
    ·rw[decide_eq_true (show V.int (at_:Int)=V.int (s0.length:Int) by rw[c2]),decide_eq_true ⟨rfl,FH (by lia)⟩]
    ·rw[decide_eq_false (λz=>c2 (by injection z with z;lia)),decide_eq_false (λz=>c2 (by have:=List.drop_eq_nil_iff.mp z.2;lia))]
   rw[eb];exact q'
  ·refine iteN (λz=>by injection z with z;lia) ?_
   rw[decide_eq_false (λz=>c1 z.1)] at q';exact q'
end
end K43s
end
section
namespace L2
open PySem PySem.Spec PyProof.Rows
set_option tactic.hygienic true in
theorem JG(val:Nat->Int):∀i,(XX val i).Nodup
 | 0=>by rw[firstMet_zero];exact K7
 | i+1=>by
  rw[firstMet_succ];unfold step_dedup;split
  ·exact JG val i
  ·rename_i h
   rw[HV];refine ⟨JG val i,by simp,λa ha b hb e=>h ?_⟩;rw[Bn.mp hb] at e;exact TH.mpr ⟨a,ha,by rw[e];exact beq_self_eq_true _⟩
theorem Wv{l:List Int}{k:Int}:(l.any (· == k))=true↔k∈l:=by
 rw[TH];exact ⟨λ⟨x,hx,e⟩=>by rw[<- eq_of_beq e];exact hx,λh=>⟨k,h,beq_self_eq_true _⟩⟩
theorem ADc(ns:List Int)(k:Int):k∈XX (λi=>ns.getD i 0) ns.length↔k∈ns:=by
 rw[<- Wv,firstMet_any,Wv];have e:(AI ns.length).map (λi=>ns.getD i 0)=ns:=by
  apply EV;intro i;by_cases c:i<ns.length
  ·simp[c]
  ·simp[c]
 rw[e]
section
variable{X:Cx}{e:Expr}{te:TE}{p1 p2 pos pos2:Pos}
def AAa(K:As)(te:TE):TE:=λσ H Q=>te σ H λv H1=>∃(a:Addr) (ns:List Int),v=.ref a/\SqL K H1 a (ns.map V.int)/\ns.length<=1000 /\
 ∀ms:List Int,ms.Nodup->(∀r,r∈ms↔r∈ns)->Q (.int (ms.length:Nat)) H1
theorem Kh(hc:X.calm=true)(hg:Gl X "len")(hm:X.mg "len" = none)(hg2:Gl X "set")(hm2:X.mg "set" = none)(he:PE X e te)
  (hv:FY "len" = some (.builtin "len"):=by exact CL) (hv2:FY "set" = some (.type "set"):=by decide +kernel)
  (s1:Co [e] X.env=(false,eval e X.env)::Co [] X.env:=by rfl)
  (s2:Co [.Call (.Name "set" p2) [e] [] pos2] X.env=(false,eval (.Call (.Name "set" p2) [e] [] pos2) X.env)::Co [] X.env:=by rfl) :
  PE X (.Call (.Name "len" p1) [.Call (.Name "set" p2) [e] [] pos2] [] pos) (AAa X.K te):=by
 intro pins s σ H Q I h;refine EM (Ek I hg hm hv ?_ (by decide) (by decide));refine JI ?_ s2 rfl;rw[s2];show wpAny _ _ (O1 ((false,eval (.Call (.Name "set" p2) [e] [] pos2) X.env)::F3 pos (Co [] X.env))) _ _ s;refine FR ?_;refine EM (Ek I hg2 hm2 hv2 ?_ (by decide) (by decide));refine D9 ?_ s1 rfl;rw[s1];show wpAny _ _ (O1 ((false,eval e X.env)::F3 pos2 (Co [] X.env))) _ _ s;refine FR (thn (he pins s σ H _ I h) λu s1 ⟨x,H1,I1,r1,q1⟩=>?_);refine HP ?_;obtain ⟨a,ns,rfl,ha,h61,q⟩:=q1;cases r1;obtain ⟨its,r,pl,_⟩:=I1.list ha;have lx:=r.length;rw[AB] at lx;have hl:=pl.isList;have hsz:its.toArray.size=ns.length:=by simp;lia
 refine PySem.call_set_list (items:=its.toArray) (ns:=ns) (I1.ok.hd hc) hl (by simpa using intsAre_of r) (by rw[hsz];unfold scanBound;lia) λh' tk hS kp=>?_;refine HP ?_;rw[hsz] at hS;obtain ⟨o,es,ep,t,ho,hex,hd,_,_,_,hf,hn⟩:=hS;have I2:Inv X pins σ H1 {s1 with heap:=h',toks:=tk}:=I1.kept λb o e=>kp b o (BE e) e;have le:=firstMet_length_le (λi=>ns.getD i 0) ns.length;refine PySem.call_len_set (s:={s1 with heap:=h',toks:=tk}) ho hex hd hf (by lia) ?_;refine ⟨.int ((XX (λi=>ns.getD i 0) ns.length).length:Nat),H1,I2.tok _,⟨_,by rw[hn]⟩,q _ (JG _ _) λk=>ADc ns k⟩
end
end L2
end
section
namespace K43
open PySem L2 G
theorem ABu(s:List Nat):(up s).map V.int=nI s:=by
 unfold nI up;rw[DS];rfl
theorem AEn{s:List Nat}{i:Nat}{v:V}(h:(nI s)[i]?=some v):∃k,s[i]?=some k/\v=.int (k:Int):=by
 unfold nI at h;rw[A2] at h;cases e:s[i]? with
 | none=>rw[e] at h;cases h
 | some k=>rw[e] at h;exact ⟨k,rfl,(BH h).symm⟩
theorem Jf(s:List Nat)(k:Nat):nI (s++[k])=nI s++[.int (k:Int)]:=by
 unfold nI;rw[BU];rfl
def lbV(z:Nat)(lab:Nat->Int):List V:=(AI z).map λp=>V.int (lab p)
theorem Qd{z p:Nat}(lab:Nat->Int)(h:p<z):atI (lbV z lab) (p:Int)=some (.int (lab p)):=Bm (by
 unfold lbV;rw[A2,D8 h];rfl)
theorem RL(z:Nat)(lab:Nat->Int):(lbV z lab).length=z:=by unfold lbV;rw[AB,BD]
theorem ACe(z:Nat)(lab:Nat->Int):lbV (z+1) lab=lbV z lab++[.int (lab z)]:=by
 unfold lbV;rw[EX,BU];rfl
def TlAt(K:As)(H:Hp)(l:Addr)(as:List (List Int)):Prop:=∃xs,H l=some (.lst xs)/\A9 (rPair K H) as xs
theorem TlAt.same{K:As}{H H':Hp}{l:Addr}{as:List (List Int)}(h:TlAt K H l as)(e:Same H H'):TlAt K H' l as:=let ⟨xs,a,b⟩:=h;⟨xs,e _ _ a,Paired.imp (λa b r=>Ak Am _ _ a b e.ts r) b⟩
theorem TlAt.get{K:As}{H:Hp}{l:Addr}{as:List (List Int)}{z:Int}(h:TlAt K H l as)(ok:OkTies z as){k:Nat}(hk:k<as.length):∃(xs:List V) (t:Addr) (a b:Nat),H l=some (.lst xs)/\xs.length=as.length/\xs[k]?=some (.ref t)/\SqT K H t [.int (a:Int),.int (b:Int)]/\as[k]?=some [(a:Int),(b:Int)]/\(a:Int)<z/\(b:Int)<z:=by
 obtain ⟨xs,hx,px⟩:=h;have e:=AJ hk;obtain ⟨v,hv,rv⟩:=Paired.getL px e;obtain ⟨t,rfl,ht⟩:=Bq rv;obtain ⟨a,b,ea,a0,a1,b0,b1,_⟩:=ok.ok as[k] (Fc hk);rw[ea] at ht e;refine ⟨xs,t,a.toNat,b.toNat,hx,(AQ px).symm,hv,?_,?_,by lia,by lia⟩
 ·rw[ED a0,ED b0];exact ht
 ·rw[ED a0,ED b0];exact e
abbrev finA(as:List (List Int))(s:List Nat):Nat->Int:=finL (ea (as.map srt)) (eb (as.map srt)) (λp=>(p:Int)) s
def AEj(K:As):Sp:=λvs H Q _=>∃(x:Int) (n:Nat),vs=[.int x,.int n]/\n<=12/\∀(t:Addr) (s:List Nat) (H':Hp),Same H H'->SqT K H' t (nI s)->s.Pairwise (· < ·)->(∀x∈s,x<n)->Q (.ref t) H'
def Ho(K:As):Sp:=λvs H Q _=>∃(z:Nat) (tl t:Addr) (as:List (List Int)) (s:List Nat),vs=[.int z,.ref tl,.ref t]/\TlAt K H tl as/\K43s.Sq K H t (nI s)/\OkTies (z:Int) as/\z<=10/\(∀x∈s,x<as.length) /\
 ∀(l:Addr) (H':Hp),Same H H'->H l=none->H' l=some (.lst (lbV z (finA as s)))->Q (.ref l) H'
def Sh(K:As):Sp:=λvs H Q _=>∃(c:Int) (z:Nat) (tl:Addr) (as:List (List Int)),vs=[.int c,.int z,.ref tl]/\TlAt K H tl as/\OkTies (z:Int) as/\z<=10/\as.length<=12 /\
 ∀(t:Addr) (s:List Nat) (H':Hp),Same H H'->SqT K H' t (nI s)->s.Pairwise (· < ·)->(∀x∈s,x<as.length)->Q (.ref t) H'
section
variable{P:AK}{w:AR}{K:As}{mg:Str->Option Au}{base:Heap}{f C D:Addr}{fd:BV}
theorem AGe:FnScope ["_law_cell","_law_n"] ["_law_cell","_law_n"] (Ag AEJ):=⟨rfl,rfl,rfl,by decide +kernel,rfl,by decide +kernel,by decide +kernel⟩
theorem AFN(F:Fun K "_law_set" "_law_set" AEJ f fd)(T:Txt K mg C):FnOk P w K mg base CX0 1 f fd ["_law_cell","_law_n"] (AEj K):=by
 refine F.ok AGe (λvs H Q E h=>?_) (λcdv A outer s H vs Q E hr h=>?_)
 ·obtain ⟨x,n,rfl,_⟩:=h
  rfl
 obtain ⟨x,n,rfl,n12,q⟩:=h;refine ⟨_,Ai (Ax (BP Bc rfl T.tuple C2 (Aa (Bo (Ag AEJ) ["_law_k"] ["_law_cell"] [0] rfl rfl (by decide +kernel) ⟨⟨rfl,by decide +kernel⟩,trivial⟩ (DG rfl T.range (Aa (pv 1) Ac))
   (λ_ _ _=>Aq (i:=0) (show ((["_law_k"]:List Str)++(["_law_cell"]:List Str)).Nodup by decide +kernel) rfl (BC rfl))
   (λ_ _ _=>Bt (Ao Ci (Az ABR (Az ABU (pv 1) (pv 0)) Ah) Ah (nomark _)))
   (λ_ _ _=>pv 0)) Ac))),?_⟩
 refine ⟨_,rfl,n,rfl,by lia,by lia,λD hD=>?_⟩;refine Dq (lo:=0) (n:=(n:Int).toNat) (λj τ H2=>∃(o:Option V) (s:List Nat),τ=[o,some (.int x)]/\Same H H2/\H2 D=some (.lst (nI s))/\s.Pairwise (· < ·)/\(∀y∈s,y<j)/\s.length<=j) ⟨none,[],rfl,Same.new hD _,Ab,.nil,λy hy=>(by cases hy),AE _⟩ ?_ ?_
 ·rintro j τ H2 hj ⟨o,s,rfl,s2,eD,pw,lt,ll⟩
  have ej:(0:Int)+j=(j:Int):=by lia
  rw[ej];refine ⟨_,rfl,_,rfl,_,_,rfl,rfl,(by show 0<=(j:Int);lia),_,_,rfl,rfl,rfl,_,rfl,?_⟩;refine ite2 (λc=>?_) (λc=>?_)
  ·refine ⟨_,rfl,_,eD,Ar (by rw[Du];lia),_,s++[j],rfl,λb o e=>?_,?_,?_,λy hy=>?_,by rw[AT];show s.length+1<=j+1;lia⟩
   ·rw[Af (Ae e hD)]
    exact s2 b o e
   ·rw[Ab,Jf]
   ·exact C1.mpr ⟨pw,G7 ..,λa ha b hb=>by rw[Bn.mp hb];exact lt a ha⟩
   ·rcases B9.mp hy with h | h
    ·exact FC (lt y h)
    ·rw[Bn.mp h];exact D2 _
  ·exact ⟨_,s,rfl,s2,eD,pw,λy hy=>FC (lt y hy),by lia⟩
 ·rintro τ H2 ⟨o,s,rfl,s2,eD,pw,lt,ll⟩
  rw[CI] at lt;refine ⟨D,_,rfl,.inl ⟨SqL.of eD,λt ht=>?_⟩⟩;exact q t s _ (s2.trans (Same.new ht _)) (SqT.of Ab) pw lt
theorem Ey:FnScope ["_law_many","_law_ties_here","_law_some","_law_labels_here","_law_k","_law_low","_law_high"] ["_law_many","_law_ties_here","_law_some"] (Ag Jp):=⟨rfl,rfl,rfl,by decide +kernel,rfl,by decide +kernel,by decide +kernel⟩
theorem Zb(F:Fun K "_law_labels" "_law_labels" Jp f fd)(T:Txt K mg C):FnOk P w K mg base CX0 1 f fd ["_law_many","_law_ties_here","_law_some"] (Ho K):=by
 refine F.ok Ey (λvs H Q E h=>?_) (λcdv A outer s H vs Q E hr h=>?_)
 ·obtain ⟨z,tl,t,as,s,rfl,_⟩:=h
  rfl
 obtain ⟨z,tl,t,as,s,rfl,hT,hS,ok,z10,hs,q⟩:=h;refine ⟨_,Ad (Av (i:=3) Ey.nd rfl (BC rfl) (BP (Ml rfl) rfl T.list Hd (Aa (BP Fx rfl T.range Lc (Aa (pv 0) Ac)) Ac)))
  (Ad (Cw Db rfl (WR (pv 2)) (Aq (i:=4) Ey.nd rfl (BC rfl))
   (Ad (Av (i:=5) Ey.nd rfl (HR rfl) (BJ (JH rfl) rfl T.min J7
    (Aa (BK Bk (pv 3) (BK Bj (BK Bk (pv 1) (pv 4) (λ_ _=>rfl)) Ah (λ_ _=>rfl)) (λ_ _=>rfl)) (Aa (BK Bk (pv 3) (BK Bj (BK Bk (pv 1) (pv 4) (λ_ _=>rfl)) Ah (λ_ _=>rfl)) (λ_ _=>rfl)) Ac))))
   (Ad (Av (i:=6) Ey.nd rfl (HR rfl) (BJ (ZX rfl) rfl T.max Pe
    (Aa (BK Bk (pv 3) (BK Bj (BK Bk (pv 1) (pv 4) (λ_ _=>rfl)) Ah (λ_ _=>rfl)) (λ_ _=>rfl)) (Aa (BK Bk (pv 3) (BK Bj (BK Bk (pv 1) (pv 4) (λ_ _=>rfl)) Ah (λ_ _=>rfl)) (λ_ _=>rfl)) Ac))))
   (Ai (Jv (i:=3) (Ag Jp) ["_law_label"] ["_law_high","_law_low"] [6,5] Ey.nd rfl (BC rfl) rfl rfl (by decide +kernel) ⟨⟨rfl,by decide +kernel⟩,⟨rfl,by decide +kernel⟩,trivial⟩ (Bv (pv 3))
    (λ_ _ _=>Aq (i:=0) (show ((["_law_label"]:List Str)++(["_law_high","_law_low"]:List Str)).Nodup by decide +kernel) rfl (BC rfl)) (λ_ _ _=>Dp)
    (λ_ _ _=>IW (Ao Ci (pv 0) (pv 1) (nomark _)) (pv 2) (pv 0)))))))
  (Ai (Ax (pv 3)))),?_⟩
 refine ⟨_,rfl,(z:Int),rfl,λr hr0=>?_⟩;refine ⟨r,(z:Int),rfl,Ab,by lia,by lia,λL0 hL0=>?_⟩;have s0:=(Same.new hr0 (.rng 0 (z:Int))).trans (Same.new hL0 (.lst ((below (z:Int).toNat).map V.int)));have nL0:H L0=none:=(Same.new hr0 (.rng 0 (z:Int))).free hL0;have e0:(upd (upd H r (.rng 0 (z:Int))) L0 (.lst ((below (z:Int).toNat).map V.int))) L0=some (.lst (lbV z λp=>(p:Int))):=by
  rw[Ab,CI]
  congr 2
  unfold lbV below;rw[DS];rfl
 generalize upd (upd H r (.rng 0 (z:Int))) L0 (.lst ((below (z:Int).toNat).map V.int))=H0 at s0 e0;refine ⟨_,rfl,t,rfl,Xm (K:=K) (a:=t) (xs:=nI s) (hS.same s0) (λi σ H2=>∃(L:Addr) (o4 o5 o6:Option V),σ=[some (.int z),some (.ref tl),some (.ref t),some (.ref L),o4,o5,o6]/\Same H0 H2/\H L=none/\H2 L=some (.lst (lbV z (finA as (s.take i))))) ⟨L0,none,none,none,rfl,Same.refl _,nL0,by rw[MQ];exact e0⟩ (λi σ H2 _ ⟨_,_,_,_,_,sm,_⟩=>sm) ?_ ?_⟩
 ·rintro i x σ H2 hx ⟨L,o4,o5,o6,rfl,sm,nL,eL⟩
  obtain ⟨k,hk,rfl⟩:=AEn hx;have kl:k<as.length:=hs k (Bi hk);obtain ⟨xs,tq,a,b,eT,xl,hxk,htq,hak,az,bz⟩:=(hT.same (s0.trans sm)).get ok kl;have aL:=Qd (z:=z) (finA as (s.take i)) (p:=a) (by lia);have bL:=Qd (z:=z) (finA as (s.take i)) (p:=b) (by lia);have fs:finA as (s.take (i+1))=mergeL (finA as (s.take i)) a b:=by
   show finL _ _ _ _=_;rw[K43s.take_snoc hk,Nu,Zm hak]
  rw[fs];generalize finA as (s.take i)=lab at eL aL bL;refine ⟨_,rfl,_,rfl,_,rfl,tl,_,_,_,rfl,rfl,SqL.of eT,Bm hxk,tq,_,_,_,rfl,rfl,htq,at0,L,_,_,_,rfl,rfl,SqL.of eL,aL,_,rfl,_,rfl,_,rfl,tl,_,_,_,rfl,rfl,SqL.of eT,Bm hxk,tq,_,_,_,rfl,rfl,htq,at1,L,_,_,_,rfl,rfl,SqL.of eL,bL,_,_,rfl,?_⟩;refine ⟨_,rfl,_,rfl,_,rfl,tl,_,_,_,rfl,rfl,SqL.of eT,Bm hxk,tq,_,_,_,rfl,rfl,htq,at0,L,_,_,_,rfl,rfl,SqL.of eL,aL,_,rfl,_,rfl,_,rfl,tl,_,_,_,rfl,rfl,SqL.of eT,Bm hxk,tq,_,_,_,rfl,rfl,htq,at1,L,_,_,_,rfl,rfl,SqL.of eL,bL,_,_,rfl,?_⟩;have e1:(if lab b<lab a then lab b else lab a)=min (lab a) (lab b):=by split<;>lia
  have e2:(if lab b>lab a then lab b else lab a)=max (lab a) (lab b):=by split<;>lia
  rw[e1,e2];refine ⟨_,rfl,L,rfl,⟨_,SqL.of eL⟩,λZ hZ=>?_⟩;refine Bl (K:=K) (a:=L) (xs:=lbV z lab) (λj τ H3=>∃o:Option V,τ=[o,some (.int (max (lab a) (lab b))),some (.int (min (lab a) (lab b)))]/\Same H2 H3/\H3 Z=some (.lst (lbV j (mergeL lab a b)))) ⟨none,rfl,Same.new hZ _,Ab⟩ (λj τ H3 _ ⟨_,_,s3,_⟩=>SqL.of (s3 _ _ eL)) ?_ ?_
  ·rintro j v τ H3 hv ⟨o,rfl,s3,eZ⟩
   have jz:j<z:=by
    have:=(AL.mp hv).1
    rwa [RL] at this
   obtain rfl:v=.int (lab j):=by
    unfold lbV at hv;rw[A2,D8 jz] at hv;exact (BH hv).symm
   have fin:∀d:Int,d=mergeL lab a b j->∃ys,H3 Z=some (.lst ys)/\ys.length<sizeLine/\∃o:Option V,[some (V.int (lab j)),some (.int (max (lab a) (lab b))),some (.int (min (lab a) (lab b)))]=[o,some (.int (max (lab a) (lab b))),some (.int (min (lab a) (lab b)))]/\Same H2 (upd H3 Z (.lst (ys++[.int d])))/\(upd H3 Z (.lst (ys++[.int d]))) Z=some (.lst (lbV (j+1) (mergeL lab a b))):=λd ed=>by
    refine ⟨_,eZ,Ar (by rw[RL];lia),_,rfl,λb o e=>?_,?_⟩
    ·rw[Af (Ae e hZ)]
     exact s3 b o e
    ·rw[Ab,ACe,ed]
   refine yesN ⟨_,rfl,_,rfl,rfl,_,rfl,?_⟩;by_cases c:lab j=max (lab a) (lab b)
   ·exact iteP (congrArg V.int c) ⟨_,rfl,fin _ (by unfold mergeL;rw[if_pos c])⟩
   ·exact iteN (λz=>c (by injection z)) ⟨_,rfl,fin _ (by unfold mergeL;rw[if_neg c])⟩
  ·rintro τ H3 ⟨o,rfl,s3,eZ⟩
   rw[RL] at eZ;exact ⟨Z,_,_,_,rfl,sm.trans s3,(s0.trans sm).free hZ,eZ⟩
 ·rintro σ H2 ⟨L,o4,o5,o6,rfl,sm,nL,eL⟩
  rw[Du,CF] at eL;exact ⟨_,rfl,q L H2 (s0.trans sm) nL eL⟩
end
end K43
end
section
namespace L2
open PySem PySem.Spec PyProof.Rows
end L2
end
section
namespace L2
open PySem PySem.Spec PySem.W PyProof.Rows
abbrev xo(oe:Obj):HO:=.frz oe (.ext λ_=>True)
end L2
end
section
namespace PySem.SeqAt
open PySem.AutoSeq1 (wpAny_loadPart')
open MeetsSeq
end PySem.SeqAt
namespace L2
open PySem PySem.Spec PySem.W PyProof.Rows
end L2
end
section
namespace K43
open PySem L2 G
theorem Ow{s:List Nat}{j:Nat}(pw:s.Pairwise (· < ·))(lt:∀y∈s,y<j):(s++[j]).Pairwise (· < ·)/\∀y∈s++[j],y<j+1:=by
 refine ⟨C1.mpr ⟨pw,G7 ..,λa ha b hb=>by rw[Bn.mp hb];exact lt a ha⟩,λy hy=>?_⟩;rcases B9.mp hy with h | h
 ·exact FC (lt y h)
 ·rw[Bn.mp h];exact D2 _
section
variable{P:AK}{w:AR}{K:As}{mg:Str->Option Au}{base:Heap}{f C D:Addr}{fd:BV}
theorem GQ:FnScope ["_law_cell","_law_many","_law_ties_here","_law_some","_law_k","_law_labels_here","_law_at"] ["_law_cell","_law_many","_law_ties_here"] (Ag Jx):=⟨rfl,rfl,rfl,by decide +kernel,rfl,by decide +kernel,by decide +kernel⟩
theorem ZK{fS fL:Addr}{fdS fdL:BV}(F:Fun K "_law_picked" "_law_picked" Jx f fd)(T:Txt K mg C)
  (GS:FnOk P w K mg base CX0 1 fS fdS ["_law_cell","_law_n"] (AEj K)) (bS:Binds K fdS ["_law_cell","_law_n"] []) (kS:AW K (.ref fS)=true) (mS:mg "_law_set" = some (.ref fS))
  (GL:FnOk P w K mg base CX0 1 fL fdL ["_law_many","_law_ties_here","_law_some"] (Ho K)) (bL:Binds K fdL ["_law_many","_law_ties_here","_law_some"] []) (kL:AW K (.ref fL)=true) (mL:mg "_law_labels" = some (.ref fL)) :
  FnOk P w K mg base CX0 2 f fd ["_law_cell","_law_many","_law_ties_here"] (Sh K):=by
 refine F.ok GQ (λvs H Q E h=>?_) (λcdv A outer s H vs Q E hr h=>?_)
 ·obtain ⟨c,z,tl,as,rfl,_⟩:=h
  rfl
 obtain ⟨c,z,tl,as,rfl,hT,ok,z10,a12,q⟩:=h;have hr1:Room 1 _:=hr.mono (by decide);refine ⟨_,Ad (Bx (Ao Ci (Az Cz (pv 0) Ah) Ah (nomark _)) (Ai (Ax (Ay GS hr1 rfl mS kS bS .nil pass0 (Aa (Az DK (pv 0) Ah) (Aa (BJ Aw rfl T.len CL (Aa (pv 2) Ac)) Ac))))) BW)
  (Ad (Av (i:=3) GQ.nd rfl (BC rfl) (Ce Ac))
  (Ad (Cw Db rfl (DG rfl T.range (Aa (BJ Aw rfl T.len CL (Aa (pv 2) Ac)) Ac)) (Aq (i:=4) GQ.nd rfl (BC rfl))
   (Ad (Av (i:=5) GQ.nd rfl (BC rfl) (Ay GL hr1 rfl mL kL bL .nil pass0 (Aa (pv 1) (Aa (pv 2) (Aa (pv 3) Ac)))))
   (Ai (Bx (PW.pt (VL (Ao Nt (BK Bk (pv 5) (BK Bj (BK Bk (pv 2) (pv 4) (λ_ _=>rfl)) Ah (λ_ _=>rfl)) (λ_ _=>rfl)) (BK Bk (pv 5) (BK Bj (BK Bk (pv 2) (pv 4) (λ_ _=>rfl)) Ah (λ_ _=>rfl)) (λ_ _=>rfl)) (nomark _))
     (Pq (Ao Ci (Az ABR (Az ABU (Az DK (pv 0) Ah) (pv 4)) Ah) Ah (nomark _)))))
    (Ai (DQ (Hy DL D3 D4 Cp (pv 3) (Aa (pv 4) Ac)))) BW))))
  (Ad (Bx (PW.pt (Lf (Ao Ci (Az Cz (pv 0) Ah) Ah (nomark _)) (HD (Ao Ci (BJ Aw rfl T.len CL (Aa (pv 2) Ac)) Ah (nomark _))))) (Ai (Ax (BP Bc rfl T.tuple C2 (Aa (pv 3) Ac)))) BW)
  (Ad (Av (i:=6) GQ.nd rfl (HR rfl) (Az Cz (Az DK (pv 0) Ah) (BJ Aw rfl T.len CL (Aa (pv 2) Ac))))
  (Ad (Bx (Ao Nk (pv 6) (pv 3) rfl) (Ai (Ax (BP Bc rfl T.tuple C2 (Aa (Bo (Ag Jx) ["_law_k"] ["_law_at"] [6] rfl rfl (by decide +kernel) ⟨⟨rfl,by decide +kernel⟩,trivial⟩ (Bv (pv 3))
     (λ_ _ _=>Aq (i:=0) (show ((["_law_k"]:List Str)++(["_law_at"]:List Str)).Nodup by decide +kernel) rfl (BC rfl))
     (λ_ _ _=>Bt (Ao Nt (pv 0) (pv 1) (nomark _))) (λ_ _ _=>pv 0)) Ac)))) BW)
  (Ai (Ax (BP Bc rfl T.tuple C2 (Aa (BJ JR rfl T.sorted K1 (Aa (Az Pr (pv 3) (Ce (Aa (pv 6) Ac))) Ac)) Ac))))))))),?_⟩
 obtain ⟨xs0,eT0,pT0⟩:=id hT;have lx0:=AQ pT0;refine ⟨_,rfl,_,_,rfl,rfl,(by show (0:Int)<3;decide),rfl,_,rfl,?_⟩;refine ite2 (λ_=>?_) (λ_=>?_)
 ·refine ⟨_,rfl,_,_,rfl,rfl,⟨by decide,by decide⟩,_,rfl,tl,_,rfl,.inl (SqL.of eT0),c / 3,xs0.length,rfl,by lia,λt s H' s' ht pw lt=>q t s H' s' ht pw (by rw[lx0];exact lt)⟩
 refine ⟨A8 _,λS hS=>?_⟩;have sS:=Same.new hS (.lst []);refine ⟨_,rfl,tl,_,rfl,.inl (SqL.of (sS _ _ eT0)),_,rfl,by lia,by lia,?_⟩;refine Et (lo:=0) (n:=((xs0.length:Nat):Int).toNat) (λi σ H2=>∃(s:List Nat) (o4 o5:Option V),σ=[some (.int c),some (.int z),some (.ref tl),some (.ref S),o4,o5,none]/\Same H H2/\H2 S=some (.lst (nI s))/\s.Pairwise (· < ·)/\(∀y∈s,y<i)/\s.length<=i) ⟨[],none,none,rfl,sS,Ab,.nil,λy hy=>(by cases hy),AE _⟩ ?_ ?_
 ·rintro i σ H2 hi ⟨s,o4,o5,rfl,sm,eS,pw,lt,ll⟩
  rw[CI] at hi;have ei:(0:Int)+i=(i:Int):=by lia
  rw[ei];refine ⟨_,rfl,_,rfl,_,rfl,z,tl,S,as,s,rfl,hT.same sm,.inl (SqL.of eS),ok,z10,λx hx=>Xt (lt x hx) (by lia),λL H3 s3 nL eL=>?_⟩;have sm3:=sm.trans s3;obtain ⟨xs,tq,a,b,eT,xl,hxk,htq,hak,az,bz⟩:=(hT.same sm3).get ok (k:=i) (by lia);have aL:=Qd (z:=z) (finA as s) (p:=a) (by lia);have bL:=Qd (z:=z) (finA as s) (p:=b) (by lia);have stay:∃(s:List Nat) (o4' o5':Option V),[some (V.int c),some (.int z),some (.ref tl),some (.ref S),some (.int (i:Int)),some (.ref L),none]=[some (V.int c),some (.int z),some (.ref tl),some (.ref S),o4',o5',none]/\Same H H3/\H3 S=some (.lst (nI s))/\s.Pairwise (· < ·)/\(∀y∈s,y<i+1)/\s.length<=i+1:=⟨s,_,_,rfl,sm3,s3 _ _ eS,pw,λy hy=>FC (lt y hy),by lia⟩;refine ⟨_,rfl,_,rfl,_,rfl,tl,_,_,_,rfl,rfl,SqL.of eT,Bm hxk,tq,_,_,_,rfl,rfl,htq,at0,L,_,_,_,rfl,rfl,SqL.of eL,aL,_,rfl,_,rfl,_,rfl,tl,_,_,_,rfl,rfl,SqL.of eT,Bm hxk,tq,_,_,_,rfl,rfl,htq,at1,L,_,_,_,rfl,rfl,SqL.of eL,bL,rfl,_,rfl,?_⟩;refine ite2 (λ_=>?_) (λ_=>?_)
  ·refine ⟨_,rfl,_,_,rfl,rfl,⟨by decide,by decide⟩,_,rfl,_,_,rfl,rfl,(by show 0<=(i:Int);lia),_,_,rfl,rfl,rfl,_,rfl,?_⟩
   refine ite2 (λ_=>?_) (λ_=>?_)
   ·refine ⟨_,rfl,.inl ⟨rfl,_,SqL.of (s3 _ _ eS)⟩,_,rfl,S,_,_,rfl,rfl,s3 _ _ eS,Ar (by rw[Du];lia),s++[i],_,_,rfl,λb o e=>?_,by rw[Ab,Jf],(Ow pw lt).1,(Ow pw lt).2,by rw[AT];show s.length+1<=i+1;lia⟩
    rw[Af (Ae e hS)];exact sm3 b o e
   ·exact stay
  ·exact iteF stay
 rintro σ H2 ⟨s,o4,o5,rfl,sm,eS,pw,lt,ll⟩;rw[CI,<- lx0] at lt ll;have eT:=sm _ _ eT0;have done:∃(p:Addr) (ys:List V),[V.ref S]=[V.ref p]/\((SqL K H2 p ys/\∀l,H2 l=none->Q (.ref l) (upd H2 l (.tup ys)))\/(SqT K H2 p ys/\Q (.ref p) H2)):=⟨S,_,rfl,.inl ⟨SqL.of eS,λt ht=>q t s _ (sm.trans (Same.new ht _)) (SqT.of Ab) pw lt⟩⟩;refine ⟨_,rfl,_,_,rfl,rfl,(by show (0:Int)<3;decide),rfl,_,rfl,?_⟩;refine ite2 (λ_=>?_) (λ_=>?_)
 ·exact iteT ⟨_,rfl,done⟩
 refine ⟨_,rfl,tl,_,rfl,.inl (SqL.of eT),rfl,_,rfl,?_⟩;refine ite2 (λ_=>?_) (λc0=>?_)
 ·exact ⟨_,rfl,done⟩
 have c1:¬ V.int ((xs0.length:Nat):Int)=V.int 0:=λh=>c0 (decide_eq_true h);have xp:0<xs0.length:=Nat.pos_of_ne_zero λz=>c1 (by rw[z];rfl);have xl:(0:Int)<(xs0.length:Nat):=by lia
 refine ⟨_,rfl,_,_,rfl,rfl,⟨by decide,by decide⟩,_,rfl,tl,_,rfl,.inl (SqL.of eT),_,_,rfl,rfl,xl,?_⟩;have j0:=FE (c / 3) (show ((xs0.length:Nat):Int)≠0 by lia);have j1:=EO (c / 3) xl;obtain ⟨j,ej⟩:=IY j0;rw[ej] at j1;dsimp only;rw[ej];refine ⟨_,rfl,_,rfl,S,_,rfl,.inl (SqL.of eS),rfl,XC s,_,rfl,?_⟩;rw[if_neg (show ¬ (false=true) by decide),ABO];by_cases cj:j∈s
 ·refine iteP cj ?_
  refine ⟨_,rfl,S,rfl,⟨_,SqL.of eS⟩,λZ hZ=>?_⟩;refine Bl (K:=K) (a:=S) (xs:=nI s) (λi τ H3=>∃o:Option V,τ=[o,some (.int (j:Int))]/\Same H2 H3/\H3 Z=some (.lst (nI ((s.take i).filter λx=>decide (x≠j))))) ⟨none,rfl,Same.new hZ _,Ab⟩ (λi τ H3 _ ⟨_,_,s3,_⟩=>SqL.of (s3 _ _ eS)) ?_ ?_
  ·rintro i v τ H3 hv ⟨o,rfl,s3,eZ⟩
   obtain ⟨k,hk,rfl⟩:=AEn hv;have fl:((s.take i).filter λx=>decide (x≠j)).length<=12:=BM (Cs ..) (by rw[BQ];lia);refine ⟨_,rfl,_,rfl,rfl,_,rfl,?_⟩;by_cases e:k=j
   ·refine iteNP (congrArg V.int (by rw[e])) ⟨_,rfl,s3,?_⟩
    rw[K43s.take_snoc hk,Cc,EQ (by simpa using e),EL,BI];exact eZ
   ·refine iteNN (λz=>e (by injection z with z;lia)) ⟨_,rfl,_,eZ,Ar (by rw[Du];lia),_,rfl,λb o e'=>?_,?_⟩
    ·rw[Af (Ae e' hZ)]
     exact s3 b o e'
    ·rw[Ab,K43s.take_snoc hk,Cc,ER (by simpa using e),EL,Jf]
  ·rintro τ H3 ⟨o,rfl,s3,eZ⟩
   rw[Du,CF] at eZ;refine ⟨Z,_,rfl,.inl ⟨SqL.of eZ,λt ht=>?_⟩⟩;exact q t _ _ (sm.trans (s3.trans (Same.new ht _))) (SqT.of Ab) (pw.filter _) λx hx=>lt x (BS.mp hx).1
 ·refine iteN cj ?_
  refine ⟨_,rfl,_,rfl,(by show 1<=sizeLine;decide),λY hY=>?_⟩;have s3:=Same.new hY (.lst [V.int (j:Int)]);refine ⟨S,Y,_,_,rfl,rfl,s3 _ _ eS,Ab,DC (Ar (by rw[Du];show s.length+1<=1000;lia)),λZ hZ=>?_⟩;have s4:=s3.trans (Same.new hZ (.lst (nI s++[V.int (j:Int)])));refine ⟨Z,up (s++[j]),rfl,.inl (SqL.of (by rw[Ab,ABu,Jf])),by unfold up;rw[AB,AT];show s.length+1<64;lia,λW ms hW pm le=>?_⟩;obtain ⟨s',rfl,pw',mem'⟩:=AEZ pm le (HV.mpr ⟨pw.imp λh=>Cn h,by simp,λa ha b hb e=>cj (by rw[<- Bn.mp hb,<- e];exact ha)⟩);refine ⟨W,_,rfl,.inl ⟨SqL.of Ab,λt ht=>?_⟩⟩;refine q t s' _ (sm.trans (s4.trans ((Same.new hW _).trans (Same.new ht _)))) (SqT.of (by rw[Ab,ABu])) pw' λx hx=>?_;rcases B9.mp ((mem' x).mp hx) with h | h
  ·exact lt x h
  ·rw[Bn.mp h]
   lia
end
end K43
end
section
namespace K43s
open PySem L2 G
theorem ACy(a:Int)(r:List Int):atI ((a::r).map V.int) 0=some (.int a):=Bm (j:=0) (v:=V.int a) rfl
theorem Kw(l:List (List Int))(s:List Int):heads (l++[s])=heads l++if s=[] then [] else [s.headD 0]:=by
 unfold heads;rw[Cc,BU];by_cases c:s=[]
 ·simp[c]
 ·simp[c]
theorem ZC(l:List (List Int)):(heads l).length<=l.length:=by
 unfold heads;rw[AB];exact Cs _ _
theorem Xv(a:Int)(r:List Int):HT.sIx ((a::r).map V.int).length 0 (some 1)=1:=by
 rw[AB,CM];unfold HT.sIx;simp
theorem ADP(a:Int)(r:List Int):¬ (HT.sIx ((a::r).map V.int).length 0 (some 1)=0/\HT.sIx ((a::r).map V.int).length ((a::r).map V.int).length none=((a::r).map V.int).length):=λz=>by
 rw[Xv] at z;exact absurd z.1 (by decide)
theorem AAZ(a:Int)(r:List Int):cutV ((a::r).map V.int) (some 1) none=r.map V.int:=by
 unfold cutV;rw[Xv];show (r.map V.int).take _=_;apply He;show (r.map V.int).length<=((a::r).map V.int).length-1;rw[AB,AB,CM];lia
def Fz(K:As):Nat->Sp
 | 0=>λ_ _ _ _=>False
 | d+1=>λvs H Q _=>∃(R S:Addr) (n lo:Nat) (rows:List Row) (xs:List V) (ss:List (List Int)),vs=[.ref R,.ref S]/\S≠R/\H R=some (.lst xs)/\A9 (rRow K H) rows xs/\Ok n rows/\rLst K (rPair K) H ss (.ref S)/\SetsOk n lo ss /\
   n<=lo+d/\ss.length<=61/\rows.length+d*ss.length<=900 /\
   ∀(k:Nat) (more:List Row) (ys:List V) (H':Hp),(∀b o,b≠R->H b=some o->H' b=some o)->H' R=some (.lst ys)->A9 (rRow K H') (rows++more) ys->Made2 n lo d rows more k ss->Q (.int k) H'
section
variable{P:AK}{w:AR}{K:As}{mg:Str->Option Au}{base:Heap}{f C:Addr}{fd:BV}
theorem GF:FnScope ["rows","sets","tie","without","having"] ["rows","sets"] (Ag En):=⟨rfl,rfl,rfl,by decide +kernel,rfl,by decide +kernel,by decide +kernel⟩
theorem Vt(F:Fun K "knot_of" "knot_of" En f fd):FnOk P w K mg base CX0 1 f fd ["rows","sets"] (Fz K 0) :=
 F.ok GF (λvs H Q E h=>EF h) (λcdv A outer s H vs Q E hr h=>EF h)
theorem WQ(d:Nat)(F:Fun K "knot_of" "knot_of" En f fd)(T:Txt K mg C)
  (GK:FnOk P w K mg base CX0 (d+1) f fd ["rows","sets"] (Fz K d)) (bK:Binds K fd ["rows","sets"] []) (kK:AW K (.ref f)=true) (mK:mg "knot_of" = some (.ref f)) :
  FnOk P w K mg base CX0 (d+2) f fd ["rows","sets"] (Fz K (d+1)):=by
 refine F.ok GF (λvs H Q E h=>?_) (λcdv A outer s H vs Q E hr h=>?_)
 ·obtain ⟨R,S,n,lo,rows,xs,ss,rfl,_⟩:=h
  rfl
 obtain ⟨R,S,n,lo,rows,xs,ss,rfl,SR,eR,px,ok,hS,so,hd,s61,r8,q⟩:=h;refine ⟨_,Ad (Bx (Ao (Iv (Gj Dy) (Cg hr)) (pv 1) (Ce Ac) (nomark _)) (Ai (Ax Ah)) BW)
  (Ad (Bx (Ao (Iv (Gj Dy) (Cg hr)) (pv 1) (Ce (Aa (CZ Ac) Ac)) (nomark _)) (Ai (Ax Ah)) BW)
  (Ad (Av (i:=2) GF.nd rfl (HR rfl) (BJ (Zg (K:=K) rfl rfl) rfl T.min J7 (Aa (Bo (Ag En) ["some"] [] [] rfl rfl (by decide +kernel) trivial (Bv (pv 1))
    (λ_ _ _=>Aq (i:=0) (show ((["some"]:List Str)++([]:List Str)).Nodup by decide +kernel) rfl (BC rfl))
    (λ_ _ _=>Bt (Ao (AEM (K:=K) Dy (Cg hr) rfl) (pv 0) (CZ Ac) (nomark _)))
    (λ_ _ _=>BK (Qf (K:=K) rfl) (pv 0) Ah (λ_ _=>rfl))) Ac)))
  (Ad (Av (i:=3) GF.nd rfl (BC rfl) (Ay GK hr rfl mK kK bK .nil pass0 (Aa (pv 0) (Aa (Bo (Ag En) ["some"] ["tie"] [2] rfl rfl (by decide +kernel) ⟨⟨rfl,by decide +kernel⟩,trivial⟩ (Bv (pv 1))
    (λ_ _ _=>Aq (i:=0) (show ((["some"]:List Str)++(["tie"]:List Str)).Nodup by decide +kernel) rfl (BC rfl))
    (λ_ _ _=>Bt (Ao (Ma (K:=K) rfl) (pv 1) (pv 0) rfl))
    (λ_ _ _=>pv 0)) Ac))))
  (Ad (Av (i:=4) GF.nd rfl (BC rfl) (Ay GK hr rfl mK kK bK .nil pass0 (Aa (pv 0) (Aa (Bo (Ag En) ["some"] ["tie"] [2] rfl rfl (by decide +kernel) ⟨⟨rfl,by decide +kernel⟩,trivial⟩ (Bv (pv 1))
    (λ_ _ _=>Aq (i:=0) (show ((["some"]:List Str)++(["tie"]:List Str)).Nodup by decide +kernel) rfl (BC rfl))
    (λ_ _ _=>Bt (Ao (Ei (K:=K) rfl) (pv 1) (pv 0) rfl))
    (λ_ _ _=>MK (ADK (K:=K) rfl) (pv 0) (Jg Ah) Ww)) Ac))))
  (Ad (DQ (Hy DL D3 D4 Cp (pv 0) (Aa (CZ (Aa (pv 2) (Aa (pv 3) (Aa (pv 4) Ac)))) Ac)))
  (Ai (Ax (Az Cy (BJ Aw rfl T.len CL (Aa (pv 0) Ac)) Ah)))))))),?_⟩
 refine ⟨_,rfl,A8 _,λL0 hL0=>?_⟩;have s0:=Same.new hL0 (.lst []);refine ⟨ss,[],Gh (Ak Am) s0 hS,⟨L0,[],rfl,SqL.of Ab,.nil⟩,_,rfl,?_⟩;by_cases e0:ss=[]
 ·refine iteP e0 ?_
  exact q 0 [] xs _ (λb o _ e=>s0 b o e) (s0 _ _ eR) (by rw[BI];exact Paired.imp (λa b=>Bd _ _ a b s0.ts) px) (Made2.none ok e0)
 refine iteN e0 ?_;refine ⟨_,rfl,A8 _,λT0 hT0=>⟨(by show 1<=sizeLine;decide),λL1 hL1=>?_⟩⟩;have s1:=s0.trans (Same.new hT0 (.tup []));have s2:=s1.trans (Same.new hL1 (.lst [.ref T0]));have eT0:(upd (upd (upd H L0 (.lst [])) T0 (.tup [])) L1 (.lst [.ref T0])) T0=some (.tup []):=Same.new hL1 (.lst [.ref T0]) _ _ Ab;refine ⟨ss,[[]],Gh (Ak Am) s2 hS,⟨L1,[.ref T0],rfl,SqL.of Ab,Paired.one ⟨T0,[],rfl,SqT.of eT0,.nil⟩⟩,_,rfl,?_⟩;generalize upd (upd (upd H L0 (.lst [])) T0 (.tup [])) L1 (.lst [.ref T0])=H2 at s2 ⊢;by_cases e1:ss=[[]]
 ·refine iteP e1 ?_
  exact q 1 [] xs _ (λb o _ e=>s2 b o e) (s2 _ _ eR) (by rw[BI];exact Paired.imp (λa b=>Bd _ _ a b s2.ts) px) (Made2.one ok e1)
 refine iteN e1 ?_;obtain ⟨S',zs,eS,hSq,pz⟩:=Gh (Ak Am) s2 hS;cases eS;have lz:ss.length=zs.length:=AQ pz;have eR2:=s2 _ _ eR;have px2:A9 (rRow K H2) rows xs:=Paired.imp (λa b=>Bd _ _ a b s2.ts) px;have lx:rows.length=xs.length:=AQ px;refine ⟨_,rfl,S,rfl,⟨_,hSq⟩,λY hY=>?_⟩;refine Bl (K:=K) (a:=S) (xs:=zs) (λj τ H3=>∃o:Option V,τ=[o]/\Same H2 H3/\H3 Y=some (.lst ((heads (ss.take j)).map V.int))) ⟨none,rfl,Same.new hY _,Ab⟩ (λj τ H3 _ ⟨_,_,s3,_⟩=>s3.seq hSq) ?_ ?_
 ·rintro j x τ H3 hx ⟨o,rfl,s3,eY⟩
  obtain ⟨sj,hj,rj⟩:=Paired.get pz hx;obtain ⟨p,rfl,hp⟩:=Bq rj;refine ⟨_,rfl,A8 _,λT1 hT1=>?_⟩;have s4:=Same.new hT1 (.tup []);have s34:=s3.trans s4;refine ⟨sj,[],Ak Am _ _ _ _ s34.ts rj,⟨T1,[],rfl,SqT.of Ab,.nil⟩,_,rfl,?_⟩;have hl:=ZC (ss.take j);have hl2:(ss.take j).length<=61:=by rw[BQ];lia
  refine ite2 (λc=>?_) (λc=>?_)
  ·cases sj with
   | nil=>exact absurd c (by decide)
   | cons a r =>
    refine ⟨_,rfl,p,_,_,_,rfl,rfl,s34.ts.seq hp,ACy a r,_,s4 _ _ eY,Ar (by rw[AB];lia),_,rfl,λb o e=>?_,?_⟩
    ·rw[Af (Ae e hY)]
     exact s34 b o e
    ·rw[Ab,take_snoc hj,Kw,BU]
     rfl
  ·refine ⟨_,rfl,s34,?_⟩
   have en:sj=[]:=by simpa using c
   rw[take_snoc hj,Kw,en,if_pos rfl,BI];exact s4 _ _ eY
 rintro τ H3 ⟨o,rfl,s3,eY⟩;rw[<- lz,CF] at eY;refine ⟨Y,heads ss,rfl,SqL.of eY,?_,λm hm hl=>?_⟩
 ·obtain ⟨s',hs',ne⟩:=so.some e0 e1
  cases s' with
  | nil=>exact absurd rfl ne
  | cons a r=>exact EU (Eb.mpr ⟨r,hs'⟩)
 obtain ⟨t,rfl⟩:∃t:Nat,m=t:=by
  obtain ⟨r,hr⟩:=Eb.mp hm;have:=(so.rng _ hr m AC).1;exact ⟨m.toNat,by lia⟩
 obtain ⟨tlo,tn⟩:=so.least hm;obtain ⟨d',rfl⟩:∃d',d=d'+1:=⟨d-1,by lia⟩;have out:=so.out hl;have into:=so.into hl;have sp:=split_len (λs=>decide ((t:Int)∈s)) ss;have l1:1<=ss.length:=Q7.mpr e0;have mul1:d'*(ss.filter λs=>!decide ((t:Int)∈s)).length+d'*(ss.filter λs=>decide ((t:Int)∈s)).length=d'*ss.length:=by rw[<- X6,sp]
 have mul2:(d'+1)*ss.length=d'*ss.length+ss.length:=Nat.succ_mul _ _;have eR3:=s3 _ _ eR2;have px3:A9 (rRow K H3) rows xs:=Paired.imp (λa b=>Bd _ _ a b s3.ts) px2;have pz3:A9 (rPair K H3) ss zs:=Paired.imp (λa b=>Ak Am _ _ a b s3.ts) pz;have hSq3:=s3.seq hSq;refine ⟨_,rfl,_,rfl,S,rfl,⟨_,hSq3⟩,λY2 hY2=>?_⟩;refine Bl (K:=K) (a:=S) (xs:=zs) (λj τ H4=>∃(o:Option V) (ys:List V),τ=[o,some (.int t)]/\Same H3 H4/\H4 Y2=some (.lst ys)/\A9 (rPair K H4) ((ss.take j).filter λs=>!decide ((t:Int)∈s)) ys) ⟨none,[],rfl,Same.new hY2 _,Ab,.nil⟩ (λj τ H4 _ ⟨_,_,_,s4,_⟩=>s4.seq hSq3) ?_ ?_
 ·rintro j x τ H4 hx ⟨o,ys,rfl,s4,eY2,py⟩
  obtain ⟨sj,hj,rj⟩:=Paired.get pz3 hx;obtain ⟨p,rfl,hp⟩:=Bq rj;refine ⟨_,rfl,_,rfl,p,sj.map V.int,rfl,.inr (s4.ts.seq hp),rfl,Gk sj,_,rfl,?_⟩;rw[if_pos rfl,Ef];show putD Y2 _ _ _ (!decide ((t:Int)∈sj)) _;have ef:(ss.take (j+1)).filter (λs=>!decide ((t:Int)∈s))=(ss.take j).filter (λs=>!decide ((t:Int)∈s))++(if (!decide ((t:Int)∈sj))=true then [sj] else []):=by
   rw[take_snoc hj,Cc,Da,EL]
  have ly:ys.length<=61:=by
   rw[<- AQ py];refine BM (Cs _ _) ?_;rw[BQ];lia
  refine ite2 (λc=>?_) (λc=>?_)
  ·refine ⟨_,rfl,_,eY2,Ar (by lia),_,_,rfl,λb o e=>?_,Ab,?_⟩
   ·rw[Af (Ae e hY2)]
    exact s4 b o e
   ·rw[ef,if_pos c]
    have tl:=TSm.lst (o:=.lst (ys++[.ref p])) eY2;exact Paired.app (Paired.imp (λa b r=>Ak Am _ _ _ _ tl r) py) (Paired.one (Ak Am _ _ _ _ (s4.ts.trans tl) rj))
  ·refine ⟨_,_,rfl,s4,eY2,?_⟩
   rw[ef,if_neg c,BI];exact py
 rintro τ H4 ⟨o,ys,rfl,s4,eY2,py⟩;rw[<- lz,CF] at py;have eR4:=s4 _ _ eR3;have RY2:Y2≠R:=λz=>by rw[z,eR3] at hY2;cases hY2
 have px4:A9 (rRow K H4) rows xs:=Paired.imp (λa b=>Bd _ _ a b s4.ts) px3;refine ⟨R,Y2,n,t+1,rows,xs,_,rfl,RY2,eR4,px4,ok,⟨Y2,ys,rfl,SqL.of eY2,py⟩,out,by lia,by lia,by lia,λk1 more1 ys1 H5 k5 eR5 px5 M1=>?_⟩;have ts5:=tsX k5 eR4;have hSq5:SqL K H5 S zs:=seqX k5 SR (s4.seq hSq3);have pz5:A9 (rPair K H5) ss zs:=Paired.imp (λa b=>Ak Am _ _ a b (s4.ts.trans ts5)) pz3;refine ⟨_,rfl,_,rfl,S,rfl,⟨_,hSq5⟩,λY3 hY3=>?_⟩;refine Bl (K:=K) (a:=S) (xs:=zs) (λj τ H6=>∃(o:Option V) (ys:List V),τ=[o,some (.int t)]/\Same H5 H6/\H6 Y3=some (.lst ys)/\A9 (rPair K H6) (((ss.take j).filter λs=>decide ((t:Int)∈s)).map OL) ys) ⟨none,[],rfl,Same.new hY3 _,Ab,.nil⟩ (λj τ H6 _ ⟨_,_,_,s6,_⟩=>s6.seq hSq5) ?_ ?_
 ·rintro j x τ H6 hx ⟨o,ys,rfl,s6,eY3,py⟩
  obtain ⟨sj,hj,rj⟩:=Paired.get pz5 hx;obtain ⟨p,rfl,hp⟩:=Bq rj;refine ⟨_,rfl,_,rfl,p,sj.map V.int,rfl,.inr (s6.ts.seq hp),rfl,Gk sj,_,rfl,?_⟩;rw[if_neg (show ¬ (false=true) by decide),Ef];show putD Y3 _ _ _ (decide ((t:Int)∈sj)) _;have ef:(ss.take (j+1)).filter (λs=>decide ((t:Int)∈s))=(ss.take j).filter (λs=>decide ((t:Int)∈s))++(if (decide ((t:Int)∈sj))=true then [sj] else []):=by
   rw[take_snoc hj,Cc,Da,EL]
  have ly:ys.length<=61:=by
   rw[<- AQ py,AB];refine BM (Cs _ _) ?_;rw[BQ];lia
  refine ite2 (λc=>?_) (λc=>?_)
  ·cases sj with
   | nil=>exact absurd (of_decide_eq_true c) (λz=>nomatch z)
   | cons a r =>
    refine ⟨_,rfl,_,rfl,p,(a::r).map V.int,rfl,s6.ts.seq hp,ADP a r,λT3 hT3=>?_⟩;rw[AAZ];have s7:=Same.new hT3 (.tup (r.map V.int));refine ⟨_,s7 _ _ eY3,Ar (by lia),_,_,rfl,λb o e=>?_,Ab,?_⟩
    ·rw[Af (Ae e hY3)]
     exact s7 _ _ (s6 b o e)
    ·rw[ef,if_pos c,BU]
     have tl:=TSm.lst (o:=.lst (ys++[.ref T3])) (s7 _ _ eY3);exact Paired.app (Paired.imp (λa b r=>Ak Am _ _ _ _ (s7.ts.trans tl) r) py) (Paired.one (Ak Am _ _ _ _ tl (Cj (ns:=r) Ab)))
  ·refine ⟨_,_,rfl,s6,eY3,?_⟩
   rw[ef,if_neg c,BI];exact py
 rintro τ H6 ⟨o,ys3,rfl,s6,eY3,py⟩;rw[<- lz,CF] at py;have eR6:=s6 _ _ eR5;have RY3:Y3≠R:=λz=>by rw[z,eR5] at hY3;cases hY3
 have px6:A9 (rRow K H6) (rows++more1) ys1:=Paired.imp (λa b=>Bd _ _ a b s6.ts) px5;have lm1:=M1.base.len;refine ⟨R,Y3,n,t+1,rows++more1,ys1,_,rfl,RY3,eR6,px6,M1.base.ok,⟨Y3,ys3,rfl,SqL.of eY3,py⟩,into,by lia,by rw[AB];lia,by rw[AB,AT];lia,λk2 more2 ys2 H7 k7 eR7 px7 M2=>?_⟩;have lm2:=M2.base.len;rw[AB] at lm2;have ly2:ys2.length=rows.length+more1.length+more2.length:=by rw[<- AQ px7,AT,AT]
 refine ⟨_,rfl,.inl ⟨rfl,_,SqL.of eR7⟩,_,rfl,_,rfl,_,rfl,(by show 3<=sizeLine;decide),λT4 hT4=>?_⟩;have s8:=Same.new hT4 (.tup [.int (t:Int),.int (k1:Int),.int (k2:Int)]);have eR8:=s8 _ _ eR7;refine ⟨R,ys2,_,rfl,rfl,eR8,Ar (by lia),?_⟩;refine ⟨_,rfl,R,_,rfl,.inl (SqL.of Ab),_,_,rfl,rfl,?_⟩;have M:=Made2.step so hl M1 M2 l1 tn tlo;have ek:(((ys2++[V.ref T4]).length:Nat):Int)+1=(((rows++(more1++more2)).length+2:Nat):Int):=by
  rw[AT,AT,AT,Dx];lia
 rw[show (λ(i j:Int)=>V.int (i+j)) (((ys2++[V.ref T4]).length:Nat):Int) 1=V.int (((rows++(more1++more2)).length+2:Nat):Int) from congrArg V.int ek];refine q _ _ (ys2++[.ref T4]) _ (λb o nb e=>?_) Ab ?_ M
 ·rw[Af nb]
  exact s8 _ _ (k7 _ _ nb (s6 _ _ (k5 _ _ nb (s4 _ _ (s3 _ _ (s2 b o e))))))
 ·have tl:=TSm.lst (o:=.lst (ys2++[.ref T4])) eR8
  have er:rows++(more1++more2++[(t,k1,k2)])=rows++more1++more2++[(t,k1,k2)]:=by simp
  rw[er];exact Paired.app (Paired.imp (λa b r=>Bd _ _ _ _ (s8.ts.trans tl) r) px7) (Paired.one ⟨T4,rfl,tl.seq (SqT.of Ab)⟩)
theorem NP(F:Fun K "knot_of" "knot_of" En f fd)(T:Txt K mg C)(bK:Binds K fd ["rows","sets"] [])(kK:AW K (.ref f)=true)(mK:mg "knot_of" = some (.ref f)) :
  ∀d,FnOk P w K mg base CX0 (d+1) f fd ["rows","sets"] (Fz K d)
 | 0=>Vt F
 | d+1=>WQ d F T (NP F T bK kK mK d) bK kK mK
end
theorem XF:∀{l m:List Int},l.Pairwise (· < ·)->m.Pairwise (· < ·)->(∀x,x∈l↔x∈m)->l=m
 | [],[],_,_,_=>rfl
 | [],b::m,_,_,h=>absurd ((h b).mpr AC) (λz=>nomatch z)
 | a::l,[],_,_,h=>absurd ((h a).mp AC) (λz=>nomatch z)
 | a::l,b::m,hl,hm,h=>by
  obtain ⟨l1,l2⟩:=Cf.mp hl;obtain ⟨m1,m2⟩:=Cf.mp hm;have e:a=b:=by
   rcases Be.mp ((h a).mp AC) with e | e
   ·exact e
   ·rcases Be.mp ((h b).mpr AC) with e' | e'
    ·exact e'.symm
    ·have:=m1 a e
     have:=l1 b e';lia
  subst e
  congr 1
  refine XF l2 m2 λx=>⟨λhx=>?_,λhx=>?_⟩
  ·rcases Be.mp ((h x).mp (AG _ hx)) with e | e
   ·have:=l1 x hx;lia
   ·exact e
  ·rcases Be.mp ((h x).mpr (AG _ hx)) with e | e
   ·have:=m1 x hx;lia
   ·exact e
def GoodS(n:Nat)(s:List Int):Prop:=s.Pairwise (· < ·)/\∀x∈s,0<=x/\x<n
theorem RW(n:Nat)(f:Int->Bool):(upTo n f).Pairwise (· < ·):=by
 unfold L2.upTo;refine Yf _ ?_;rw[CS];exact JY.imp λh=>by lia
theorem mem_upTo{n:Nat}{f:Int->Bool}{x:Int}:x∈upTo n f↔(0<=x/\x<n)/\f x=true:=by
 unfold L2.upTo;rw[BS,AY];constructor
 ·rintro⟨⟨i,hi,rfl⟩,h⟩
  have:=AS.mp hi;exact ⟨by lia,h⟩
 ·rintro⟨⟨a,b⟩,h⟩
  exact ⟨⟨x.toNat,AS.mpr (by lia),by lia⟩,h⟩
theorem ACZ{n:Nat}{s:List Int}:s=upTo n (λi=>decide (i∈s))↔GoodS n s:=by
 constructor
 ·intro e
  refine ⟨?_,λx hx=>?_⟩
  ·rw[e];exact RW _ _
  ·rw[e] at hx;exact (mem_upTo.mp hx).1
 ·rintro⟨h1,h2⟩
  refine XF h1 (RW _ _) λx=>⟨λhx=>mem_upTo.mpr ⟨h2 x hx,decide_eq_true hx⟩,λhx=>of_decide_eq_true (mem_upTo.mp hx).2⟩
theorem ABz{K:As}{H H':Hp}{s:List Int}{x:V}(e:Same H H')(h:rSeq K H s x):rSeq K H' s x:=h.elim (λz=>.inl (Gh Am e z)) λz=>.inr (Ak Am _ _ _ _ e.ts z)
theorem Ye{rows:List Row}(h:∀t,(rows.filter λr=>decide (r.1=t)).length<=300)(top:Nat):FewB rows top :=
 ⟨λ_=>True,trivial,λ_ _ _ _=>⟨trivial,trivial⟩,λt ks hk un=>BM (Ou ks (λk h=>⟨(hk k h).2.1,(hk k h).2.2.1,(hk k h).2.2.2.1⟩) (un.imp λ{a b} ⟨s,h⟩ e=>h (by rw[e]))) (h t)⟩
theorem Uy{ms:List (List Int)}(h:ms.Pairwise (λa b=>HT.lexLt a b=true)):ms.Nodup:=h.imp λ{a b} z e=>by rw[e,HJ] at z;cases z
theorem nodup_subL:∀(l m:List (List Int)),l.Nodup->(∀r∈l,r∈m)->l.length<=m.length
 | [],_,_,_=>A8 _
 | a::l,m,nd,h=>by
  have am:a∈m:=h a (AC ..);obtain ⟨na,nl⟩:=CU.mp nd;have:=nodup_subL l (m.erase a) nl λr hr=>(IA (λ(e:r=a)=>na (by rw[<- e];exact hr))).mpr (h r (AG _ hr));rw[E9 am] at this;have:=EU am;rw[CM];lia
def YZ(K:As):Sp:=λvs H Q _=>∃(p:Addr) (n:Nat) (s:List Int),vs=[.int n,.ref p]/\Sq K H p (s.map V.int)/\n<=12/\∀H',Same H H'->Q (.bl (decide (s=upTo n λi=>decide (i∈s)))) H'
structure SetsAt(K:As)(H:Hp)(S:Addr)(ss:List (List Int)):Prop where
 at_:∃xs,Sq K H S xs/\A9 (rSeq K H) ss xs
 len:ss.length<=60
def Ti:Sp:=λvs H Q _=>∃(n:Nat),vs=[.int n]/\n<=12/\Q .non H
def Xx(K:As)(C:Addr):Sp:=λvs H Q _=>∃(S:Addr) (n:Nat) (ss:List (List Int)),vs=[.int n,.ref S]/\n<=12/\SetsAt K H S ss/\(∀s∈ss,GoodS n s) /\
 ∀(p:Addr) (nums:List Row) (hd:Nat) (H':Hp),Same H H'->SvAt K C H' p n nums hd->Canon n nums hd->(∀s,led nums hd s=decide (up s∈ss))->nums.length<=4000->Q (.ref p) H'
section
variable{P:AK}{w:AR}{K:As}{mg:Str->Option Au}{base:Heap}{f C:Addr}{fd:BV}
theorem ADs:FnScope ["n","some"] ["n","some"] (Ag Hs):=⟨rfl,rfl,rfl,by decide +kernel,rfl,by decide +kernel,by decide +kernel⟩
theorem ACW(F:Fun K "is_set_below" "is_set_below" Hs f fd)(T:Txt K mg C):FnOk P w K mg base CX0 1 f fd ["n","some"] (YZ K):=by
 refine F.ok ADs (λvs H Q E h=>?_) (λcdv A outer s H vs Q E hr h=>?_)
 ·obtain ⟨p,n,s,rfl,_⟩:=h
  rfl
 obtain ⟨p,n,s0,rfl,hS,n12,q⟩:=h;refine ⟨_,Ai (Ax (DR (Iv Dy (Cg hr)) (BP FT rfl T.list Hd (Aa (pv 1) Ac))
  (Bo (Ag Hs) ["tie"] ["some"] [1] rfl rfl (by decide +kernel) ⟨⟨rfl,by decide +kernel⟩,trivial⟩ (DG rfl T.range (Aa (pv 0) Ac))
   (λ_ _ _=>Aq (i:=0) (show ((["tie"]:List Str)++(["some"]:List Str)).Nodup by decide +kernel) rfl (BC rfl))
   (λ_ _ _=>Bt (Ao (Ei (K:=K) rfl) (pv 0) (pv 1) rfl))
   (λ_ _ _=>pv 0)) (nomark _))),?_⟩
 refine ⟨_,rfl,p,_,rfl,hS,λl hl=>?_⟩;have s1:=Same.new hl (.lst (s0.map V.int));refine ⟨_,rfl,n,rfl,by lia,by lia,λD hD=>?_⟩;have hS1:=Sq.same hS s1;refine Dq (lo:=0) (n:=(n:Int).toNat) (λj τ H2=>∃o:Option V,τ=[o,some (.ref p)]/\Same (upd H l (.lst (s0.map V.int))) H2/\H2 D=some (.lst ((upTo j λi=>decide (i∈s0)).map V.int))) ⟨none,rfl,Same.new hD _,Ab⟩ ?_ ?_
 ·rintro j τ H2 hj ⟨o,rfl,s2,eD⟩
  have ej:(0:Int)+j=(j:Int):=by lia
  rw[ej];refine ⟨_,rfl,_,rfl,p,s0.map V.int,rfl,Sq.same hS1 s2,rfl,Gk s0,_,rfl,?_⟩;rw[if_neg (show ¬ (false=true) by decide),Ef];show putD D _ _ _ (decide ((j:Int)∈s0)) _;have hl:=ACs j λi=>decide (i∈s0);refine ite2 (λc=>?_) (λc=>?_)
  ·refine ⟨_,rfl,_,eD,Ar (by rw[AB];lia),_,rfl,λb o e=>?_,?_⟩
   ·rw[Af (Ae e hD)]
    exact s2 b o e
   ·rw[Ab,Pg,if_pos c,BU]
    rfl
  ·refine ⟨_,rfl,s2,?_⟩
   rw[Pg,if_neg c,BI];exact eD
 ·rintro τ H2 ⟨o,rfl,s2,eD⟩
  rw[CI] at eD;exact ⟨s0,_,⟨l,_,rfl,SqL.of (s2 _ _ Ab),paired_ints _⟩,⟨D,_,rfl,SqL.of eD,paired_ints _⟩,q H2 (s1.trans s2)⟩
theorem AAP:FnScope ["n"] ["n"] (Ag ACS):=⟨rfl,rfl,rfl,by decide +kernel,rfl,by decide +kernel,by decide +kernel⟩
theorem WM(F:Fun K "refuse_amount" "refuse_amount" ACS f fd)(T:Txt K mg C):FnOk P w K mg base CX0 1 f fd ["n"] Ti:=by
 refine F.ok AAP (λvs H Q E h=>?_) (λcdv A outer s H vs Q E hr h=>?_)
 ·obtain ⟨n,rfl,_⟩:=h
  rfl
 obtain ⟨n,rfl,n12,q⟩:=h;obtain ⟨t1,e1⟩:=T.mt;refine ⟨_,Ai (Bx (PW.pt (Lf (Ao Ug (pv 0) Ah (nomark _)) (HD (Ao JT (pv 0) (Qz (v:=.int 12) rfl e1 ⟨t1,rfl⟩) (nomark _))))) Dg BW),?_⟩;refine ⟨_,rfl,_,_,rfl,rfl,_,rfl,?_⟩;refine iteN (by lia) ?_;refine ⟨_,rfl,_,_,rfl,rfl,_,rfl,?_⟩;exact iteN (by lia) q
theorem Jm:FnScope ["n","sets","some","rows","top"] ["n","sets"] (Ag Pz):=⟨rfl,rfl,rfl,by decide +kernel,rfl,by decide +kernel,by decide +kernel⟩
theorem AAV{fA fB fK fG:Addr}{fdA fdB fdK fdG:BV}(F:Fun K "sieve_of" "sieve_of" Pz f fd)(T:Txt K mg C)
  (GA:FnOk P w K mg base CX0 1 fA fdA ["n"] Ti) (bA:Binds K fdA ["n"] []) (kA:AW K (.ref fA)=true) (mA:mg "refuse_amount" = some (.ref fA))
  (GB:FnOk P w K mg base CX0 1 fB fdB ["n","some"] (YZ K)) (bB:Binds K fdB ["n","some"] []) (kB:AW K (.ref fB)=true) (mB:mg "is_set_below" = some (.ref fB))
  (GK:FnOk P w K mg base CX0 (13+1) fK fdK ["rows","sets"] (Fz K 13)) (bK:Binds K fdK ["rows","sets"] []) (kK:AW K (.ref fK)=true) (mK:mg "knot_of" = some (.ref fK))
  (GG:FnOk P w K mg base CX0 3 fG fdG ["n","rows","top"] (Qw K C)) (bG:Binds K fdG ["n","rows","top"] []) (kG:AW K (.ref fG)=true) (mG:mg "least_graph" = some (.ref fG)) :
  FnOk P w K mg base CX0 15 f fd ["n","sets"] (Xx K C):=by
 refine F.ok Jm (λvs H Q E h=>?_) (λcdv A outer s H vs Q E hr h=>?_)
 ·obtain ⟨S,n,ss,rfl,_⟩:=h
  rfl
 obtain ⟨S,m,ss,rfl,m12,hS,gd0,qg⟩:=h;have hr1:Room 1 _:=hr.mono (by decide);refine ⟨_,Ad (DQ (Ay GA hr1 rfl mA kA bA .nil pass0 (Aa (pv 0) Ac)))
  (Ad (Cw Db rfl (WR (pv 1)) (Aq (i:=2) Jm.nd rfl (BC rfl))
   (Ai (Bx (VJ (Qu (Ay GB hr1 rfl mB kB bB .nil pass0 (Aa (pv 0) (Aa (pv 2) Ac)))))
    Dg BW)))
  (Ad (Av (i:=3) Jm.nd rfl (BC rfl) (Ce Ac))
  (Ad (Av (i:=4) Jm.nd rfl (BC rfl) (Ay GK hr rfl mK kK bK .nil pass0 (Aa (pv 3) (Aa (JW rfl (Cg hr) rfl T.sorted rfl T.set
    (Bo (Ag Pz) ["some"] [] [] rfl rfl (by decide +kernel) trivial (WR (pv 1))
     (λ_ _ _=>Aq (i:=0) (show ((["some"]:List Str)++([]:List Str)).Nodup by decide +kernel) rfl (BC rfl)) (λ_ _ _=>Dp)
     (λ_ _ _=>BP (Ln (K:=K) rfl) rfl T.tuple C2 (Aa (pv 0) Ac)))) Ac))))
  (Ai (Ax (Ay GG (hr.mono (by decide)) rfl mG kG bG .nil pass0 (Aa (pv 0) (Aa (pv 3) (Aa (pv 4) Ac))))))))),?_⟩
 refine ⟨_,rfl,m,rfl,m12,?_⟩;obtain ⟨xs,hx,px⟩:=hS.at_;have lx:ss.length=xs.length:=AQ px;have l60:=hS.len;refine ⟨_,rfl,S,rfl,Xm (K:=K) (a:=S) (xs:=xs) hx (λi σ H2=>∃o2:Option V,σ=[some (.int m),some (.ref S),o2,none,none]/\Same H H2/\∀s∈ss.take i,GoodS m s) ⟨none,rfl,Same.refl _,λs hs=>by simp at hs⟩ (λi σ H2 _ ⟨_,_,sm,_⟩=>sm) ?_ ?_⟩
 ·rintro i x σ H2 hxi ⟨o2,rfl,sm,gd⟩
  obtain ⟨si,hi,ri⟩:=Paired.get px hxi;obtain ⟨p,rfl,hp⟩:=Tt ri;refine ⟨_,rfl,_,rfl,p,m,si,rfl,Sq.same hp sm,by lia,λH3 s3=>⟨_,rfl,?_⟩⟩;have s03:=sm.trans s3;rw[decide_eq_true (ACZ.mpr (gd0 si (Bi hi)))];refine iteF ⟨_,rfl,s03,λs hs=>?_⟩;rw[take_snoc hi] at hs;rcases B9.mp hs with hs | hs
  ·exact gd s hs
  ·rw[Bn.mp hs];exact gd0 si (Bi hi)
 rintro σ H2 ⟨o2,rfl,sm,gd⟩;rw[<- lx,CF] at gd;refine ⟨A8 _,λR hR=>?_⟩;have s3:=sm.trans (Same.new hR (.lst []));have nR:H R=none:=sm.free hR;refine ⟨_,rfl,_,rfl,S,rfl,Yv (Sq.same hx s3) λD hD=>⟨λi τ H6=>∃(n:Option V) (ys:List V),τ=[n]/\Same (upd H2 R (.lst [])) H6/\H6 D=some (.lst ys)/\A9 (rPair K H6) (ss.take i) ys,⟨none,[],rfl,Same.new hD _,Ab,.nil⟩,λi τ H6 _ ⟨_,_,_,z,_⟩=>z,?_,?_⟩⟩
 ·rintro i x τ H6 hxi ⟨o,ys,rfl,s6,eD,py⟩
  obtain ⟨si,hi,ri⟩:=Paired.get px hxi;have ri6:=ABz (s3.trans s6) ri;have ly:ys.length<=60:=by
   rw[<- AQ py,BQ];lia
  refine yesN ?_;rcases ri6 with⟨p,zs,rfl,hp,pz⟩ | h6
  ·have ez:=Eo pz
   subst ez;refine ⟨_,rfl,p,_,rfl,.inl ⟨hp,λT1 hT1=>?_⟩⟩;have s7:=Same.new hT1 (.tup (si.map V.int));refine ⟨_,s7 _ _ eD,Ar (by lia),_,_,rfl,λb o e=>?_,Ab,?_⟩
   ·rw[Af (Ae e hD)]
    exact s7 _ _ (s6 b o e)
   ·rw[take_snoc hi]
    have tl:=TSm.lst (o:=.lst (ys++[.ref T1])) (s7 _ _ eD);exact Paired.app (Paired.imp (λa b r=>Ak Am _ _ _ _ (s7.ts.trans tl) r) py) (Paired.one (Ak Am _ _ _ _ tl (Cj (ns:=si) Ab)))
  ·obtain ⟨p,rfl,hp⟩:=Bq h6
   refine ⟨_,rfl,p,_,rfl,.inr ⟨hp,?_⟩⟩;refine ⟨_,eD,Ar (by lia),_,_,rfl,λb o e=>?_,Ab,?_⟩
   ·rw[Af (Ae e hD)]
    exact s6 b o e
   ·rw[take_snoc hi]
    have tl:=TSm.lst (o:=.lst (ys++[.ref p])) eD;exact Paired.app (Paired.imp (λa b r=>Ak Am _ _ _ _ tl r) py) (Paired.one (Ak Am _ _ _ _ tl h6))
 rintro τ H6 ⟨o,ys,rfl,s6,eD,py⟩;rw[<- lx,CF] at py;refine ⟨D,ys,ss,rfl,SqL.of eD,py,λms nd hm=>BM (nodup_subL ms ss nd hm) (by lia),λL zs ms hL so mem pr _=>?_⟩;have nd:=Uy so;have lm:ms.length<=60:=BM (nodup_subL ms ss nd λr hr=>(mem r).mp hr) l60;have s7:=Same.new hL (.lst zs);have eR6:H6 R=some (.lst []):=s6 _ _ Ab;have LR:L≠R:=λz=>by rw[z,eR6] at hL;cases hL
 refine ⟨R,L,m,0,[],[],ms,rfl,LR,s7 _ _ eR6,.nil,λi r h=>by simp at h,⟨L,zs,rfl,SqL.of Ab,Paired.imp (λa b r=>Ak Am _ _ _ _ s7.ts r) pr⟩,
  ⟨nd,λs hs=>(gd s ((mem s).mp hs)).1,λs hs x hx=>by have:=(gd s ((mem s).mp hs)).2 x hx;lia⟩,(by show m<=0+12;lia),by lia,(by show 0+12*ms.length<=900;lia),λk more ys7 H7 k7 eR7 px7 M=>?_⟩
 have ml:more.length<=12*ms.length:=M.base.len;refine ⟨_,rfl,_,rfl,_,rfl,R,m,k,more,rfl,RowsAt.of ⟨R,ys7,rfl,SqL.of eR7,px7⟩,M.base.ok,by lia,by lia,Ye (λt=>BM (M.base.cnt t) (by lia)) k,M.base.kn,λp nums hd H' s' h1 h2 h3 h4=>qg p nums hd H' (λb o e=>?_) h1 h2 (λs=>?_) h4.1⟩
 ·exact s' _ _ (k7 _ _ (Ae e nR) (s7 _ _ (s6 _ _ (s3 b o e))))
 ·rw[h3 s]
  show led more k s=_;have e1:led more k s=decide (up s∈ms):=M.sem s;rw[e1];exact decide_eq_decide.mpr (mem (up s))
end
end K43s
end
section
namespace K43
open PySem L2 G
theorem Oo(z:Int)(j:Addr)(h:Int){m:Str}(h1:¬ m = "head")(h2:¬ m = "rows")(h3:¬ m = "amount"):(K43s.flds z j h).lookup m=none:=K43s.DW z j h h1 h2 h3
def PN(K:As)(S:Addr):Sp:=λvs H Q _=>∃(p:Addr) (n hd:Nat) (nums:List Row),vs=[.ref p,.int n]/\K43s.SvAt K S H p n nums hd/\Canon n nums hd/\n<=12/\nums.length<=4000/\∀(H':Hp),Same H H'->Q (.bl true) H'
theorem XH{K:As}{H:Hp}:∀{ss:List (List Nat)}{ys:List V},A9 (K43s.rTies K H) ss ys->A9 (rSeq K H) (ss.map up) ys
 | _,_,.nil=>.nil
 | _,_,.cons ⟨p,e,h⟩ t=>.cons (.inr (by rw[e];exact Cj h)) (XH t)
section
variable{P:AK}{w:AR}{K:As}{mg:Str->Option Au}{base:Heap}{f C D S:Addr}{fd:BV}
theorem PX:FnScope ["_law_sieve","_law_n","_law_other"] ["_law_sieve","_law_n"] (Ag Ku):=⟨rfl,rfl,rfl,by decide +kernel,rfl,by decide +kernel,by decide +kernel⟩
theorem Wf{fS fV fK fT:Addr}{fdS fdV fdK fdT:BV}(F:Fun K "_law_is_least" "_law_is_least" Ku f fd)(T:Txt K mg C)(cS:Cls K S)
  (GS:FnOk P w K mg base CX0 2 fS fdS ["sieve"] (K43s.VR K S)) (bS:Binds K fdS ["sieve"] []) (kS:AW K (.ref fS)=true) (mS:mg "sets_of" = some (.ref fS))
  (GV:FnOk P w K mg base CX0 15 fV fdV ["n","sets"] (K43s.Xx K S)) (bV:Binds K fdV ["n","sets"] []) (kV:AW K (.ref fV)=true) (mV:mg "sieve_of" = some (.ref fV))
  (GK:FnOk P w K mg base CX0 1 fK fdK ["self"] (K43s.Jq K S)) (bK:Binds K fdK ["self"] []) (mK:Meth K S "knots" fK)
  (GT:FnOk P w K mg base CX0 1 fT fdT ["self"] (K43s.Uc K S)) (bT:Binds K fdT ["self"] []) (mT:Meth K S "top" fT) :
  FnOk P w K mg base CX0 16 f fd ["_law_sieve","_law_n"] (PN K S):=by
 refine F.ok PX (λvs H Q E h=>?_) (λcdv A outer s H vs Q E hr h=>?_)
 ·obtain ⟨p,n,hd,nums,rfl,_⟩:=h
  rfl
 obtain ⟨p,n,hd,nums,rfl,hV,cn,n12,r4,q⟩:=h;have hr1:Room 1 _:=hr.mono (by decide);have hr2:Room 2 _:=hr.mono (by decide);refine ⟨_,Ad (Bx (PW.pt (Lf (Ao JT (pv 1) Ah (nomark _)) (HD (Ao JT (BJ Aw rfl T.len CL (Aa (Ay GS hr2 rfl mS kS bS .nil pass0 (Aa (pv 0) Ac)) Ac)) Ah (nomark _))))) (Ai (Ax Kz)) BW)
  (Ad (Av (i:=2) PX.nd rfl (BC rfl) (Ay GV hr rfl mV kV bV .nil pass0 (Aa (pv 1) (Aa (Ay GS hr2 rfl mS kS bS .nil pass0 (Aa (pv 0) Ac)) Ac))))
  (Ai (Ax (Vw (DR (Iv (Gj Dy) (Cg hr)) (CG (pv 2) cS mK GK hr1 bK .nil pass0) (CG (pv 0) cS mK GK hr1 bK .nil pass0) (nomark _))
   (VH (DR Ci (CG (pv 2) cS mT GT hr1 bT .nil pass0) (CG (pv 0) cS mT GT hr1 bT .nil pass0) (nomark _))))))),?_⟩
 refine ⟨_,rfl,_,_,rfl,rfl,_,rfl,?_⟩;refine ite2 (λ_=>iteT (q _ (Same.refl _))) (λ_=>?_);have I0:=FP _ _ rfl cn.least.ok _ cn.knot;refine ⟨_,rfl,p,n,hd,nums,rfl,hV,cn.least.ok,cn.knot,n12,r4,λL ys H1 s1 nL eL py=>⟨L,_,rfl,.inl (SqL.of eL),_,_,rfl,rfl,_,rfl,?_⟩⟩;have ly:=AQ py;refine ite2 (λ_=>q _ s1) (λc=>?_);have c60:¬ ((60:Int)<(ys.length:Nat)):=λh=>c (decide_eq_true h);refine ⟨_,rfl,_,rfl,p,n,hd,nums,rfl,hV.same s1,cn.least.ok,cn.knot,n12,r4,λL2 ys2 H2 s2 nL2 eL2 py2=>?_⟩;have ly2:=AQ py2;refine ⟨L2,n,(setsOf nums hd).map up,rfl,n12,⟨⟨ys2,.inl (SqL.of eL2),XH py2⟩,by rw[AB];lia⟩,λs hs=>?_,λp2 nums2 hd2 H3 s3 hV2 cn2 ld2 r2=>?_⟩
 ·obtain ⟨u,hu,rfl⟩:=AY.mp hs
  obtain ⟨w1,w2⟩:=I0.way u hu;refine ⟨?_,λx hx=>?_⟩
  ·unfold up
   rw[CS];exact w1.imp λh=>by lia
  ·obtain ⟨y,hy,rfl⟩:=AY.mp hx
   have:=(w2 y hy).2;lia
 have same:∀s,led nums2 hd2 s=led nums hd s:=λs=>by
  rw[ld2 s];cases e:led nums hd s with
  | true=>exact decide_eq_true (FF ((I0.mem s).mpr e))
  | false =>
   refine decide_eq_false λh=>?_;obtain ⟨u,hu,eu⟩:=AY.mp h;rw[JN eu] at hu;rw[(I0.mem s).mp hu] at e;cases e
 obtain ⟨rfl,rfl⟩:=Canon.unique cn2 cn same;have s13:=s1.trans (s2.trans s3);have hV3:=hV.same s13;obtain ⟨dg2,jj2,hp2,_⟩:=id hV2;obtain ⟨dg3,jj3,hp3,_⟩:=id hV3;refine ⟨_,rfl,p2,dg2,_,rfl,hp2,Oo _ _ _ (by decide +kernel) (by decide +kernel) (by decide +kernel),p2,_,_,_,rfl,hV2,λlk ks H4 s4 hlk elk px=>?_⟩;refine ⟨_,rfl,p,dg3,_,rfl,s4 _ _ hp3,Oo _ _ _ (by decide +kernel) (by decide +kernel) (by decide +kernel),p,_,_,_,rfl,hV3.same s4,λlk2 ks2 H5 s5 hlk2 elk2 px2=>?_⟩;refine ⟨_,_,⟨lk,ks,rfl,SqL.of (s5 _ _ elk),K43s.KQ (Paired.imp (λa b=>K43s.Bd _ _ a b s5.ts) px)⟩,⟨lk2,ks2,rfl,SqL.of elk2,K43s.KQ px2⟩,_,rfl,iteP rfl ?_⟩;have s45:=s4.trans s5;refine ⟨_,rfl,p2,dg2,_,rfl,s45 _ _ hp2,Oo _ _ _ (by decide +kernel) (by decide +kernel) (by decide +kernel),p2,_,_,_,rfl,hV2.same s45,_,rfl,p,dg3,_,rfl,s45 _ _ hp3,Oo _ _ _ (by decide +kernel) (by decide +kernel) (by decide +kernel),p,_,_,_,rfl,hV3.same s45,rfl,?_⟩;rw[decide_eq_true rfl];exact q _ (s13.trans s45)
end
theorem Wi{X:Cx}{K:As}(hK:X.K=K)(hu:X.A.units+(0+1+1)<CO):OpR X (DZ .NotIn) (rInL K (rPair K) true):=by subst hK;exact ZG (Gj Dy) hu
theorem ABS{m:Int}{as bs:List (List Int)}(h:OkTies m as)(s:bs.Sublist as):OkTies m bs:=⟨λt ht=>h.ok t (s.subset ht),h.nd.sublist (s.map srt)⟩
theorem Nb{α β:Type}{F:α->β->Prop}:∀{l:List α}{m:List β},A9 F l m->∀k,A9 F (l.take k) (m.take k)
 | _,_,.nil,k=>by rw[VZ,VZ];exact .nil
 | _,_,.cons h t,0=>.nil
 | _,_,.cons h t,k+1=>.cons h (Nb t k)
theorem AFv(xs:List V)(k:Nat):cutV xs none (some (k:Int))=xs.take k:=by
 unfold cutV;rw[HT.AAt,HT.ADi,List.drop_zero,XA];rcases C8 k xs.length with c | c
 ·rw[show min k xs.length=k by lia]
 ·rw[show min k xs.length=xs.length by lia,He (AE _),He c]
def flp(t:List Int):List Int:=[t.getD 1 0,t.getD 0 0]
theorem ADx{m:Nat}{ps as:List (List Int)}(hp:∀t∈ps,UpP m t)(nd:(ps.map srt).Nodup)(ok:OkTies (m:Int) as):OkTies (m:Int) (ps++as.filter λt=>decide (t∉ps++ps.map flp)):=by
 have okf:=ABS ok (Q4 (l:=as) (p:=λt=>decide (t∉ps++ps.map flp)));refine ⟨λt ht=>?_,?_⟩
 ·rcases B9.mp ht with h | h
  ·obtain ⟨a,b,rfl,ab,bm⟩:=hp t h
   exact ⟨_,_,rfl,by lia,by lia,by lia,by lia,by lia⟩
  ·exact okf.ok t h
 ·rw[BU,HV]
  refine ⟨nd,okf.nd,?_⟩;rintro t ht u hu rfl;obtain ⟨r,hr,er⟩:=AY.mp ht;obtain ⟨v,hv,ev⟩:=AY.mp hu;obtain ⟨a,b,rfl,ab,bm⟩:=hp r hr;obtain ⟨hv1,hv2⟩:=BS.mp hv;obtain ⟨c,d,rfl,_⟩:=ok.ok v hv1;have no:=of_decide_eq_true hv2;rw[<- er,K35.Gp ab,Dt] at ev;split at ev
  ·injection ev with e1 e2
   injection e2 with e2 _
   subst e1 e2;exact no (CC _ (AY.mpr ⟨_,hr,rfl⟩))
  ·injection ev with e1 e2
   injection e2 with e2 _
   subst e1 e2;exact no (Fk _ hr)
def AAs(K:As):Sp:=λvs H Q _=>∃(a:Addr) (ns:List Int) (m:Nat) (tl:Addr) (as:List (List Int)),vs=[.ref a,.int m,.ref tl]/\SqL K H a (ns.map V.int)/\1<=m/\m<=10/\TlAt K H tl as/\OkTies (m:Int) as/\as.length<=12 /\
 ∀(l:Addr) (bs:List (List Int)) (H':Hp),Same H H'->TlAt K H' l bs->OkTies (m:Int) bs->bs.length<=12->Q (.ref l) H'
noncomputable def Tw(K:As):Sp:=λvs H Q _=>∃(z:Nat) (tl t:Addr) (as:List (List Int)) (s:List Nat),vs=[.int z,.ref tl,.ref t]/\TlAt K H tl as/\K43s.Sq K H t (nI s)/\OkTies (z:Int) as/\1<=z/\z<=10/\(∀x∈s,x<as.length) /\
 ∀(H':Hp),Same H H'->Q (.bl (treeB (as.map srt) z s)) H'
theorem Xw{z:Nat}{bs:List (List Int)}{s:List Nat}{ms:List Int}(nd:ms.Nodup)(mem:∀r,r∈ms↔r∈(AI z).map λp=>finL (ea bs) (eb bs) (λp=>(p:Int)) s p):Dst z (finL (ea bs) (eb bs) (λp=>(p:Int)) s) ms.length:=⟨ms,nd,λr=>by
  rw[mem,AY];exact ⟨λ⟨p,hp,e⟩=>⟨p,AS.mp hp,e⟩,λ⟨p,hp,e⟩=>⟨p,AS.mpr hp,e⟩⟩,rfl⟩
theorem YS{z:Nat}{bs:List (List Int)}(h:OkB z bs)(z1:1<=z){s:List Nat}(hs:∀x∈s,x<bs.length){ms:List Int}(nd:ms.Nodup)(mem:∀r,r∈ms↔r∈(AI z).map λp=>finL (ea bs) (eb bs) (λp=>(p:Int)) s p) :
  treeB bs z s=true↔(s.length+1=z/\ms.length=1):=by
 obtain ⟨k',D,l1,l2,i⟩:=Fe s _ z (Nf z) λx hx=>YH h (hs x hx);have D':=Xw (z:=z) nd mem;have ek:=D.same D';subst ek;have c:=Sw D z1 (U:=λ_=>True) λ_=>trivial;unfold treeB;rw[DJ,i];constructor
 ·rintro⟨h1,h2⟩
  have h3:=c.mp (@of_decide_eq_true _ (DB _) h2);exact ⟨by lia,h3⟩
 ·rintro⟨h1,h2⟩
  exact ⟨by lia,@decide_eq_true _ (DB _) (c.mpr h2)⟩
section
variable{P:AK}{w:AR}{K:As}{mg:Str->Option Au}{base:Heap}{f C D:Addr}{fd:BV}
theorem ABi:FnScope ["_law_many","_law_ties_here","_law_some"] ["_law_many","_law_ties_here","_law_some"] (Ag Qc):=⟨rfl,rfl,rfl,by decide +kernel,rfl,by decide +kernel,by decide +kernel⟩
theorem Yp{fL:Addr}{fdL:BV}(F:Fun K "_law_is_tree" "_law_is_tree" Qc f fd)(T:Txt K mg C)(mS:mg "set" = none)
  (GL:FnOk P w K mg base CX0 1 fL fdL ["_law_many","_law_ties_here","_law_some"] (Ho K)) (bL:Binds K fdL ["_law_many","_law_ties_here","_law_some"] []) (kL:AW K (.ref fL)=true) (mL:mg "_law_labels" = some (.ref fL)) :
  FnOk P w K mg base CX0 2 f fd ["_law_many","_law_ties_here","_law_some"] (Tw K):=by
 refine F.ok ABi (λvs H Q E h=>?_) (λcdv A outer s H vs Q E hr h=>?_)
 ·obtain ⟨z,tl,t,as,s,rfl,_⟩:=h
  rfl
 obtain ⟨z,tl,t,as,s,rfl,hT,hS,ok,z1,z10,hs,q⟩:=h;have hr1:Room 1 _:=hr.mono (by decide);refine ⟨_,Ai (Ax (Vw (DR Ci (BJ Aw rfl T.len CL (Aa (pv 2) Ac)) (Az Ft (pv 0) Ah) (nomark _)) (VH (DR Ci (Kh rfl rfl T.len rfl mS (Ay GL hr1 rfl mL kL bL .nil pass0 (Aa (pv 0) (Aa (pv 1) (Aa (pv 2) Ac))))) Ah (nomark _))))),?_⟩;refine ⟨_,rfl,t,_,rfl,hS,_,rfl,_,_,rfl,rfl,rfl,_,rfl,?_⟩;rw[Du];have okb:=Wt ok;have hs':∀x∈s,x<(as.map srt).length:=by rw[AB];exact hs
 by_cases c:s.length+1=z
 ·refine iteP (congrArg V.int (by lia)) ?_
  refine ⟨_,rfl,_,rfl,_,rfl,z,tl,t,as,s,rfl,hT,hS,ok,z10,hs,λl H' s' _ hl=>?_⟩;refine ⟨l,(AI z).map (finA as s),rfl,SqL.of (by rw[hl];unfold lbV;rw[DS];rfl),by rw[AB,BD];lia,λms nd mem=>⟨rfl,?_⟩⟩;have e:=YS okb z1 hs' nd mem;have e2:treeB (as.map srt) z s=decide (V.int (ms.length:Nat)=V.int 1):=by
   rw[F6,e,decide_eq_true_iff];exact ⟨λh=>congrArg V.int (by lia),λh=>⟨c,by injection h with h;lia⟩⟩
  rw[<- e2];exact q H' s'
 ·refine iteN (λh=>c (by injection h with h;lia)) ?_
  have e2:treeB (as.map srt) z s=false:=by
   cases e:treeB (as.map srt) z s with
   | false=>rfl
   | true =>
    obtain ⟨us,nd,mem,_⟩:=(Fe s _ z (Nf z) λx hx=>YH okb (hs' x hx)).choose_spec.1;refine absurd ((YS okb z1 hs' nd λr=>?_).mp e).1 c;rw[mem,AY];exact ⟨λ⟨p,hp,e⟩=>⟨p,AS.mpr hp,e⟩,λ⟨p,hp,e⟩=>⟨p,AS.mp hp,e⟩⟩
  rw[<- e2];exact q H (Same.refl _)
theorem Ik:FnScope ["_law_script","_law_many","_law_ties_here","_law_cell","_law_rows","_law_b","_law_known"] ["_law_script","_law_many","_law_ties_here"] (Ag SQ):=⟨rfl,rfl,rfl,by decide +kernel,rfl,by decide +kernel,by decide +kernel⟩
theorem AEP{fC:Addr}{fdC:BV}(F:Fun K "_law_hung" "_law_hung" SQ f fd)(T:Txt K mg C)
  (GC:FnOk P w K mg base CX0 1 fC fdC ["_law_script","_law_k"] (QB K)) (bC:Binds K fdC ["_law_script","_law_k"] []) (kC:AW K (.ref fC)=true) (mC:mg "_law_cell_at" = some (.ref fC)) :
  FnOk P w K mg base CX0 2 f fd ["_law_script","_law_many","_law_ties_here"] (AAs K):=by
 refine F.ok Ik (λvs H Q E h=>?_) (λcdv A outer s H vs Q E hr h=>?_)
 ·obtain ⟨a,ns,m,tl,as,rfl,_⟩:=h
  rfl
 obtain ⟨a,ns,m,tl,as,rfl,hS,m1,m10,hT,ok,a12,q⟩:=h;have hr1:Room 1 _:=hr.mono (by decide);refine ⟨_,Ad (Av (i:=3) Ik.nd rfl (BC rfl) (Az DK (Ay GC hr1 rfl mC kC bC .nil pass0 (Aa (pv 0) (Aa Ah Ac))) Ah))
  (Ad (Av (i:=4) Ik.nd rfl (BC rfl) (Ce Ac))
  (Ad (Cw Db rfl (Oz rfl T.range (Aa Ah (Aa (pv 1) Ac))) (Aq (i:=5) Ik.nd rfl (BC rfl))
   (Ad (DQ (Hy DL D3 D4 Cp (pv 4) (Aa (CZ (Aa (Az Cz (pv 3) (pv 5)) (Aa (pv 5) Ac))) Ac)))
   (Ai (Av (i:=3) Ik.nd rfl (BC rfl) (Az DK (pv 3) (pv 5))))))
  (Ad (Av (i:=6) Ik.nd rfl (HR rfl) (Az Pr (pv 4) (Bo (Ag SQ) ["_law_a","_law_b"] [] [] rfl rfl (by decide +kernel) trivial (Bv (pv 4))
    (λ_ _ _=>Fl (K:=K) (n:=2) rfl rfl (CK (Aq (i:=0) (show ((["_law_a","_law_b"]:List Str)++([]:List Str)).Nodup by decide +kernel) rfl (BC rfl)) (CK (Aq (i:=1) (show ((["_law_a","_law_b"]:List Str)++([]:List Str)).Nodup by decide +kernel) rfl (BC rfl)) FZ)))
    (λ_ _ _=>Dp) (λ_ _ _=>CZ (Aa (pv 1) (Aa (pv 0) Ac))))))
  (Ai (Ax (MK YL (Az Pr (pv 4) (Bo (Ag SQ) ["_law_tie"] ["_law_known"] [6] rfl rfl (by decide +kernel) ⟨⟨rfl,by decide +kernel⟩,trivial⟩ (Bv (pv 2))
    (λ_ _ _=>Aq (i:=0) (show ((["_law_tie"]:List Str)++(["_law_known"]:List Str)).Nodup by decide +kernel) rfl (BC rfl))
    (λ_ _ _=>Bt (Ao (Wi (K:=K) rfl (Cg hr)) (pv 0) (pv 1) rfl)) (λ_ _ _=>pv 0))) Ww (Jg Ah))))))),?_⟩
 refine ⟨_,rfl,a,ns,1,rfl,hS,by lia,λc0=>⟨_,_,rfl,rfl,⟨by decide,by decide⟩,?_⟩⟩;refine ⟨A8 _,λR hR=>?_⟩;have sR:=Same.new hR (.lst []);refine ⟨_,rfl,1,(m:Int),rfl,⟨by decide,by decide,by lia,by lia⟩,?_⟩;refine Et (lo:=1) (n:=((m:Int)-1).toNat) (λi σ H2=>∃(c:Int) (o5:Option V) (ps:List (List Int)) (xs:List V),σ=[some (.ref a),some (.int m),some (.ref tl),some (.int c),some (.ref R),o5,none]/\Same H H2/\H2 R=some (.lst xs)/\A9 (rPair K H2) ps xs/\(∀t∈ps,UpP (i+1) t)/\(ps.map srt).Nodup/\ps.length=i) ⟨_,none,[],[],rfl,sR,Ab,.nil,λt h=>by (cases h),K7,rfl⟩ ?_ ?_
 ·rintro i σ H2 hi ⟨c,o5,ps,xs,rfl,sm,eR,pp,up,nd,ln⟩
  have ei:(1:Int)+i=((i+1:Nat):Int):=by lia
  rw[ei];have lx:=AQ pp;have g0:=FE c (show (((i+1:Nat)):Int)≠0 by lia);have g1:=EO c (show (0:Int)<((i+1:Nat):Int) by lia);obtain ⟨x,ex⟩:=IY g0;refine ⟨_,rfl,.inl ⟨rfl,_,SqL.of eR⟩,_,rfl,_,rfl,_,_,rfl,rfl,(by show (0:Int)<((i+1:Nat):Int);lia),?_⟩;dsimp only;rw[ex] at g1 ⊢;refine ⟨_,rfl,(by show 2<=sizeLine;decide),λt ht=>?_⟩;have s4:=Same.new ht (.tup [.int (x:Int),.int ((i+1:Nat):Int)]);have tR:t≠R:=λz=>by rw[z,eR] at ht;cases ht
  refine ⟨R,_,_,rfl,rfl,s4 _ _ eR,Ar (by lia),?_⟩;have ts:TSm H2 (upd (upd H2 t (.tup [.int (x:Int),.int ((i+1:Nat):Int)])) R (.lst (xs++[.ref t]))):=s4.ts.trans (TSm.lst (s4 _ _ eR));refine ⟨_,rfl,_,rfl,_,_,rfl,rfl,⟨by lia,by lia⟩,?_⟩;refine ⟨_,_,ps++[[(x:Int),((i+1:Nat):Int)]],xs++[.ref t],rfl,λb o e=>?_,Ab,Paired.app (Paired.imp (λa b=>Ak Am _ _ a b ts) pp) (Paired.one (Cj (ns:=[(x:Int),((i+1:Nat):Int)]) (by rw[Af tR];exact Ab))),λu hu=>?_,?_,by rw[AT,ln];rfl⟩
  ·rw[Af (Ae e hR)]
   exact s4 _ _ (sm b o e)
  ·rcases B9.mp hu with h | h
   ·obtain ⟨a,b,e,h1,h2⟩:=up u h
    exact ⟨a,b,e,h1,by lia⟩
   ·rw[Bn.mp h]
    exact ⟨x,i+1,rfl,by lia,by lia⟩
  ·rw[BU,HV]
   refine ⟨nd,by simp,?_⟩;rintro u hu v hv rfl;obtain ⟨r,hr',er⟩:=AY.mp hu;obtain ⟨a,b,rfl,ab,bm⟩:=up r hr';have ev:=Bn.mp hv;rw[<- er,K35.Gp ab,K35.Gp (show x<i+1 by lia)] at ev;injection ev with _ e2
   injection e2 with e2 _
   lia
 rintro σ H2 ⟨c,o5,ps,xs,rfl,sm,eR,pp,up,nd,ln⟩;have em:((m:Int)-1).toNat+1=m:=by lia
 rw[em] at up;have lx:=AQ pp;refine ⟨_,rfl,_,rfl,R,rfl,⟨_,SqL.of eR⟩,λZ hZ=>?_⟩;refine Bl (K:=K) (a:=R) (xs:=xs) (λj τ H3=>∃(o0 o1:Option V) (ys:List V),τ=[o0,o1]/\Same H2 H3/\H3 Z=some (.lst ys)/\A9 (rPair K H3) ((ps.take j).map flp) ys) ⟨none,none,[],rfl,Same.new hZ _,Ab,.nil⟩ (λj τ H3 _ ⟨_,_,_,_,s3,_⟩=>SqL.of (s3 _ _ eR)) ?_ ?_
 ·rintro j v τ H3 hv ⟨o0,o1,ys,rfl,s3,eZ,py⟩
  obtain ⟨t',ht',rt'⟩:=Paired.get pp hv;obtain ⟨x,y,rfl,_⟩:=up t' (Bi ht');obtain ⟨tq,rfl,htq⟩:=Bq rt';have ly:=AQ py;rw[AB,BQ] at ly;refine ⟨tq,_,rfl,s3.ts.seq htq,rfl,_,_,rfl,_,_,rfl,rfl,?_⟩;refine yesD ⟨_,rfl,_,rfl,(by show 2<=sizeLine;decide),λu hu=>?_⟩;have sB:=Same.new hu (.tup [V.int (y:Int),V.int (x:Int)]);have eZ2:=sB _ _ eZ;refine ⟨ys,eZ2,Ar (by lia),_,_,ys++[.ref u],rfl,λb o e=>?_,Ab,?_⟩
  ·rw[Af (Ae e hZ)]
   exact sB _ _ (s3 b o e)
  ·rw[K43s.take_snoc ht',BU]
   have ts':TSm _ (upd _ Z (.lst (ys++[.ref u]))):=TSm.lst eZ2;exact Paired.app (Paired.imp (λ_ _ h=>Ak Am _ _ _ _ (sB.ts.trans ts') h) py) (Paired.one (Ak Am _ _ _ _ ts' (Cj (ns:=[(y:Int),(x:Int)]) Ab)))
 rintro τ H3 ⟨o0,o1,ys,rfl,s3,eZ,py⟩;rw[<- lx,CF] at py;have ly:=AQ py;rw[AB] at ly;refine ⟨R,Z,xs,ys,rfl,rfl,s3 _ _ eR,eZ,DC (Ar (by lia)),λKn hKn=>?_⟩;have s4:=Same.new hKn (.lst (xs++ys));have s24:=s3.trans s4;have pk:A9 (rPair K (upd H3 Kn (.lst (xs++ys)))) (ps++ps.map flp) (xs++ys):=Paired.app (Paired.imp (λ_ _ h=>Ak Am _ _ _ _ s24.ts h) pp) (Paired.imp (λ_ _ h=>Ak Am _ _ _ _ s4.ts h) py);have eK:(upd H3 Kn (.lst (xs++ys))) Kn=some (.lst (xs++ys)):=Ab;generalize upd H3 Kn (.lst (xs++ys))=H4 at s4 s24 pk eK;have hT4:=hT.same (sm.trans s24);obtain ⟨ts,eT,pT⟩:=id hT4;have lt:=AQ pT;refine ⟨_,rfl,_,rfl,tl,rfl,⟨_,SqL.of eT⟩,λY hY=>?_⟩;refine Bl (K:=K) (a:=tl) (xs:=ts) (λj τ H5=>∃(o0:Option V) (zs:List V),τ=[o0,some (.ref Kn)]/\Same H4 H5/\H5 Y=some (.lst zs)/\A9 (rPair K H5) ((as.take j).filter λt=>decide (t∉ps++ps.map flp)) zs) ⟨none,[],rfl,Same.new hY _,Ab,.nil⟩ (λj τ H5 _ ⟨_,_,_,s5,_⟩=>SqL.of (s5 _ _ eT)) ?_ ?_
 ·rintro j v τ H5 hv ⟨o0,zs,rfl,s5,eY,pz⟩
  obtain ⟨t',ht',rt'⟩:=Paired.get pT hv;have lz:=AQ pz;have lz2:zs.length<=12:=by
   rw[<- lz];exact BM (Cs ..) (by rw[BQ];lia)
  have rt5:=Ak Am _ _ _ _ s5.ts rt';refine ⟨_,rfl,_,rfl,t',_,rt5,.inl ⟨Kn,_,rfl,SqL.of (s5 _ _ eK),Paired.imp (λ_ _ h=>Ak Am _ _ _ _ s5.ts h) pk⟩,_,rfl,?_⟩;rw[if_pos rfl];by_cases c:t'∈ps++ps.map flp
  ·refine iteNP c ⟨_,zs,rfl,s5,eY,?_⟩
   rw[K43s.take_snoc ht',Cc,EQ (p:=λt:List Int=>decide (t∉ps++ps.map flp)) (λh=>(of_decide_eq_true h:t'∉ps++ps.map flp) c),EL,BI];exact pz
  ·have ts':TSm H5 (upd H5 Y (.lst (zs++[v]))):=TSm.lst eY
   refine iteNN c ⟨_,rfl,_,eY,Ar (by lia),_,zs++[v],rfl,λb o e=>?_,Ab,?_⟩
   ·rw[Af (Ae e hY)]
    exact s5 b o e
   ·rw[K43s.take_snoc ht',Cc,ER (p:=λt:List Int=>decide (t∉ps++ps.map flp)) (decide_eq_true c),EL]
    exact Paired.app (Paired.imp (λ_ _ h=>Ak Am _ _ _ _ ts' h) pz) (Paired.one (Ak Am _ _ _ _ ts' rt5))
 rintro τ H5 ⟨o0,zs,rfl,s5,eY,pz⟩;rw[<- lt,CF] at pz;have lz:=AQ pz;have lz2:zs.length<=12:=by
  rw[<- lz];exact BM (Cs ..) (by lia)
 have s25:=s24.trans s5;refine ⟨R,Y,xs,zs,rfl,rfl,s25 _ _ eR,eY,DC (Ar (by lia)),λL hL=>?_⟩;have s6:=Same.new hL (.lst (xs++zs));refine ⟨_,rfl,L,_,rfl,SqL.of Ab,λL2 hL2=>?_⟩;rw[show cutV (xs++zs) none (some 12)=(xs++zs).take 12 from AFv _ 12];have s7:=Same.new hL2 (.lst ((xs++zs).take 12));refine q L2 ((ps++as.filter λt=>decide (t∉ps++ps.map flp)).take 12) _ (sm.trans (s25.trans (s6.trans s7))) ⟨_,Ab,?_⟩ (ABS (ADx up nd ok) (HQ ..)) (by rw[BQ];lia);exact Nb (Paired.app (Paired.imp (λ_ _ h=>Ak Am _ _ _ _ (s25.trans (s6.trans s7)).ts h) pp) (Paired.imp (λ_ _ h=>Ak Am _ _ _ _ (s6.trans s7).ts h) pz)) 12
end
theorem AFL{X:Cx}:CallR X (.builtin "isinstance") (λxs H Q=>∃b,xs=[.bl b,.ty "bool"]/\Q (.bl true) H):=by
 intro pins s σ H xs us Q I r h;obtain ⟨i,rfl,q⟩:=h;obtain ⟨u,v,rfl,ru,rv⟩:=r.two;cases ru;cases rv;exact IsiPair.bool_bool ⟨.bl true,H,I,rfl,q⟩
theorem ACj(ns:List Int)(lo hi:Option Int):∃cs:List Int,cutV (ns.map V.int) lo hi=cs.map V.int/\cs.length<=ns.length:=by
 unfold cutV;refine ⟨(ns.drop (HT.sIx (ns.map V.int).length 0 lo)).take (HT.sIx (ns.map V.int).length (ns.map V.int).length hi-HT.sIx (ns.map V.int).length 0 lo),by rw[QQ,QR],?_⟩;rw[BQ,Hb];lia
def SetR(K:As)(n:Nat)(H:Hp)(v:V):Prop:=∃(t:Addr) (s:List Nat),v=.ref t/\SqT K H t (nI s)/\s.Pairwise (· < ·)/\∀x∈s,x<n
theorem SetR.ts{K:As}{n:Nat}{H H':Hp}{v:V}(h:SetR K n H v)(e:TSm H H'):SetR K n H' v:=let ⟨t,s,a,b,c⟩:=h;⟨t,s,a,e.seq b,c⟩
theorem ACI{n:Nat}{rows:List Row}(ok:Ok n rows){k:Nat}(kn:Knot rows k)(s:List Nat):K43s.meets rows k (up s)=led rows k s:=by
 rw[F6];refine (Kc ok (k+1) k (up s) (D2 k) kn).trans ⟨λ⟨u,e,h⟩=>by rw[JN e];exact h,λh=>⟨s,rfl,h⟩⟩
abbrev lawN:List Str:=["_law_script","_law_many","_law_ties_here","_law_sieve","_law_full","_law_some","_law_found"]
structure Bs(K:As)(S:Addr)(a tl V0:Addr)(ns:List Int)(z hd:Nat)(as:List (List Int))(nums:List Row)(H:Hp):Prop where
 sc:SqL K H a (ns.map V.int)
 n63:ns.length<=63
 tl:TlAt K H tl as
 sv:K43s.SvAt K S H V0 as.length nums hd
 cn:Canon as.length nums hd
 ld:∀s:List Nat,s.Pairwise (· < ·)->(∀x∈s,x<as.length)->led nums hd s=treeB (as.map srt) z s
 ok:OkTies (z:Int) as
 z1:1<=z
 z10:z<=10
 a12:as.length<=12
 r4:nums.length<=4000
theorem Bs.same{K:As}{S a tl V0:Addr}{ns:List Int}{z hd:Nat}{as:List (List Int)}{nums:List Row}{H H':Hp}(b:Bs K S a tl V0 ns z hd as nums H)(e:Same H H'):Bs K S a tl V0 ns z hd as nums H' :=
 ⟨e.seq b.sc,b.n63,b.tl.same e,b.sv.same e,b.cn,b.ld,b.ok,b.z1,b.z10,b.a12,b.r4⟩
theorem ABK{z n hd k:Nat}{bs:List (List Int)}{nums:List Row}(bl:bs.length=n)(cn:Canon n nums hd)(ld:∀s:List Nat,s.Pairwise (· < ·)->(∀x∈s,x<n)->led nums hd s=treeB bs z s)(z1:1<=z)(D:Dst z (finL (ea bs) (eb bs) (λp=>(p:Int)) (AI n)) k):hd=0↔1<k:=by
 have I0:=FP _ _ rfl cn.least.ok _ cn.knot;have c:=Sw D z1 (U:=λ_=>True) λ_=>trivial;have ts:=Yc (ea:=ea bs) (eb:=eb bs) (z:=z) (n:=n) (lab:=λp=>(p:Int)) (U:=λ_=>True);have tb:∀s,treeB bs z s=true↔(acyc (ea bs) (eb bs) (λp=>(p:Int)) s=true/\conn z (λ_=>True) (finL (ea bs) (eb bs) (λp=>(p:Int)) s)):=λs=>by
  unfold treeB;rw[DJ];exact ⟨λ⟨h1,h2⟩=>⟨h1,@of_decide_eq_true _ (DB _) h2⟩,λ⟨h1,h2⟩=>⟨h1,@decide_eq_true _ (DB _) h2⟩⟩
 have k1:1<=k:=by
  obtain ⟨us,nd,mem,rfl⟩:=D;exact EU ((mem _).mpr ⟨0,z1,rfl⟩)
 constructor
 ·intro h0
  refine BO λn1=>?_;obtain ⟨s,pw,lt,ac,cc⟩:=ts.mpr (c.mpr (by lia));have:=ld s pw lt;rw[h0,Cd,(tb s).mpr ⟨ac,cc⟩] at this;cases this
 ·intro h1
  refine BO λn0=>?_;obtain ⟨s,hs⟩:=Pk cn.least _ hd (D2 _) cn.knot n0;obtain ⟨pw,lt⟩:=I0.way s ((I0.mem s).mpr hs);rw[ld s pw λx hx=>(lt x hx).2] at hs;obtain ⟨ac,cc⟩:=(tb s).mp hs;have:=c.mp (ts.mp ⟨s,pw,λx hx=>(lt x hx).2,ac,cc⟩);lia
theorem ACr{hd:Nat}{nums:List Row}{bs:List (List Int)}(cn:Canon 0 nums hd)(ld:led nums hd []=treeB bs 1 []):setsOf nums hd=[[]]:=by
 have I0:=FP _ _ rfl cn.least.ok _ cn.knot;have t1:treeB bs 1 []=true:=by
  unfold treeB;rw[DJ];exact ⟨rfl,@decide_eq_true _ (DB _) λq r qz rz _ _=>by rw[show q=r by lia]⟩
 have m0:[]∈setsOf nums hd:=(I0.mem []).mpr (by rw[ld,t1]);have all:∀s∈setsOf nums hd,s=[]:=λs hs=>by
  cases s with
  | nil=>rfl
  | cons x xs=>exact absurd ((I0.way _ hs).2 x AC).2 (UP _)
 have ord:=I0.ord;generalize setsOf nums hd=L at m0 all ord
 match L,m0,all,ord with
 | [],m0,_,_=>cases m0
 | [x],_,all,_=>rw[all x AC]
 | x::y::r,_,all,ord =>
  have h1:=(Cf.mp ord).1 y AC;rw[all x AC,all y (AG _ AC)] at h1;exact absurd h1 (FI _)
theorem TX{K:As}{H:Hp}:∀{ss:List (List Nat)}{ys:List V},A9 (K43s.rTies K H) ss ys->A9 (rPair K H) (ss.map up) ys
 | _,_,.nil=>.nil
 | _,_,.cons ⟨p,e,h⟩ t=>.cons (by rw[e];exact Cj h) (TX t)
section
variable{P:AK}{w:AR}{K:As}{mg:Str->Option Au}{base:Heap}{f C D S:Addr}{fd:BV}
theorem Jb:FnScope lawN ["_law_script"] (Ag Py):=⟨rfl,rfl,rfl,by decide +kernel,rfl,by decide +kernel,by decide +kernel⟩
theorem AFh{fI fG fM fC fZ fT fN fL fH fP fO fS fU fY:Addr}{fdI fdG fdM fdC fdZ fdT fdN fdL fdH fdP fdO fdS fdU fdY:BV}(F:Fun K "law" "law" Py f fd)(T:Txt K mg C)(T2:K43s.Txt K mg S)
  (M:Mk K C fI) (mkW:JE K D=true) (hiW:De K (.ref D) "__init__" = some (some (.builtin "object.__init__"))) (kpW:AW K (.ref D)=true) (mgW:mg "Trees" = some (.ref D))
  (GI:FnOk P w K mg base CX0 3 fI fdI ["self","many","ties"] (Kv K C)) (bI:Binds K fdI ["self","many","ties"] [])
  (GG:FnOk P w K mg base CX0 18 fG fdG ["web","rule"] (Wu K C D S)) (bG:Binds K fdG ["web","rule"] []) (kG:AW K (.ref fG)=true) (mG:mg "grown" = some (.ref fG))
  (GM:FnOk P w K mg base CX0 1 fM fdM ["self"] (K43s.ACP K S)) (bM:Binds K fdM ["self"] []) (mM:Meth K S "many" fM)
  (GC:FnOk P w K mg base CX0 1 fC fdC ["_law_script","_law_k"] (QB K)) (bC:Binds K fdC ["_law_script","_law_k"] []) (kC:AW K (.ref fC)=true) (mC:mg "_law_cell_at" = some (.ref fC))
  (GZ:FnOk P w K mg base CX0 1 fZ fdZ ["_law_cell"] YX) (bZ:Binds K fdZ ["_law_cell"] []) (kZ:AW K (.ref fZ)=true) (mZ:mg "_law_size" = some (.ref fZ))
  (GT:FnOk P w K mg base CX0 2 fT fdT ["_law_script","_law_at","_law_many"] (Xe K)) (bT:Binds K fdT ["_law_script","_law_at","_law_many"] []) (kT:AW K (.ref fT)=true) (mT:mg "_law_ties" = some (.ref fT))
  (GN:FnOk P w K mg base CX0 2 fN fdN ["_law_script","_law_many","_law_ties_here"] (AAs K)) (bN:Binds K fdN ["_law_script","_law_many","_law_ties_here"] []) (kN:AW K (.ref fN)=true) (mN:mg "_law_hung" = some (.ref fN))
  (GL:FnOk P w K mg base CX0 16 fL fdL ["_law_sieve","_law_n"] (PN K S)) (bL:Binds K fdL ["_law_sieve","_law_n"] []) (kL:AW K (.ref fL)=true) (mL:mg "_law_is_least" = some (.ref fL))
  (GH:FnOk P w K mg base CX0 2 fH fdH ["sieve","some"] (K43s.AEl K S)) (bH:Binds K fdH ["sieve","some"] []) (kH:AW K (.ref fH)=true) (mH:mg "has_set" = some (.ref fH))
  (GP:FnOk P w K mg base CX0 2 fP fdP ["_law_cell","_law_many","_law_ties_here"] (Sh K)) (bP:Binds K fdP ["_law_cell","_law_many","_law_ties_here"] []) (kP:AW K (.ref fP)=true) (mP:mg "_law_picked" = some (.ref fP))
  (GO:FnOk P w K mg base CX0 2 fO fdO ["_law_many","_law_ties_here","_law_some"] (Tw K)) (bO:Binds K fdO ["_law_many","_law_ties_here","_law_some"] []) (kO:AW K (.ref fO)=true) (mO:mg "_law_is_tree" = some (.ref fO))
  (GS:FnOk P w K mg base CX0 2 fS fdS ["sieve"] (K43s.VR K S)) (bS:Binds K fdS ["sieve"] []) (kS:AW K (.ref fS)=true) (mS:mg "sets_of" = some (.ref fS))
  (GU:FnOk P w K mg base CX0 1 fU fdU ["self"] (K43s.Uc K S)) (bU:Binds K fdU ["self"] []) (mU:Meth K S "top" fU)
  (GY:FnOk P w K mg base CX0 1 fY fdY ["_law_many","_law_ties_here","_law_some"] (Ho K)) (bY:Binds K fdY ["_law_many","_law_ties_here","_law_some"] []) (kY:AW K (.ref fY)=true) (mY:mg "_law_labels" = some (.ref fY)) :
  FnOk P w K mg base CX0 19 f fd ["_law_script"] (Ra K):=by
 refine F.ok Jb (λvs H Q E h=>?_) (λcdv A outer s H vs Q E hr h=>?_)
 ·obtain ⟨a,ns,rfl,_⟩:=h
  rfl
 obtain ⟨a,ns,rfl,hS,n63,q⟩:=h;have hr1:Room 1 _:=hr.mono (by decide);have hr2:Room 2 _:=hr.mono (by decide);have hr4:Room (3+1) _:=hr.mono (by decide);have hr16:Room 16 _:=hr.mono (by decide);have hr17:Room 18 _:=hr.mono (by decide);obtain ⟨t5,h5,q5⟩:∃t,PSs (cxOf CX0 P w K mg base lawN "law" (Ag Py) f cdv A outer s H E).nox ((Ca Py).drop 7) t/\∀(σ:St) (H0:Hp),(∃(a tl V0 fl:Addr) (ns:List Int) (z hd:Nat) (as:List (List Int)) (nums:List Row) (o5 o6:Option V),σ=[some (.ref a),some (.int z),some (.ref tl),some (.ref V0),some (.ref fl),o5,o6]/\Bs K S a tl V0 ns z hd as nums H0/\SqT K H0 fl (nI (AI as.length)))->t {nx:=λ_ H'=>Q .non H',rt:=Q} σ H0:=by
  refine ⟨_,Ad (Bx (Ao Ci (pv 1) Ah (nomark _)) (Ai (Ax (DR (Iv (Gj Dy) (Cg hr)) (Ay GS hr2 rfl mS kS bS .nil pass0 (Aa (pv 3) Ac)) (Ce (Aa (CZ Ac) Ac)) (nomark _)))) BW)
   (Ai (Ax (DR Ci (DR Ci (CG (pv 3) T2.cl mU GU hr1 bU .nil pass0) Ah (nomark _)) (DR JT (Kh rfl rfl T.len rfl T2.set (Ay GY hr1 rfl mY kY bY .nil pass0 (Aa (pv 1) (Aa (pv 2) (Aa (pv 4) Ac))))) Ah (nomark _)) (nomark _)))),?_⟩
  rintro σ H0 ⟨a,tl,V0,fl,ns,z,hd,as,nums,o5,o6,rfl,B,hF⟩;have a12:=B.a12;have z1:=B.z1;have z10:=B.z10;refine ⟨_,rfl,rfl,_,rfl,?_⟩;by_cases c:z=1
  ·refine iteP (congrArg V.int (by lia)) ?_
   subst c;have a0:as=[]:=by
    cases as with
    | nil=>rfl
    | cons t r =>
     obtain ⟨x,y,_,h1,h2,h3,h4,h5⟩:=B.ok.ok t AC;lia
   subst a0;have so:=ACr B.cn (B.ld [] .nil λx hx=>(by cases hx));refine ⟨_,rfl,V0,_,hd,nums,rfl,B.sv,B.cn.least.ok,B.cn.knot,A8 _,B.r4,λL ys H1 s1 nL eL py=>?_⟩;refine ⟨A8 _,λe0 he0=>⟨(by show 1<=sizeLine;decide),λL1 hL1=>?_⟩⟩;have s8:=(Same.new he0 (.tup [])).trans (Same.new hL1 (.lst [.ref e0]));have ee:(upd (upd H1 e0 (.tup [])) L1 (.lst [.ref e0])) e0=some (.tup []):=Same.new hL1 _ _ _ Ab;refine ⟨(setsOf nums hd).map up,[[]],⟨L,ys,rfl,SqL.of (s8 _ _ eL),TX (K43s.Fb s8.ts py)⟩,⟨L1,_,rfl,SqL.of Ab,Paired.one ⟨e0,[],rfl,SqT.of ee,.nil⟩⟩,?_⟩;rw[so,decide_eq_true (show [[]].map up=[[]] from rfl)];exact q _
  ·refine iteN (λh=>c (by injection h with h;lia)) ?_
   obtain ⟨dg,jj,hp,_⟩:=id B.sv;refine ⟨_,rfl,V0,dg,_,rfl,hp,Oo _ _ _ (by decide +kernel) (by decide +kernel) (by decide +kernel),V0,_,hd,nums,rfl,B.sv,rfl,?_⟩;refine ⟨_,rfl,_,rfl,_,rfl,z,tl,fl,as,AI as.length,rfl,B.tl,.inr hF,B.ok,B.z10,λx hx=>AS.mp hx,λl H1 s1 nl el=>?_⟩;refine ⟨l,(AI z).map (finA as (AI as.length)),rfl,SqL.of (by rw[el];unfold lbV;rw[DS];rfl),by rw[AB,BD];lia,λms nd mem=>⟨_,_,rfl,rfl,rfl,?_⟩⟩;have tz:=ABK (z:=z) (bs:=as.map srt) (AB ..) B.cn B.ld B.z1 (Xw nd mem);have e:decide (V.int (hd:Int)=V.int 0)=decide ((1:Int)<(ms.length:Nat)):=decide_eq_decide.mpr ⟨λh=>by
    have:=tz.mp (by injection h with h;lia);lia,λh=>congrArg V.int (by have:=tz.mpr (by lia);lia)⟩
   rw[e,decide_eq_true rfl];exact q _
 obtain ⟨t4,h4,q4⟩:∃t,PSs (cxOf CX0 P w K mg base lawN "law" (Ag Py) f cdv A outer s H E).nox ((Ca Py).drop 6) t/\∀(σ:St) (H0:Hp),(∃(a tl V0 fl:Addr) (ns:List Int) (z hd:Nat) (as:List (List Int)) (nums:List Row),σ=[some (.ref a),some (.int z),some (.ref tl),some (.ref V0),some (.ref fl),none,none]/\Bs K S a tl V0 ns z hd as nums H0/\SqT K H0 fl (nI (AI as.length)))->t {nx:=λ_ H'=>Q .non H',rt:=Q} σ H0:=by
  refine ⟨_,Ad (Cw Db rfl (Bv (Az Pr (Ce (Aa (CZ Ac) (Aa (pv 4) Ac))) (Bo (Ag Py) ["_law_cell"] ["_law_many","_law_ties_here"] [1,2] rfl rfl (by decide +kernel) ⟨⟨rfl,by decide +kernel⟩,⟨rfl,by decide +kernel⟩,trivial⟩ (Bv (MK YL (pv 0) (Jg Ah) (Jg Ah)))
     (λ_ _ _=>Aq (i:=0) (show ((["_law_cell"]:List Str)++(["_law_many","_law_ties_here"]:List Str)).Nodup by decide +kernel) rfl (BC rfl)) (λ_ _ _=>Dp)
     (λ_ _ _=>Ay GP hr2 rfl mP kP bP .nil pass0 (Aa (pv 0) (Aa (pv 1) (Aa (pv 2) Ac))))))) (Aq (i:=5) Jb.nd rfl (BC rfl))
    (Ad (Av (i:=6) Jb.nd rfl (BC rfl) (Ay GH hr2 rfl mH kH bH .nil pass0 (Aa (pv 3) (Aa (pv 5) Ac))))
    (Ai (Bx (PW.pt (Lf (VJ (Qu (BJ AFL rfl T.isi U5 (Aa (pv 6) (Aa (ADQ (v:=.ty "bool") rfl T.bool X8 rfl) Ac)))))
     (HD (Ao Nt (pv 6) (Ay GO hr2 rfl mO kO bO .nil pass0 (Aa (pv 1) (Aa (pv 2) (Aa (pv 5) Ac)))) (nomark _))))) (Ai (Ax Kz)) BW)))) h5,?_⟩
  rintro σ H0 ⟨a,tl,V0,fl,ns,z,hd,as,nums,rfl,B,hF⟩;have n63:=B.n63;refine ⟨A8 _,λe0 he0=>⟨_,rfl,(by show 2<=sizeLine;decide),λal hal=>?_⟩⟩;have s0:=(Same.new he0 (.tup [])).trans (Same.new hal (.lst [.ref e0,.ref fl]));have ee:(upd (upd H0 e0 (.tup [])) al (.lst [.ref e0,.ref fl])) e0=some (.tup []):=Same.new hal _ _ _ Ab;have eA:(upd (upd H0 e0 (.tup [])) al (.lst [.ref e0,.ref fl])) al=some (.lst [.ref e0,.ref fl]):=Ab;have B0:=B.same s0;have hF0:=s0.ts.seq hF;generalize upd (upd H0 e0 (.tup [])) al (.lst [.ref e0,.ref fl])=H0' at s0 ee eA B0 hF0;refine ⟨_,rfl,_,rfl,_,rfl,a,_,rfl,B0.sc,λSl hSl=>?_⟩;obtain ⟨cs,ec,cl⟩:=ACj ns (some 2) (some 62);rw[ec];have s1:=Same.new hSl (.lst (cs.map V.int));have eSl:(upd H0' Sl (.lst (cs.map V.int))) Sl=some (.lst (cs.map V.int)):=Ab;generalize upd H0' Sl (.lst (cs.map V.int))=H1 at s1 eSl;refine ⟨Sl,rfl,⟨_,SqL.of eSl⟩,λZ hZ=>?_⟩;refine Bl (K:=K) (a:=Sl) (xs:=cs.map V.int) (λj τ HA=>∃(o:Option V) (ys:List V),τ=[o,some (.int z),some (.ref tl)]/\Same H1 HA/\HA Z=some (.lst ys)/\ys.length=j/\∀v∈ys,SetR K as.length HA v) ⟨none,[],rfl,Same.new hZ _,Ab,rfl,λv hv=>(by cases hv)⟩ (λj τ HA _ ⟨_,_,_,sm,_⟩=>SqL.of (sm _ _ eSl)) ?_ ?_
  ·rintro j v τ HA hv ⟨o,ys,rfl,sA,eZ,yl,hy⟩
   rw[A2] at hv;cases ecj:cs[j]? with
   | none=>rw[ecj] at hv;cases hv
   | some c =>
    rw[ecj] at hv;obtain rfl:V.int c=v:=BH hv;have jl:=(AL.mp ecj).1;have BA:=B0.same (s1.trans sA);refine yesN ⟨_,rfl,_,rfl,_,rfl,c,z,tl,as,rfl,BA.tl,BA.ok,BA.z10,BA.a12,λt s H' s' ht pw lt=>?_⟩;have eZ':=s' _ _ eZ;have ts':TSm H' (upd H' Z (.lst (ys++[.ref t]))):=TSm.lst eZ';refine ⟨ys,eZ',Ar (by lia),_,ys++[.ref t],rfl,λb o e=>?_,Ab,by rw[AT,yl];rfl,λv hv=>?_⟩
    ·rw[Af (Ae e hZ)]
     exact s' _ _ (sA b o e)
    ·rcases B9.mp hv with h | h
     ·exact (hy v h).ts (s'.ts.trans ts')
     ·rw[Bn.mp h]
      exact SetR.ts ⟨t,s,rfl,ht,pw,lt⟩ ts'
  rintro τ H2 ⟨o,ys,rfl,s2,eZ,yl,hy⟩;rw[AB] at yl;have s12:=s1.trans s2;refine ⟨al,Z,_,ys,rfl,rfl,s12 _ _ eA,eZ,DC (Ar (by show 2+ys.length<=1000;lia)),λN hN=>?_⟩;have sN:=Same.new hN (.lst ([V.ref e0,V.ref fl]++ys));have eN:(upd H2 N (.lst ([V.ref e0,V.ref fl]++ys))) N=some (.lst ([V.ref e0,V.ref fl]++ys)):=Ab;have hall:∀v∈[V.ref e0,V.ref fl]++ys,SetR K as.length (upd H2 N (.lst ([V.ref e0,V.ref fl]++ys))) v:=λv hv=>by
   rcases B9.mp hv with h | h
   ·rcases Be.mp h with h | h
    ·rw[h]
     exact ⟨e0,[],rfl,SqT.of ((s12.trans sN) _ _ ee),.nil,λx hx=>(by cases hx)⟩
    ·rw[Bn.mp h]
     exact ⟨fl,_,rfl,(s12.trans sN).ts.seq hF0,JY,λx hx=>AS.mp hx⟩
   ·exact (hy v h).ts sN.ts
  have B3:=B0.same (s12.trans sN);have hF3:=(s12.trans sN).ts.seq hF0;generalize upd H2 N (.lst ([V.ref e0,V.ref fl]++ys))=H3 at sN eN hall B3 hF3;refine ⟨N,rfl,⟨_,SqL.of eN⟩,?_⟩;refine Ec (K:=K) (a:=N) (xs:=[V.ref e0,V.ref fl]++ys) (λi σ HA=>∃(o5 o6:Option V),σ=[some (.ref a),some (.int z),some (.ref tl),some (.ref V0),some (.ref fl),o5,o6]/\Same H3 HA) ⟨none,none,rfl,Same.refl _⟩ (λi σ HA _ ⟨_,_,_,sm⟩=>SqL.of (sm _ _ eN)) ?_ ?_
  ·rintro i v σ HA hv ⟨o5,o6,rfl,sA⟩
   obtain ⟨t,s,rfl,ht,pw,lt⟩:=(hall v (Bi hv)).ts sA.ts;have BA:=B3.same sA;refine ⟨_,rfl,_,rfl,V0,t,_,hd,nums,up s,rfl,BA.sv,BA.cn.least.ok,BA.cn.knot,.inr (by rw[ABu];exact ht),λHB sB=>?_⟩;rw[ACI BA.cn.least.ok BA.cn.knot,BA.ld s pw lt];have BB:=BA.same sB;refine ⟨_,rfl,_,rfl,true,rfl,iteF ?_⟩;refine ⟨_,rfl,_,rfl,_,rfl,_,rfl,z,tl,t,as,s,rfl,BB.tl,.inr (sB.ts.seq ht),BB.ok,BB.z1,BB.z10,lt,λHC sC=>⟨rfl,_,rfl,iteNP rfl ?_⟩⟩;exact ⟨_,_,rfl,sA.trans (sB.trans sC)⟩
  rintro σ H4 ⟨o5,o6,rfl,s4⟩;exact q5 _ _ ⟨a,tl,V0,fl,ns,z,hd,as,nums,o5,o6,rfl,B3.same s4,s4.ts.seq hF3⟩
 refine ⟨_,Ad (Av (i:=1) Jb.nd rfl (HR rfl) (Ay GZ hr1 rfl mZ kZ bZ .nil pass0 (Aa (Ay GC hr1 rfl mC kC bC .nil pass0 (Aa (pv 0) (Aa Ah Ac))) Ac)))
   (Ad (Av (i:=2) Jb.nd rfl (HR rfl) (Ay GT hr2 rfl mT kT bT .nil pass0 (Aa (pv 0) (Aa Ah (Aa (pv 1) Ac)))))
   (Js (Bx (Ao Ci (Az Cz (Az DK (Ay GC hr1 rfl mC kC bC .nil pass0 (Aa (pv 0) (Aa Ah Ac))) Ah) Ah) Ah (nomark _)) (Ai (Av (i:=2) Jb.nd rfl (HR rfl) (Ay GN hr2 rfl mN kN bN .nil pass0 (Aa (pv 0) (Aa (pv 1) (Aa (pv 2) Ac)))))) BW)
   (Ad (Av (i:=3) Jb.nd rfl (BC rfl) (Ay GG hr17 rfl mG kG bG .nil pass0 (Aa (QV M GI hr4 rfl T.mgC bI .nil pass0 (Aa (pv 1) (Aa (pv 2) Ac))) (Aa (AEX mkW hiW kpW rfl mgW) Ac))))
   (Ad (Bx (PW.pt (Lf (Ao Nt (CG (pv 3) T2.cl mM GM hr1 bM .nil pass0) (BJ Aw rfl T.len CL (Aa (pv 2) Ac)) (nomark _))
    (HD (VJ (Qu (Ay GL hr16 rfl mL kL bL .nil pass0 (Aa (pv 3) (Aa (BJ Aw rfl T.len CL (Aa (pv 2) Ac)) Ac)))))))) (Ai (Ax Kz)) BW)
   (Ad (Av (i:=4) Jb.nd rfl (BC rfl) (BP (GJ rfl) rfl T.tuple C2 (Aa (BP Fx rfl T.range Lc (Aa (BJ Aw rfl T.len CL (Aa (pv 2) Ac)) Ac)) Ac)))
   h4))))),?_⟩
 refine ⟨_,rfl,a,ns,0,rfl,hS,by lia,λc0=>⟨c0,rfl,λz z1 z10=>?_⟩⟩;refine ⟨_,rfl,_,rfl,a,ns,0,z,rfl,hS,by lia,z1,z10,λtl0 ts0 as0 H1 s1 ntl el0 pl0 ok0 a120=>?_⟩;refine ⟨λσ HA=>∃(tl:Addr) (as:List (List Int)),σ=[some (.ref a),some (.int z),some (.ref tl),none,none,none,none]/\SqL K HA a (ns.map V.int)/\TlAt K HA tl as/\OkTies (z:Int) as/\as.length<=12,?_,?_⟩
 ·refine ⟨_,rfl,a,ns,0,rfl,s1.seq hS,by lia,λc1=>⟨_,_,rfl,rfl,⟨by decide,by decide⟩,_,_,rfl,rfl,(by show (0:Int)<2;decide),rfl,_,rfl,?_⟩⟩
  refine ite2 (λ_=>?_) (λ_=>⟨tl0,as0,rfl,s1.seq hS,⟨ts0,el0,pl0⟩,ok0,a120⟩);exact ⟨_,rfl,_,rfl,_,rfl,a,ns,z,tl0,as0,rfl,s1.seq hS,z1,z10,⟨ts0,el0,pl0⟩,ok0,a120,λl bs H' s' hl okl l12=>⟨l,bs,rfl,(s1.trans s').seq hS,hl,okl,l12⟩⟩
 rintro σ H2 ⟨tl,as,rfl,hS2,hT2,ok,a12⟩;obtain ⟨ts,el,pl⟩:=id hT2;have lx:=AQ pl;have bl:(as.map srt).length=as.length:=AB ..;refine ⟨_,rfl,_,rfl,λW dW nW ndW nWd=>?_⟩;have sp:Same H2 (upd (upd H2 dW (.own W)) W (.ins C dW [])):=λb o e=>by
  rw[Af (Ae e nW),Af (Ae e ndW)];exact e
 refine ⟨W,dW,tl,(z:Int),ts,as,rfl,Ab,sp.seq (SqL.of el),Paired.imp (λt x h=>.inr (Ak Am _ _ _ _ sp.ts h)) pl,ok,a12,by lia,by lia,λH3 k2 hW=>⟨rfl,?_⟩⟩;have s2:Same H2 H3:=λb o e=>k2 b o (sp b o e) (Ae e nW);refine λr0 d0 hr0 hd0 n0=>?_;have s3:Same H3 (upd (upd H3 d0 (.own r0)) r0 (.ins D d0 [])):=λb o e=>by
  rw[Af (Ae e hr0),Af (Ae e hd0)];exact e
 refine ⟨W,r0,d0,z,as.map srt,rfl,hW.same s3,Ab,z1,z10,by rw[bl];exact a12,Wt ok,λp nums hd H4 s4 hV cn ld r4=>?_⟩;rw[bl] at hV cn ld;have s14:=s2.trans (s3.trans s4);have el4:=s14 _ _ el;have B4:Bs K S a tl p ns z hd as nums H4:=⟨s14.seq hS2,n63,hT2.same s14,hV,cn,ld,ok,z1,z10,a12,r4⟩;obtain ⟨dx,jj,hp,_⟩:=id hV;refine ⟨_,rfl,p,dx,_,rfl,hp,Oo _ _ _ (by decide +kernel) (by decide +kernel) (by decide +kernel),p,_,hd,nums,rfl,hV,_,rfl,tl,_,rfl,.inl (SqL.of el4),rfl,_,rfl,iteNP (by rw[lx]) ?_⟩;refine ⟨_,rfl,_,rfl,tl,_,rfl,.inl (SqL.of el4),p,as.length,hd,nums,by rw[lx];rfl,hV,cn,a12,r4,λH5 s5=>⟨true,rfl,iteF ?_⟩⟩;have B5:=B4.same s5;have el5:=s5 _ _ el4;refine ⟨_,rfl,tl,_,rfl,.inl (SqL.of el5),_,rfl,λR hR=>⟨R,_,rfl,Ab,by lia,by lia,λt ht=>?_⟩⟩;have s6:=(Same.new hR (.rng 0 ((ts.length:Nat):Int))).trans (Same.new ht (.tup ((below ((ts.length:Nat):Int).toNat).map V.int)));refine q4 _ _ ⟨a,tl,p,t,ns,z,hd,as,nums,rfl,B5.same s6,SqT.of ?_⟩;rw[Ab,CI,lx];unfold nI below;rw[DS];rfl
end
end K43
end
section
namespace L2
open PySem PySem.Spec PyProof.Rows
section
variable{B:Au->Au->Au->Option Addr->Au->Au->List Au->Sem (List (Str×Au))}{p q r s:Str}
theorem bn1(h:∀kV doc pm an cdv ct a,B kV doc pm an cdv ct [a]=pure [(p,a)])(kV doc pm:Au)(an:Option Addr)(cdv ct:Au)(us:List Au)(hl:us.length=([p]:List Str).length):B kV doc pm an cdv ct us=pure (([p]:List Str).zip us):=by
 match us,hl with
 | [a],_=>exact h ..
theorem bn2(h:∀kV doc pm an cdv ct a b,B kV doc pm an cdv ct [a,b]=pure [(p,a),(q,b)])(kV doc pm:Au)(an:Option Addr)(cdv ct:Au)(us:List Au)(hl:us.length=([p,q]:List Str).length):B kV doc pm an cdv ct us=pure (([p,q]:List Str).zip us):=by
 match us,hl with
 | [a,b],_=>exact h ..
theorem bn3(h:∀kV doc pm an cdv ct a b c,B kV doc pm an cdv ct [a,b,c]=pure [(p,a),(q,b),(r,c)])(kV doc pm:Au)(an:Option Addr)(cdv ct:Au)(us:List Au)(hl:us.length=([p,q,r]:List Str).length):B kV doc pm an cdv ct us=pure (([p,q,r]:List Str).zip us):=by
 match us,hl with
 | [a,b,c],_=>exact h ..
theorem bn4(h:∀kV doc pm an cdv ct a b c d,B kV doc pm an cdv ct [a,b,c,d]=pure [(p,a),(q,b),(r,c),(s,d)])(kV doc pm:Au)(an:Option Addr)(cdv ct:Au)(us:List Au)(hl:us.length=([p,q,r,s]:List Str).length):B kV doc pm an cdv ct us=pure (([p,q,r,s]:List Str).zip us):=by
 match us,hl with
 | [a,b,c,d],_=>exact h ..
end
section
variable{K:As}{mg:Str->Option Au}{h:Heap}{x q:Str}{C:Addr}{st:Stmt}{ps:List Str}
inductive Df (K:As) (x:Str) (st:Stmt):Prop
 | mk (f:Addr) (od an:Option Addr) (sl:Array (Option Au)) (oc kV dc pm cd ct:Au) (a:Hn K Do x=some (some (.ref f))) (l:K.lookup f=some ⟨oc,od,.func (E3 x x (Dl st) (Ca st) (Ag st) .none kV dc pm an cd ct),sl⟩) (c:IF K cd x=true) (k:AW K (.ref f)=true):Df K x st
inductive Md (K:As) (C:Addr) (x q:Str) (st:Stmt):Prop
 | mk (f:Addr) (od an:Option Addr) (sl:Array (Option Au)) (oc kV dc pm cd ct:Au) (a:De K (.ref C) x=some (some (.ref f))) (i:L5 K (.ref f)=true) (l:K.lookup f=some ⟨oc,od,.func (E3 x q (Dl st) (Ca st) (Ag st) .none kV dc pm an cd ct),sl⟩) (c:IF K cd q=true) (k:AW K (.ref f)=true):Md K C x q st
inductive DfO (K:As) (mg:Str->Option Au) (x:Str) (st:Stmt) (ps:List Str):Prop
 | mk (f:Addr) (fd:BV) (F:Fun K x x st f fd) (b:Binds K fd ps []) (m:mg x=some (.ref f)) (k:AW K (.ref f)=true):DfO K mg x st ps
inductive MdO (K:As) (C:Addr) (x q:Str) (st:Stmt) (ps:List Str):Prop
 | mk (f:Addr) (fd:BV) (F:Fun K x q st f fd) (b:Binds K fd ps []) (m:Meth K C x f):MdO K C x q st ps
theorem Df.get(D:Df K x st)(X:K.In h)(G:h.Ns Do mg)(hb:∀(kV doc pm:Au) (an:Option Addr) (cdv ct:Au) (us:List Au),us.length=ps.length->S8 (E3 x x (Dl st) (Ca st) (Ag st) .none kV doc pm an cdv ct) ⟨us,[]⟩=pure (ps.zip us)):DfO K mg x st ps:=by
 cases D with
 | mk f od an sl oc kV dc pm cd ct a l c k=>exact ⟨f,_,Ko l c k,(Ko l c k).binds hb,G4 X G a,k⟩
theorem Md.get(D:Md K C x q st)(hb:∀(kV doc pm:Au) (an:Option Addr) (cdv ct:Au) (us:List Au),us.length=ps.length->S8 (E3 x q (Dl st) (Ca st) (Ag st) .none kV doc pm an cdv ct) ⟨us,[]⟩=pure (ps.zip us)):MdO K C x q st ps:=by
 cases D with
 | mk f od an sl oc kV dc pm cd ct a i l c k=>exact ⟨f,_,Ko l c k,(Ko l c k).binds hb,⟨a,i,k⟩⟩
theorem Df.of{f:Addr}{od an:Option Addr}{sl:Array (Option Au)}{oc kV dc pm cd ct:Au}(a:Hn K Do x=some (some (.ref f)))(l:K.lookup f=some ⟨oc,od,.func (E3 x x (Dl st) (Ca st) (Ag st) .none kV dc pm an cd ct),sl⟩)(c:IF K cd x=true)(k:AW K (.ref f)=true):Df K x st:=⟨f,od,an,sl,oc,kV,dc,pm,cd,ct,a,l,c,k⟩
theorem Md.of{f:Addr}{od an:Option Addr}{sl:Array (Option Au)}{oc kV dc pm cd ct:Au}(a:De K (.ref C) x=some (some (.ref f)))(i:L5 K (.ref f)=true)(l:K.lookup f=some ⟨oc,od,.func (E3 x q (Dl st) (Ca st) (Ag st) .none kV dc pm an cd ct),sl⟩)(c:IF K cd q=true)(k:AW K (.ref f)=true):Md K C x q st:=⟨f,od,an,sl,oc,kV,dc,pm,cd,ct,a,i,l,c,k⟩
structure Kl(K:As)(n:Str)(D:Addr):Prop where
 y:Hn K Do n=some (some (.ref D))
 c:Cls K D
 mk_:JE K D=true
 kp:AW K (.ref D)=true
theorem Kl.of(y:Hn K Do x=some (some (.ref C)))(a:J9 K C Str.empty=true)(b:Ll K C=true)(c:NI K C=true)(d:De K (.ref C) "__setattr__" = some (some (.builtin "object.__setattr__")))(m:JE K C=true)(k:AW K (.ref C)=true):Kl K x C:=⟨y,⟨a,b,c,d⟩,m,k⟩
def Nn(K:As):List Str->Prop
 | []=>True
 | x::l=>Hn K Do x=some none/\Nn K l
def Na(K:As)(C:Addr):List Str->Prop
 | []=>True
 | x::l=>De K (.ref C) x=some none/\Na K C l
theorem Nn.one{l:List Str}(a:Hn K Do x=some none)(b:Nn K l):Nn K (x::l):=⟨a,b⟩
theorem Na.one{l:List Str}(a:De K (.ref C) x=some none)(b:Na K C l):Na K C (x::l):=⟨a,b⟩
end
end L2
end
namespace PySem.W.Fast
def tw10050656664077621660:=()
def tw10107231562101430153:=()
def tw10133167971176699887:=()
def tw10146212243451388980:=()
def tw10232259527813007358:=()
def tw10249474703675364570:=()
def tw10361310722388088032:=()
def tw10378500875546342991:=()
def tw10412459019415387498:=()
def tw10479017943638055459:=()
def tw10537506118670173520:=()
def tw10641824860617175568:=()
def tw10650459495469961380:=()
def tw10781788341651114115:=()
def tw107873487022078672:=()
def tw10982060483283636369:=()
def tw11054147148868580657:=()
def tw11055042872085555278:=()
def tw11116942708848934636:=()
def tw11155896002499027797:=()
def tw11223052385164192708:=()
def tw11278565301012267663:=()
def tw11286411816647982969:=()
def tw1135895555080057263:=()
def tw11407317323985734835:=()
def tw11461747369003781199:=()
def tw11559497505345451247:=()
def tw11583178747231298279:=()
def tw1168090955404733124:=()
def tw11759925914494543788:=()
def tw11777415520536165226:=()
def tw11795777568686919820:=()
def tw11807150131964379526:=()
def tw11880135347239872589:=()
def tw1193004445543967957:=()
def tw11950550338853040577:=()
def tw11951211891216275300:=()
def tw11953697675172012548:=()
def tw12102305373071605564:=()
def tw12203579982800681661:=()
def tw12216715989819360958:=()
def tw12227796836626986551:=()
def tw12238833636148958627:=()
def tw12338971054307088712:=()
def tw12462994202162339944:=()
def tw12552119106524388578:=()
def tw12572375631107285031:=()
def tw12710161117787167647:=()
def tw12840124638283163409:=()
def tw12853365191162485770:=()
def tw12884094858690328122:=()
def tw13008330263103903572:=()
def tw13044962139266807746:=()
def tw13114743529924915153:=()
def tw13193379887473495113:=()
def tw1349208115011128174:=()
def tw13518935948455779035:=()
def tw13528844188234002261:=()
def tw13575784541882510119:=()
def tw13583292922557101853:=()
def tw1370207948717478015:=()
def tw13754985414391110094:=()
def tw13834260918455837516:=()
def tw13964640712622018608:=()
def tw14114364170404730709:=()
def tw14191141660583859000:=()
def tw14196797531330631323:=()
def tw14239082479867625330:=()
def tw14408125442552713562:=()
def tw14526119849693843230:=()
def tw1456915243489456591:=()
def tw14692252937721478109:=()
def tw147053897047691588:=()
def tw14786918639181915252:=()
def tw14864265211162858698:=()
def tw15075852729963013539:=()
def tw15077547957753516691:=()
def tw15117607242244133948:=()
def tw15187383488083377588:=()
def tw15243488926862012437:=()
def tw15359142487477767230:=()
def tw15381401969415782178:=()
def tw15402300840422975108:=()
def tw1546475994510114769:=()
def tw15510548497229337022:=()
def tw15539357531662790252:=()
def tw15618566898595264907:=()
def tw1592890261054591132:=()
def tw16018247014975952827:=()
def tw16038770653325994280:=()
def tw16261962098609858610:=()
def tw16443572204711404825:=()
def tw16449316617361908340:=()
def tw16503172763867569237:=()
def tw16638010964716857719:=()
def tw16665590695870133846:=()
def tw16778914419255553432:=()
def tw16869236472080325683:=()
def tw16907218411137829796:=()
def tw16917571790286746633:=()
def tw17002587256099541672:=()
def tw17229634185140834269:=()
def tw1726083486468449859:=()
def tw1745291724595308057:=()
def tw17458735511666478786:=()
def tw1767595600116499849:=()
def tw17768980690208279418:=()
def tw17866842246272873246:=()
def tw17882507031690836850:=()
def tw17967647238375248653:=()
def tw18012435525519533848:=()
def tw18057833176295954777:=()
def tw18087342292812720846:=()
def tw18221568944752154371:=()
def tw18226545485341483932:=()
def tw18288989227650918686:=()
def tw18370863927324712363:=()
def tw1849114978764059040:=()
def tw1857872870008430952:=()
def tw1901568788234836028:=()
def tw1909705693548782054:=()
def tw1914850694200950997:=()
def tw1942610646609329056:=()
def tw1964367555897029671:=()
def tw2036697958983103044:=()
def tw2036829400112509261:=()
def tw210166009279078368:=()
def tw2142717580362555577:=()
def tw2182111658968001298:=()
def tw2278546108822089204:=()
def tw2282493912541337953:=()
def tw2299148553407314986:=()
def tw2310529786334752212:=()
def tw2372198853219655375:=()
def tw2503236952843090238:=()
def tw2565150954593496309:=()
def tw2674315332585181117:=()
def tw2750234148718791710:=()
def tw2771971779458595777:=()
def tw2798540966491273656:=()
def tw2830059392164546882:=()
def tw2884770233631878753:=()
def tw2922033818274743704:=()
def tw2961583747302362794:=()
def tw2975056625045389503:=()
def tw3028786587504835927:=()
def tw3108251149018561622:=()
def tw3111781147223263577:=()
def tw3122487520915161419:=()
def tw3184501583027755376:=()
def tw3197527149094875953:=()
def tw3201691614154526154:=()
def tw3258520064778158824:=()
def tw3354144735750061661:=()
def tw3367612209221176832:=()
def tw3434579215518332791:=()
def tw3519919814480393545:=()
def tw3879385809378644200:=()
def tw4008938379869378133:=()
def tw4048307996178066406:=()
def tw4095892372601201588:=()
def tw4127119413016612308:=()
def tw4146986333092892271:=()
def tw4189654044317433697:=()
def tw4224905219689756978:=()
def tw4271503381849819522:=()
def tw431588620151141300:=()
def tw4404386291051267462:=()
def tw4430002203075564390:=()
def tw4487126403341521360:=()
def tw4512675747376446606:=()
def tw4513747601222452712:=()
def tw4873718548350677205:=()
def tw4913387677939685631:=()
def tw4970884623085052143:=()
def tw501995589640389345:=()
def tw5051910553565496919:=()
def tw50616998499116371:=()
def tw5292096174866151764:=()
def tw5484683488301066758:=()
def tw5564494714785802070:=()
def tw5655375385368554250:=()
def tw5742324018649125703:=()
def tw5756105293623114672:=()
def tw5761786568544738597:=()
def tw5789061572599177337:=()
def tw5824866059893488469:=()
def tw5920201584850069105:=()
def tw594237052093481829:=()
def tw6056792512001373062:=()
def tw6066112366338020599:=()
def tw6093363136611455654:=()
def tw6122331182729673786:=()
def tw616322830903735439:=()
def tw6193915470242404358:=()
def tw620462041815759138:=()
def tw6217719804490453852:=()
def tw6234010623651780144:=()
def tw6304952885284103964:=()
def tw6395441004133759391:=()
def tw6490222230987259847:=()
def tw6609165154047020121:=()
def tw6628311130255338859:=()
def tw6803489112922369867:=()
def tw68289551296258584:=()
def tw6878149098761966601:=()
def tw6885676504950129421:=()
def tw7044010120104405730:=()
def tw7059248857647211693:=()
def tw7179940618339621888:=()
def tw7222405470401430543:=()
def tw7242271474811694441:=()
def tw7315882544589230453:=()
def tw7354790474427585546:=()
def tw738230416730203216:=()
def tw7575835697334697932:=()
def tw7579121412628671311:=()
def tw7680973989712668300:=()
def tw7750405075894219194:=()
def tw7788830731240524479:=()
def tw7902190500339670845:=()
def tw7924419054440538132:=()
def tw79545166493130020:=()
def tw8008886759805479644:=()
def tw8120908676009305314:=()
def tw8232418522500028557:=()
def tw8339471635820764772:=()
def tw8381376026175037152:=()
def tw8403937210649937832:=()
def tw8433887475521973655:=()
def tw8515446121861130563:=()
def tw8517644405540562228:=()
def tw8653237630398439680:=()
def tw873854173469634450:=()
def tw8844083912470709503:=()
def tw9025117222210241478:=()
def tw90371431231387532:=()
def tw9038990924104710177:=()
def tw9185024982998789753:=()
def tw9215603446894245090:=()
def tw92413977624242197:=()
def tw9342934195921453353:=()
def tw9390815771904097188:=()
def tw9430023033459140756:=()
def tw9485548128663421018:=()
def tw95172038204497814:=()
def tw9527784703394555087:=()
def tw9555350266416055499:=()
def tw9747733228429824664:=()
def tw9771507497593549439:=()
def tw9777486251776101526:=()
def tw9848557902400363427:=()
def tw9915982060483720388:=()
def tw9924915212735540596:=()
def tw9968050374194292089:=()
end PySem.W.Fast
namespace K43
open PySem L2 G
theorem all_mk{l:OI}{w:AR}{K:As}{h:Heap}{mg:Str->Option Au}{fa C D Sv Gw:Addr}(X:K.In h)(G:h.Ns Do mg)(hfa:mg "law" = some (.ref fa))
  (U_C:Kl K "Web" C) (U_D:Kl K "Trees" D) (U_Sv:Kl K "Sieve" Sv) (U_Gw:Kl K "Growth" Gw) (h_init:Md K C "__init__" "Web.__init__" Kp) (h_size:Md K C "size" "Web.size" ABf) (h_ties:Md K C "ties" "Web.ties" ACf) (h_at:Md K C "at" "Web.at" sAt) (h_amt:Df K "refuse_amounts" AFq) (h_chk:Df K "checked_ties" AFX) (h_pts:Df K "refuse_points" AFg) (h_cell:Df K "_law_cell_at" ACG) (h_mix:Df K "_law_mixed" AFi) (h_under:Df K "points_under" QJ) (h_heads:Df K "heads_without" Ka) (h_asone:Df K "parts_as_one" Pu) (h_graph:Df K "least_graph" K43s.Kq) (h_reach:Df K "reached_knots" K43s.QM) (h_in:Df K "row_in_places" K43s.sIn) (h_sets:Df K "sets_of" K43s.YG) (h_has:Df K "has_set" K43s.AFc) (h_knotof:Df K "knot_of" K43s.En) (h_amts:Df K "refuse_amount" K43s.ACS) (h_below:Df K "is_set_below" K43s.Hs) (h_sieve:Df K "sieve_of" K43s.Pz) (h_grown:Df K "grown" Ul) (h_behp:Df K "points_behind" Jt) (h_sizel:Df K "_law_size" Wd) (h_tiesl:Df K "_law_ties" HS) (h_set:Df K "_law_set" AEJ) (h_lab:Df K "_law_labels" Jp) (h_pick:Df K "_law_picked" Jx) (h_wood:Df K "_law_is_tree" Qc) (h_hung:Df K "_law_hung" SQ) (h_least:Df K "_law_is_least" Ku) (h_law:Df K "law" Py) (h_begun:Md K D "begun" "Woods.begun" Ur) (h_taken:Md K D "taken" "Woods.taken" VD) (h_passed:Md K D "passed" "Trees.passed" Hv) (h_ful:Md K D "fulfilled" "Woods.fulfilled" AFm) (h_left:Md K D "left" "Rule.left" ABH) (h_sinit:Md K Sv "__init__" "Sieve.__init__" K43s.Kp) (h_knots:Md K Sv "knots" "Sieve.knots" K43s.Um) (h_stop:Md K Sv "top" "Sieve.top" K43s.AFr) (h_smany:Md K Sv "many" "Sieve.many" K43s.ACk) (h_ginit:Md K Gw "__init__" "Growth.__init__" Qy) (h_knotat:Md K Gw "knot_at" "Growth.knot_at" Jj) (h_past:Md K Gw "past_points" "Growth.past_points" ACo) (N_C:Na K C ["amount","joints"]) (N_Sv:Na K Sv ["amount","rows","head"]) (N_Gw:Na K Gw ["web","rule","amount","behind","rows","known"]) (N_N:Nn K ["len","range","int","max","min","sorted","tuple","list","bool","enumerate","isinstance","all","set","reversed"]) {t0:Tok} (v0:Hn K Do "MOST_POINTS" = some (some (.int 10 t0))) {t1:Tok} (v1:Hn K Do "MOST_TIES_webs" = some (some (.int 12 t1))) {t2:Tok} (v2:Hn K Do "MOST_TIES_making" = some (some (.int 12 t2))) (lX:De K (.ref D) "__init__" = some (some (.builtin "object.__init__"))) :
  ∃fd:BV,(∀(s:AA) (v:Au),O5 s fd ⟨[v],[]⟩ [("_law_script",v)])/\∀base:Heap,K.In base->base.Ns Do mg->FnOk l.prog w K mg base CX0 19 fa fd ["_law_script"] (Ra K):=by
 obtain ⟨_,_,gO,gP,bw⟩:=h_init.get (ps:=["self","many","ties"]) (bn3 (by intros;rfl));obtain ⟨_,_,gQ,bx,m_size⟩:=h_size.get (ps:=["self"]) (bn1 (by intros;rfl));obtain ⟨_,_,gU,bD,bF⟩:=h_ties.get (ps:=["self"]) (bn1 (by intros;rfl));obtain ⟨_,_,lY,lZ,mj⟩:=h_at.get (ps:=["self","point"]) (bn2 (by intros;rfl));obtain ⟨_,_,jM,jN,jO,jP⟩:=h_amt.get X G (ps:=["points","ties"]) (bn2 (by intros;rfl));obtain ⟨_,_,jQ,jR,jT,jU⟩:=h_chk.get X G (ps:=["many","ties"]) (bn2 (by intros;rfl));obtain ⟨_,_,jV,jW,jX,jY⟩:=h_pts.get X G (ps:=["many","tie"]) (bn2 (by intros;rfl));obtain ⟨_,_,gW,aA,aB,aC⟩:=h_cell.get X G (ps:=["_law_script","_law_k"]) (bn2 (by intros;rfl));obtain ⟨_,_,jZ,j4,j5,j6⟩:=h_mix.get X G (ps:=["_law_cell","_law_k"]) (bn2 (by intros;rfl));obtain ⟨_,_,cR,aM,aN,aO⟩:=h_under.get X G (ps:=["heads","head"]) (bn2 (by intros;rfl));obtain ⟨_,_,cT,cU,cV,cW⟩:=h_heads.get X G (ps:=["state","point"]) (bn2 (by intros;rfl));obtain ⟨_,_,cX,cY,cZ,c7⟩:=h_asone.get X G (ps:=["heads","one","other"]) (bn3 (by intros;rfl));obtain ⟨_,_,dh,aP,aQ,aR⟩:=h_graph.get X G (ps:=["n","rows","top"]) (bn3 (by intros;rfl));obtain ⟨_,_,dj,dz,dB,dD⟩:=h_reach.get X G (ps:=["rows","top"]) (bn2 (by intros;rfl));obtain ⟨_,_,mq,mz,mD,k_in⟩:=h_in.get X G (ps:=["places","row"]) (bn2 (by intros;rfl));obtain ⟨_,_,gY,bJ,bQ,bW⟩:=h_sets.get X G (ps:=["sieve"]) (bn1 (by intros;rfl));obtain ⟨_,_,j7,j8,j9,kh⟩:=h_has.get X G (ps:=["sieve","some"]) (bn2 (by intros;rfl));obtain ⟨_,_,cB,aD,aF,aG⟩:=h_knotof.get X G (ps:=["rows","sets"]) (bn2 (by intros;rfl));obtain ⟨_,_,gZ,g8,iu,iw⟩:=h_amts.get X G (ps:=["n"]) (bn1 (by intros;rfl));obtain ⟨_,_,dF,dG,dH,dI⟩:=h_below.get X G (ps:=["n","some"]) (bn2 (by intros;rfl));obtain ⟨_,_,dJ,dM,dR,dU⟩:=h_sieve.get X G (ps:=["n","sets"]) (bn2 (by intros;rfl));obtain ⟨_,_,dX,dY,dZ,d7⟩:=h_grown.get X G (ps:=["web","rule"]) (bn2 (by intros;rfl));obtain ⟨_,_,iC,iD,iG,iH⟩:=h_behp.get X G (ps:=["web","number"]) (bn2 (by intros;rfl));obtain ⟨_,_,d8,d9,eE,eF⟩:=h_sizel.get X G (ps:=["_law_cell"]) (bn1 (by intros;rfl));obtain ⟨_,_,eG,eO,eU,eV⟩:=h_tiesl.get X G (ps:=["_law_script","_law_at","_law_many"]) (bn3 (by intros;rfl));obtain ⟨_,_,kj,kE,kJ,kW⟩:=h_set.get X G (ps:=["_law_cell","_law_n"]) (bn2 (by intros;rfl));obtain ⟨_,_,lg,aW,aX,aY⟩:=h_lab.get X G (ps:=["_law_many","_law_ties_here","_law_some"]) (bn3 (by intros;rfl));obtain ⟨_,_,iI,iJ,iK,iM⟩:=h_pick.get X G (ps:=["_law_cell","_law_many","_law_ties_here"]) (bn3 (by intros;rfl));obtain ⟨_,_,iQ,iR,iT,iU⟩:=h_wood.get X G (ps:=["_law_many","_law_ties_here","_law_some"]) (bn3 (by intros;rfl));obtain ⟨_,_,iV,iW,iY,iZ⟩:=h_hung.get X G (ps:=["_law_script","_law_many","_law_ties_here"]) (bn3 (by intros;rfl));obtain ⟨_,_,eX,fj,fD,fJ⟩:=h_least.get X G (ps:=["_law_sieve","_law_n"]) (bn2 (by intros;rfl));obtain ⟨_,_,fQ,fW,fX⟩:=h_begun.get (ps:=["self","web"]) (bn2 (by intros;rfl));obtain ⟨_,_,f9,gj,gk⟩:=h_taken.get (ps:=["self","web","state","number"]) (bn4 (by intros;rfl));obtain ⟨_,_,cC,cF,cG⟩:=h_passed.get (ps:=["self","web","state","point"]) (bn4 (by intros;rfl));obtain ⟨_,_,lu,lA,lC⟩:=h_ful.get (ps:=["self","web","state"]) (bn3 (by intros;rfl));obtain ⟨_,_,jc,jd,je⟩:=h_left.get (ps:=["self","web","state","number"]) (bn4 (by intros;rfl));obtain ⟨_,_,gn,gq,aU⟩:=h_sinit.get (ps:=["self","n","rows","head"]) (bn4 (by intros;rfl));obtain ⟨_,_,gw,ao,aq⟩:=h_knots.get (ps:=["self"]) (bn1 (by intros;rfl));obtain ⟨_,_,jf,aj,ak⟩:=h_stop.get (ps:=["self"]) (bn1 (by intros;rfl));obtain ⟨_,_,gA,gC,gF⟩:=h_smany.get (ps:=["self"]) (bn1 (by intros;rfl));obtain ⟨_,_,gG,gH,aV⟩:=h_ginit.get (ps:=["self","web","rule"]) (bn3 (by intros;rfl));obtain ⟨_,_,cH,aH,aJ⟩:=h_knotat.get (ps:=["self","number","reached"]) (bn3 (by intros;rfl));obtain ⟨_,_,jg,jk,jo⟩:=h_past.get (ps:=["self","number","reached"]) (bn3 (by intros;rfl));obtain ⟨n0,n1,_⟩:=N_C;obtain ⟨cI,jq,jr,_⟩:=N_Sv;obtain ⟨lD,ju,cJ,cL,jx,gJ,_⟩:=N_Gw;obtain ⟨z0,z1,z2,z3,z4,z5,z6,z7,z8,z9,z10,lE,cN,aZ,_⟩:=N_N;obtain ⟨_,_,_,_,_,_,_,_,_,_,lF,lG,lH,lJ⟩:=h_law;have e:=hfa.symm.trans (G4 X G lF);cases e;have lK:=Ko (st:=Py) lG lH lJ;have law_all:∀base:Heap,FnOk l.prog w K mg base CX0 19 _ _ ["_law_script"] (Ra K):=λbase=>by
  have T:Txt K mg C:=⟨U_C.c,n0,n1,G4 X G U_C.y,⟨_,G4 X G v0⟩,⟨_,G4 X G v1⟩,B7 X G z0,B7 X G z1,B7 X G z2,B7 X G z3,B7 X G z4,B7 X G z5,B7 X G z6,B7 X G z7,B7 X G z8,B7 X G z9,B7 X G z10⟩;have bf:=ADh (P:=l.prog) (w:=w) (base:=base) gW T;have mF:=AEz (P:=l.prog) (w:=w) (mg:=mg) (base:=base) jZ;have mJ:=WM (P:=l.prog) (w:=w) (base:=base) jM T;have mQ:=AFQ (P:=l.prog) (w:=w) (mg:=mg) (base:=base) jV;have mW:=AGB jQ T mQ jW jY jX;have lM:=Hq gO T mJ jN jP jO mW jR jU jT;have cO:=ACt (P:=l.prog) (w:=w) (base:=base) gQ T;have cP:=AEO (P:=l.prog) (w:=w) (base:=base) gU T;have nC:=AGJ (P:=l.prog) (w:=w) (base:=base) lY T;have TS:K43s.Txt K mg Sv:=⟨U_Sv.c,cI,jq,jr,G4 X G U_Sv.y,⟨_,G4 X G v2⟩,B7 X G z0,B7 X G z1,B7 X G z2,B7 X G z5,B7 X G cN,B7 X G z6,B7 X G z7,B7 X G z8,B7 X G z9,B7 X G lE,B7 X G z10,B7 X G z4,B7 X G aZ⟩;have cD:Cls K D:=U_D.c;have O:Gro K mg Gw:=⟨U_Gw.c,G4 X G U_Gw.y,lD,ju,cJ,cL,jx,gJ⟩;have cu:=ABg (P:=l.prog) (w:=w) (base:=base) cR T;have jy:=ACa cT T cu aM aO aN;have jA:=ACb (P:=l.prog) (w:=w) (base:=base) cX T;have jB:=AAx fQ T cO bx m_size;have jC:=ZM (ABn (D:=D) f9 T jA cY c7 cZ cP bD bF);have gK:=Wq (D:=D) cC T jy cU cW cV cu aM aO aN;have mX:=ADl (AFp (P:=l.prog) (w:=w) (mg:=mg) (base:=base) lu);have lN:=ADU (P:=l.prog) (w:=w) (mg:=mg) (base:=base) jc;have jD:=K43s.Hq (P:=l.prog) (w:=w) (base:=base) gn TS;have aK:=K43s.ACN (P:=l.prog) (w:=w) (base:=base) gw TS;have au:=K43s.AGD (P:=l.prog) (w:=w) (base:=base) jf TS;have jE:=K43s.ADa (P:=l.prog) (w:=w) (base:=base) gA TS;have nF:=K43s.AGZ (P:=l.prog) (w:=w) (mg:=mg) (base:=base) mq;have jF:=K43s.ACi (P:=l.prog) (w:=w) (base:=base) dj TS;have cA:=K43s.ABc dh TS ⟨U_Sv.mk_,aU.at_,aU.fn,U_Sv.kp⟩ jF dz dD dB nF mz k_in mD jD gq;have cQ:=K43s.ADf gY TS aK ao aq au aj ak;have m5:=K43s.AFY j7 TS aK ao aq au aj ak;have nG:=K43s.NP (P:=l.prog) (w:=w) (base:=base) cB TS aD aG aF 13;have m7:=K43s.WM (P:=l.prog) (w:=w) (base:=base) gZ TS;have m8:=K43s.ACW (P:=l.prog) (w:=w) (base:=base) dF TS;have nM:=K43s.AAV dJ TS m7 g8 iw iu m8 dG dI dH nG aD aG aF cA aP aR aQ;have lQ:=ADn iC T cO bx m_size nC lZ mj;have jG:=ACd (u:=uT) (D:=D) gG T O cP bD bF lQ iD iH iG;have lR:=ADL (C:=C) jg cD O gK cF cG;have gM:=Nz cH T cD O lR jk jo lN jd je jC gj gk mX lA lC aH aJ;have jH:=ABG dX cD O ⟨U_Gw.mk_,aV.at_,aV.fn,U_Gw.kp⟩ jG gH gM aH aJ jB fW fX cA aP aR aQ;have jJ:=ACJ (P:=l.prog) (w:=w) (mg:=mg) (base:=base) d8;have jK:=ABo eG T bf aA aC aB mF j4 j6 j5;have m9:=AFN (P:=l.prog) (w:=w) (base:=base) kj T;have cM:=Zb (P:=l.prog) (w:=w) (base:=base) lg T;have lU:=ZK iI T m9 kE kW kJ cM aW aY aX;have lV:=Yp iQ T (B7 X G cN) cM aW aY aX;have lW:=AEP iV T bf aA aC aB;have jL:=Wf eX T U_Sv.c cQ bJ bW bQ nM dM dU dR aK ao aq au aj ak;exact AFh lK T TS ⟨U_C.mk_,bw.at_,bw.fn,U_C.kp⟩ U_D.mk_ lX U_D.kp (G4 X G U_D.y) lM gP jH dY d7 dZ jE gC gF bf aA aC aB jJ d9 eF eE jK eO eV eU lW iW iZ iY jL fj fJ fD m5 j8 kh j9 lU iJ iM iK lV iR iU iT cQ bJ bW bQ au aj ak cM aW aY aX
 exact ⟨_,λs v=>.of_eq rfl,λbase _ _=>law_all base⟩
theorem walk{l:OI}{q:AK}{loose:List Str}{XP:(Str->Option Au)->Heap->Prop}{YP:AR->Heap->Prop}{d:DefRec}{K:W5->As}(hn:l.most=some 63)(hdf:d.params.defaults=[])
  (hY:∀(w:AR) (h:Heap),YP w h->(K w.params).In h)
  (F:∀(w:AR) (mg:Str->Option Au) (fa:Addr) (h:Heap),(K w.params).In h->h.Ns Do mg->mg d.name=some (.ref fa) ->
   ∃fd:BV,(∀(s:AA) (u:Au),O5 s fd ⟨[u],[]⟩ [("_law_script",u)])/\∀base:Heap,(K w.params).In base->base.Ns Do mg->FnOk l.prog w (K w.params) mg base CX0 19 fa fd ["_law_script"] (Ra (K w.params))) :
  VQ q loose XP YP l.row.toRowW d [] (λf vs=>T6 f vs) :=
 L2.ACz (n:=63) (k:=19) (x:="_law_script") (CX:=λ_=>CX0) (sp:=λw=>Ra (K w.params)) hn (by decide) hdf ⟨rfl,by decide,by decide,rfl⟩ hY F (λ_ _ a ns hl _ hS=>⟨a,ns,rfl,hS,hl,λ_=>rfl⟩) λ_ _ _ _ _ z=>z
end K43
open PySem PySem.W PyProof.Rows
set_option maxRecDepth 100000 in
set_option maxHeartbeats 0 in
theorem PySem.Challenge.cw_frontways_k43_whole_trees_grown_holds : PySem.Challenge.rw_frontways_k43_whole_trees_grown.Holds := by
 w_on;o_law;k_head;(case hw=>w_witness2)
 k_fill
 refine K43.walk (l:=PySem.Challenge.rw_frontways_k43_whole_trees_grown) rfl rfl (λw h Y=>PySem.W.kIn_of Y) ?F
 case F =>
  intro w mg fa h KX G hmg;apply K43.all_mk KX G hmg
  all_goals first
   | (refine' L2.Df.of ?a ?l ?c ?k;(case a=>k_is);(case l=>k_is);(case c=>k_is);(case k=>k_is))
   | (refine' L2.Md.of ?a ?i ?l ?c ?k;(case a=>k_is);(case i=>k_is);(case l=>k_is);(case c=>k_is);(case k=>k_is))
   | (refine' L2.Kl.of ?y ?a ?b ?c ?d ?m ?k;(case y=>k_is);(case a=>k_is);(case b=>k_is);(case c=>k_is);(case d=>k_is);(case m=>k_is);(case k=>k_is))
   | ((first | refine L2.Nn.one ?_ ?_ | refine L2.Na.one ?_ ?_);(repeat' first | exact True.intro | refine L2.Nn.one ?_ ?_ | refine L2.Na.one ?_ ?_);all_goals k_is)
   | k_is
