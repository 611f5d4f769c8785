import PyProof.Rows.All
import Wide.All
import OpenK.AllK
import Wide.FinOn
import PyProof.EqAt
import PyProof.EqKinds
import PyProof.NeKinds
import PyProof.TupleCall
import KE.KIsAll
import KE.KIsNot
import KE.RegKIsAll
import OpenK.KOwn
import PyProof.NsDelKeeps
import PyProof.ReprRoads
import PyProof.ExcArgsOwn
import PyProof.IsiH_list
import Lean
import PyProof.StationsW
import PyProof.Rows.Catch
import OpenK.KMake
import PyProof.DictIter
import KE.KDictList
import PyProof.DictItems
import PyProof.DictWalks
import PyProof.TupleOfSeq
import PySem.SetTable
import PyProof.SetKind
import PyProof.IsRules
import PyProof.Rows.SetFrom
import PyProof.FactsAll.set
import KE.KSortTup
import PyProof.Meets
import PyProof.AutoListH
import PyProof.ListMulRoad
import PyProof.FactsAll.tuple_2
import PyProof.Rows.Range3
import PyProof.CallType
import PyProof.EnumMake
import PyProof.Rows.CallKwBuiltin
import KE.LcSums
import KE.KRevIter
import PyProof.Rows.SortLt
import PyProof.FactsAll.range_1
import PyProof.DefCall
import OpenK.KMore
import PySem.Challenge.RW_frontways_k53_whole_grown_of_pairs
set_option linter.all false
set_option autoImplicit false
set_option Elab.async false
set_option maxRecDepth 100000
set_option maxHeartbeats 4000000
set_option maxHeartbeats 8000000
set_option tactic.hygienic false
open PySem renaming Value->Ap,wpAny_bind->As,Shared->AA,model->AL,Program->AM,World->AT,mainGlobals->A8,Around->BQ,FuncData->BV,Paired->Cb,starEach->Ct,wpAny_newObj_type->CH,cLine->C2,SetTable->C6,compareOp->DA,wpAny_call_entry->DE,cellsFrom->DO,boot_len->DT,Scope->D3,sysModules->D8,wpAny_mono->Ee,codeAny_mono->EJ,wpAny_Call_Name_kw->EN,NameKind->ER,intItems->ES,wpAny_holding->EU,codeAny_builtin->EW,wpAny_forIn_list->E6,wpAny_truthy_bool->FA,wpAny_setState_of->FD,mem_of_lookup->FI,numAt->FM,sizeLine_eq->FX,rawInt->FY,wpAny_typeNameOfWhole_keyiter->F9,wpAny_pyIter_tuple->G3,wpAny_passesOwn->G8,wpAny_specialOf->Ha,behindInMarks->Hd,backTo->Hm,wpAny_rule->HL,keywordEach->HQ,wpAny_setField->HR,bootBuiltins->HU,wpAny_typeNameOf_keyiter->HZ,wpAny_isInstance->Ic,atKey->IL,binaryOp->IS,foldedSetIterable->JE,wpAny_seqItems->JP,firstArgMember->JU,argBest->JY,pushCells->J5,assignEach->J7,wpAny_askSetting->Ki,wpAny_field->Kt,sliceBounds->Kx,wpAny_ite_split->KL,swapsWith->KM,backToKw->KP,wpAny_typeOf->KU,wpAny_comprehension_free->K0,tupleKind_room_in1->K1,wpAny_tupleItemsOf->K2,wpAny_dictEntries->Lm,pyNext->LD,wpAny_of_eq->LG,plainId_quiet->LJ,intKind->LM,getItem->LO,isSubtype_tuple_tuple->LS,wpAny_execs_nil->LW,assign->LX,letOwnedTupleGo->LY,call_meets->L7,tupleKeyHash->Mc,newFunctionEnv->MM,wpAny_runValue->MQ,tupleKind->MY,DictEntry->M4,attributeBase->Nc,wpAny_standAt->Nd,wpAny_newList->No,wpAny_attempt->NA,setSearchFrom->NC,wpAny_assign_Name->NH,wpAny_pyIter_list->NI,wpAny_pyIter_slot->NJ,wpAny_call->NO,typeIs_int->NR,wpAny_binaryOp_repeat_ref->NS,BindsTo->N4,Keyword->N5,callerA->N6,newList->N7,valueAt->N8,wpAny_execs_cons->N9,IsPart->Os,compEnvC->OA,seqItems?->OV,wpAny_dictEpoch->OW,IsRangeIter->OZ,wpAny_pyNext_range_end->O0,wpAny_pyIter_rangeiter->O1,richCompare_meets_room->O4,subscripted->O6,codeAny_compStart_list->O9,intItems_at->Pc,wpAny_Assign_Subscript->Pe,wpAny_isTrue_Compare1->Pm,pyIter->Po,exec_Assign_Name_used->Pt,collect->Pw,wpAny_fieldsOf->PM,wpAny_isOneOf_keyiter->PQ,wpAny_eqIsQuiet_tuple->PY,builtinLookup_eq_fast->PZ,isSubtype_type->P0,wpAny_load->P7,bindL->P9,bindC->Qb,isInstance->QN,codeAny_call_builtin->QO,setField->QP,wpAny_handled->Q1,wpAny_setEntries_of->Q7,Within->Rs,wpAny_pyIter_range->RC,call_range_1->RE,getMethod->RF,Result->RH,newExc->RU,wpAny_getItem_heap->R9,wpAny_setItem_heap->Sa,call_meetsIn->Sb,wpAny_pyHash_tuple->Se,wpAny_eqBool_tuple->Sf,eqIsQuiet->Si,pickOrder->Sm,CmpOp->Sz,holding->SC,slot_list_getitem->SE,wpAny_pyIter_enum->SG,eqIsQuiet_byValue->SH,ofAClassStatement->SK,searchCouldBeSeen->SL,wpAny_storeSet_of->SO,wpAny_throw->SZ,GenState->S5,bindArgs->Ta,raiseNew->Tk,numAt_eq->Ts,builtinsNs->TD,Model->TH,isTrue->TJ,wpAny_Name->TK,call->TU,IsEnum->TW,pushCells_keeps->T5,IsTupleKey->T6,wpAny_ret_mkInt->T7,codeAny_of_tree->UB,typeLookup_type->UE,setsByText->UF,wpAny_updateSeq->UH,spliced->UN,wpAny_Compare1->UO,standAt->UP,recursionLimit->UR,storedH->UX,isSubtype_stop->UY,carriedByValue->UZ,Params->WV,newTuple->W0,setRelay->W4,entryFor->W6,argsOk->W7
open PySem.W renaming Frag->Au,keepIn->AI,findIn->AO,codeIn->A1,fnOf->A7,nsIn->BI,mg_none_of->B3,mg_of->B9,isFn->CY,emptyDict->EG,plainGet->E3,hasDictIn->FB,instObj->FF,makesIn->FH,plainOver->F6,specialIn->Lv,takesIn->MB,plainGet_of->MD,callWith_K0->ME,lookIn->ML,kitOne->MX,callWith_K->M1,mroIn->NF,methodObj->NG,takerIn->OS,OpenLaw->OU,cellsFrom_some->O3,methodCall_KW->Pp,looks_findIn->P8,make_core->SD,handedIn->S7,InitBack->S8,makes_of->S9,WalkO->VE,kas_item->W9
open List renaming length_map->AB,getD_eq_getElem?_getD->AC,mem_cons_self->AG,mem_cons_of_mem->AH,getElem?_eq_some_iff->AJ,getElem?_eq_getElem->AK,mem_cons->AX,range->AZ,getElem?_append_left->A2,size_toArray->A9,length_append->By,mem_range->BC,replicate->BE,mem_of_getElem?->BH,getElem?_map->BM,mem_append_right->BS,map_cons->B5,mem_map->B6,map_append->B8,length_take->Cc,mem_singleton->Cn,mem_append->Co,getElem?_append_right->Cs,lookup_cons->CC,pairwise_cons->CI,mem_iff_getElem->CL,pairwise_iff_getElem->CO,length_range->CS,append_nil->CU,append_assoc->C0,pairwise_append->C5,mem_filter->C7,mem_iff_getElem?->Db,length_cons->Dx,length_singleton->DC,all_eq_true->DH,take_length->DI,filter_cons->DV,getElem?_eq_none->D1,pairwise_map->D2,mem_append_left->D9,nodup_cons->Ev,filter_append->Ex,replicate_succ->EF,take_add_one->EI,lookup->EM,length_filter_le->EZ,length_eq_zero_iff->Fs,length->FK,take_append_drop->FU,find?_cons->F0,reverse_reverse->F5,take_sublist->F7,ext_getElem?->F8,getElem?_range->Go,mem_map_of_mem->GH,reverse_append->GN,length_drop->GV,nodup_range->G0,take_of_length_le->G2,length_nil->G9,perm_append_comm->Hc,flatten_cons->Hn,drop_sublist->HG,length_erase_of_mem->Iq,getElem_mem->Ix,mem_reverse->IB,filterMap_cons->ID,pairwise_singleton->IH,any_cons->II,range_succ->IN,getElem?_set_self->IR,filter_eq_nil_iff->IZ,drop_eq_nil_of_le->Jn,getElem_take->JI,contains_iff_mem->J2,map_map->J3,getElem?_set_ne->J6,mem_erase_of_ne->Kb,map_congr_left->KB,getElem?_take_of_lt->KS,toArray->K3,getElem?_replicate->K6,filter_cons_of_neg->K7,getElem?_inj->Lu,length_pos_of_mem->LH,not_mem_nil->LL,length_replicate->LN,foldl_cons->L6,nil_append->L8,filter_map->Md,length_set->Mn,mem_of_mem_take->MA,take_succ_cons->MH,mem_filterMap->MZ,map_singleton->M6,getElem_drop->NM,reverse_perm->NN,getLast?_eq_none_iff->NV,getLast?_eq_some_iff->NX,drop_eq_getElem_cons->N1,map_nil->Oy,cons_append->OB,filter_cons_of_pos->OP,of_mem_zip->OT,pairwise_lt_range->Pl,nodup_nil->PF,drop_drop->P4,take_zero->P5,pairwise_reverse->P6,foldl->QE,getElem_toArray->QI,Nodup->QQ,mem_of_mem_drop->QR,map_take->Q2,map_drop->Q3,zip_cons_cons->RO,getElem?_drop->Sl,extract->Sr,getElem_inj->S6,getElem_map->To,filter_nil->T8,take->U8,all_cons->VA,take_nil->VX,map_id'->Xs
open PySem.Heap renaming get?_push_of_some->AD,get?_push_size->AN,lt_size->AY,size_push->DB,SameBut->ET,get?_update_self->EX,get?_update_other->FL,ExtBut->SY
open PyProof.Rows renaming Keyed->AE,arrOf->AQ,wpS_bind->AR,wpS_pure->AW,SortSt->Bz,pendingOf->BG,elem'->DD,boot_tuple->DJ,wpS_forRange->DL,callWith_type1->D0,wpS_mono->EC,seqObj->EE,IntsAre->Ff,SortKind->FE,failedOf->FO,wpS_modify->HP,slot_tuple_getitem->IE,boot_list->IX,boot_max->J1,wpS_get->J4,AllBare->K5,boot_min->LU,envOfC->LZ,callWith_builtin1->L4,wpS_lift->MV,boot_isinstance->MW,listUpdate_at->Nw,reverseSlice'->NE,boot_sorted->OC,boot_range->OQ,IsTup->OR,ltAt'->OX,subscriptTail_builtinR->O7,boot_int->PR,gallopOf->QU,Constant_none->QY,subscriptTail->Q0,listItems_at->R6,mirror->Sn,setArr->So,seqEpoch_at->S4,Subscript_->TL,entry_list_sort->TZ,bubble->UK,wpAny_notIn_heap->UM,slicePart_none->UT,slot_list_sort->UU,args_list_sort->UV,tuples'->U4,Call_->VY,boot_all->XX,lt_int->X0
open Nat renaming le_refl->AF,zero_le->Bi,ne_of_lt->BU,lt_of_lt_of_le->Cf,le_trans->CF,lt_or_ge->C4,le_of_lt->De,add_sub_cancel->DS,lt_irrefl->D6,lt_succ_self->EB,lt_succ_of_lt->FC,lt_of_le_of_lt->G4,sub_self->Iy,le_of_eq->KO,le_succ->LF,pow_succ->Me,pow_le_pow_right->Mm,zero_add->Mo,mod_lt->My,lt_trichotomy->NL,eq_zero_or_pos->Sj,add_zero->Sk,one_le_two_pow->Su,le_succ_of_le->SR,div_eq_of_lt->Tx,le_add_right->TC,mul_le_mul->U0,ne_of_gt->Wp,mul_comm->WU,sub_zero->W1,succ_pos->W2
open PySem.Value renaming ref->AS,none->C1,type->EQ,int->EV,bool->G1,isInt_shape->JA,notImplemented->L5,str->Rc,isStrOf->U9,isInt->XA,bytes->XB,float->XE
open Array renaming length_toList->AU,getElem?_eq_getElem->Bn,getElem?_toList->B7,getElem?_eq_some_iff->Da,toList_append->Do,getD->EA,toList_extract->F4,getD_eq_getD_getElem?->G5,perm_iff_toList_perm->Hk,size_setIfInBounds->IA,forIn_toList->IM,getElem?_eq_none->IU,toList_push->JJ,toList_reverse->Kj,getElem_mem_toList->OG,toList_map->OH,toArray_toList->QH,toList_modify->Q8,toList->RA,toList_inj->TB,replicate->T9
open Bool renaming false_eq_true->AV,false_ne_true->Be,and_eq_true->DF,not_true->D7,eq_iff_iff->FG,not_false->MS,beq_eq_decide_eq->PD,false_and->UQ,and_false->U2,false_or->VO,or_false->VS,true_and->VT,and_self->VU
open Or renaming inl->BF,inr->JO
open PySem.NameKind renaming free->BN,cell->CD
open ForInStep renaming done->BO,yield->C3
open Option.some renaming inj->BY
open PySem.Paired renaming length->B4,snoc->S3
open Classical renaming byContradiction->CM,choose->Fa,choose_spec->FS,propDecidable->OK
open PySem.PassesOwn renaming never->C8
open Int renaming toNat_natCast->C9,le_trans->EL,emod_lt_of_pos->FR,le_of_lt->F3,emod_nonneg->Hb,not_lt->IP,le_refl->IT,lt_irrefl->Q5,zero_add->Sc,mul_one->SW,ediv_one->WS
open Ne renaming symm->DM
open PySem.Builtin.Tuple renaming tupleExact->DU,tupleTooMany->Kk,tupleHashOf->KI,tupleCompareSizes->LV,tupleItemsOf->Nn
open PySem.Heap.SameBut renaming update->DZ,refl->X8
open PySem.SetTable renaming insertAt->D5,runEnd->Fu,Probe->HM,turns->NY,grown->UA
open False renaming elim->Eg
open Sum renaming inl->ED,inr->N3
open PySem.Obj renaming mapSeq->EH,data_mapFields->E7,isFreed_of_fields->JS,cls_mapFields->Lc,mapFields->NB,putSet->Uf
open Option renaming isSome_iff_exists->EK,isSome_map->Ll,map_some->L9,isSome_iff_ne_none->N0,map_eq_some_iff->Pd,isSome_some->R8,getD_none->Tb,none->XT
open PySem.Builtin.List renaming listExtendWith->EO,listTooLong->KW,listLengthHint->M9,listSameRef->OF,listFitsIndex->VC
open PySem.F renaming slot_list_append->E8,type_list_append->E9,slot_dict_keyiterator_next->Fh,plainAttrs_list->Fn,slot_tuple_iterator_next->He,called_set->IC,plain_list_iadd->IF,slot_tuple_hash->IG,slot_tuple_mul->IY,slot_tuple_eq->J0,slot_dict_get->LP,args_dict_keyiterator_next_1->Mb,entry_dict_keyiterator_next->MC,args_tuple_iterator_next_1->MO,entry_tuple_iterator_next->M5,entry_proto_collect->M7,plain_proto_collect->M8,slot_dict_getitem->NU,args_tuple_mul_2->OE,args_tuple_lt_2->OI,args_dict_get_3->OL,entry_list_iadd->OM,slot_tuple_rmul->ON,entry_tuple_mul->OO,entry_tuple_lt->O5,entry_dict_get->Pf,slot_tuple_lt->Ps,slot_int_rmul->PU,slot_dict_len->PV,slot_set_iter->P3,slot_dict_iter->Tu,plain_set_new->UD
open List.Pairwise renaming imp_of_mem->Fc,nil->K9,cons->R7
open PySem.Around renaming under_plainId->Fk,under->On
open PySem.Builtin.Range renaming rangeSize->Fm,small->KA,rangePlace?->N2,rangeFitsLong->U7
open List.Perm renaming append_left->FV,append_right->LI,nodup_iff->MG,refl->MU,trans->OY,cons->U1,swap->U3
open PyProof.Rows.F renaming plain_set_update_loop->G6,entry_set_update_loop->K4
open PySem.Challenge renaming pw_frontways_k53_whole_grown_of_pairs->G7
open True renaming intro->HH
open PySem.Builtin.Slice renaming slicePlaces->HI,sliceAdjust->KF,sliceApplied->Nl,slicePartIndex->US,sliceFields->V9
open PySem.Builtin.SmallTypes renaming nextOf->HK
open PySem.Str renaming ofString->HV,empty->M0
open PySem.Calls renaming spliced_cons->IJ,call_function_entry->KG,spliced_nil->K8,Name_function_global->Na,callWith_builtin->O8,evalArgs_plain->QA
open PyProof.Rows.SortSt renaming mk'->IQ
open PySem.SeqAt renaming EqAt->J8,notIn_tupleAt->Q6,notIn_listAt->RR,in_tupleAt->Th,in_listAt->TR
open Prod renaming ext->J9,fst->W3
open PySem.SetTable.layClean renaming free->Kn
open PySem.Builtin.Dict_items renaming ownsTuple->MR
open PySem.SetTable.probe renaming go->MT
open PySem.SeqAt.EqAt renaming int_int->M3,bool_bool->Qr,int_str->Re,str_int->Rl,same->TN
open PySem.AutoSeq1 renaming sub_tuple_tuple->Op
open PyProof renaming noPylong_small->O2
open PySem.Builtin.Dict renaming showsAll->PH,dictSlotNone->We,pendingCount->Wl
open List.cons renaming inj->Q4
open PySem.BindsTo renaming of_defaults->Q9
open PySem.Code renaming isFrame->RI,quiet_builtin->RY,frames->XO
open PySem.WalksT renaming enumerateD->SF
open PySem.Data renaming fields->SU,cell->U6,seq->WZ
open PySem.Builtin renaming sorted->Tl
open Array.Perm renaming refl->UI
open PySem.Builtin.Frozenset renaming updateFrom->U5,newClass->VW,sizeOf->W8
open PySem.SeqAt.RcNeAt renaming lists_lengths->VI,lists->X6
open PySem.W.Looks renaming of_pure->VM,here->X1
open PySem.Shared renaming TypeIs->VQ
open PySem.EqNone renaming eq_none_none->VZ,eq_none_bool->V0,eq_bool_none->V1,ne_none_none->V4,ne_none_bool->V5,ne_bool_none->V6,eq_none_int->WA,eq_none_str->WB,eq_int_none->WC,eq_str_none->WF,ne_none_int->WH,ne_none_str->WI,ne_int_none->WJ,ne_str_none->WO
open PySem.EqMixed renaming eq_bool_str->V2,eq_str_bool->V3,ne_bool_str->V7,ne_str_bool->V8,eq_int_str->WE,eq_str_int->WG,ne_int_str->WN,ne_str_int->WP
open PySem.pickOrder renaming go->W5
open PySem.SeqRoads2 renaming in_meets->Xt
open PySem.CmpOp renaming NotIn->XG,In->X9
open PySem.Walks renaming range->XI,tuple->XU,list->XZ
open PySem.IsRange renaming new->XN
open PySem.Moved renaming trans->XW
open PySem.W.WShape renaming has->XY
open PySem.Heap.IsSliceOf renaming new->X3
open PyProof.Rows.IsTup renaming new->X4
open PySem.W.WData renaming int->X5
open PySem.Within renaming cons->X7
open PySem.Heap.DictOfH renaming new->Ya
open PySem.Heap.DictOf renaming new->Yf
namespace L2
inductive E1 {α0:Type} (p:α0->Prop):Prop
 | mk (a0:α0) (h:p a0):E1 p
inductive E2 {α0 α1:Type} (p:α0->α1->Prop):Prop
 | mk (a0:α0) (a1:α1) (h:p a0 a1):E2 p
inductive E4 {α0 α1 α2 α3:Type} (p:α0->α1->α2->α3->Prop):Prop
 | mk (a0:α0) (a1:α1) (a2:α2) (a3:α3) (h:p a0 a1 a2 a3):E4 p
inductive E5 {α0 α1 α2 α3 α4:Type} (p:α0->α1->α2->α3->α4->Prop):Prop
 | mk (a0:α0) (a1:α1) (a2:α2) (a3:α3) (a4:α4) (h:p a0 a1 a2 a3 a4):E5 p
inductive A3 (p0 p1 p2:Prop):Prop
 | mk (h0:p0) (h1:p1) (h2:p2):A3 p0 p1 p2
inductive A4 (p0 p1 p2 p3:Prop):Prop
 | mk (h0:p0) (h1:p1) (h2:p2) (h3:p3):A4 p0 p1 p2 p3
inductive A5 (p0 p1 p2 p3 p4:Prop):Prop
 | mk (h0:p0) (h1:p1) (h2:p2) (h3:p3) (h4:p4):A5 p0 p1 p2 p3 p4
inductive A6 (p0 p1 p2 p3 p4 p5:Prop):Prop
 | mk (h0:p0) (h1:p1) (h2:p2) (h3:p3) (h4:p4) (h5:p5):A6 p0 p1 p2 p3 p4 p5
end L2
namespace L2
open PySem PySem.Spec PyProof.Rows
abbrev Key:=Sum Int Str
def keyIs:Key->Ap->Bool
 | .inl k,v=>XA k v
 | .inr x,v=>U9 x v
def keyH(w:AT):Key->Int
 | .inl k=>hashInt k
 | .inr x=>hashStr w x
theorem Bt:∀{k:Key}{v:Ap},keyIs k v=true->(∃i t,k=ED i/\v=EV i t)\/(∃x t,k=N3 x/\v=Rc x t)
 | .inl i,v,h=>by
  obtain ⟨t,e⟩:=JA (k:=i) (v:=v) h;exact .inl ⟨i,t,rfl,e⟩
 | .inr x,v,h=>by
  obtain ⟨t,e⟩:=Value.isStrOf_shape (x:=x) (v:=v) h;exact .inr ⟨x,t,rfl,e⟩
theorem Xb(i:Int)(t:Tok):keyIs (.inl i) (.int i t)=true:=by simp[keyIs,XA]
theorem Yt(x:Str)(t:Tok):keyIs (.inr x) (.str x t)=true:=by simp[keyIs,U9]
theorem ADR(a b:Int):decide ((ED a:Key)=ED b)=(a==b):=by
 by_cases e:a=b
 ·subst e;simp
 ·have h:¬ (ED a:Key)=ED b:=λq=>e (Sum.inl.inj q)
  rw[decide_eq_false h];exact (beq_eq_false_iff_ne.mpr e).symm
theorem ADU(a b:Str):decide ((N3 a:Key)=N3 b)=decide (a=b):=by
 by_cases e:a=b
 ·subst e;simp
 ·have h:¬ (N3 a:Key)=N3 b:=λq=>e (Sum.inr.inj q)
  rw[decide_eq_false h,decide_eq_false e]
theorem AEV(a:Int)(b:Str):decide ((ED a:Key)=N3 b)=false:=decide_eq_false (λq=>nomatch q)
theorem ADW(a:Str)(b:Int):decide ((N3 a:Key)=ED b)=false:=decide_eq_false (λq=>nomatch q)
def Bd(prog:AM)(w:AT):PySem.KeyKind prog w Key where
 is:=keyIs
 hash:=keyH w
 inj:=λv a b ha hb=>by
  rcases Bt ha with⟨i,t,rfl,rfl⟩ | ⟨x,t,rfl,rfl⟩
  ·rcases Bt hb with⟨j,u,rfl,e⟩ | ⟨y,u,rfl,e⟩
   ·injection e with e1 _;rw[e1]
   ·exact nomatch e
  ·rcases Bt hb with⟨j,u,rfl,e⟩ | ⟨y,u,rfl,e⟩
   ·exact nomatch e
   ·injection e with e1 _;rw[e1]
 byValue:=λk v h=>by
  rcases Bt h with⟨i,t,rfl,rfl⟩ | ⟨x,t,rfl,rfl⟩<;>rfl
 pyHash:=λhv h=>by
  rcases Bt hv with⟨i,t,rfl,rfl⟩ | ⟨x,t,rfl,rfl⟩
  ·exact wpAny_pyHash_int h
  ·exact wpAny_pyHash_str h
 eqBool:=λhu hv h=>by
  rcases Bt hu with⟨i,t,rfl,rfl⟩ | ⟨x,t,rfl,rfl⟩
  ·rcases Bt hv with⟨j,u,rfl,rfl⟩ | ⟨y,u,rfl,rfl⟩
   ·rw[ADR] at h;exact wpAny_eqBool_int h
   ·rw[AEV] at h;exact Re i t y u _ _ _ _ h
  ·rcases Bt hv with⟨j,u,rfl,rfl⟩ | ⟨y,u,rfl,rfl⟩
   ·rw[ADW] at h;exact Rl x t j u _ _ _ _ h
   ·rw[ADU] at h;exact wpAny_eqBool_str h
 «strs»:=λk x t v h=>by
  rcases Bt h with⟨i,u,rfl,e⟩ | ⟨y,u,rfl,e⟩
  ·exact nomatch e
  ·injection e with e1 _
   subst e1;cases v<;>rfl
theorem RJ(prog:AM)(w:AT)(i:Int)(t:Tok):(Bd prog w).is (.inl i) (.int i t)=true:=Xb i t
theorem Tj(prog:AM)(w:AT)(x:Str)(t:Tok):(Bd prog w).is (.inr x) (.str x t)=true:=Yt x t
inductive V where
 | non | bl (b:Bool) | int (i:Int) | str (x:Str) | byt (b:Array UInt8) | flt (b:UInt64) | ref (a:Addr) | ty (n:String)
 deriving DecidableEq
def RelV:V->Ap->Prop
 | .non,u=>u=C1
 | .bl b,u=>u=G1 b
 | .int i,u=>∃t,u=EV i t
 | .str x,u=>∃t,u=Rc x t
 | .byt b,u=>∃t,u=XB b t
 | .flt b,u=>∃t,u=XE b t
 | .ref a,u=>u=AS a
 | .ty n,u=>u=EQ n
abbrev Vals:List V->List Ap->Prop:=Cb RelV
theorem Vals.length{xs:List V}{us:List Ap}(r:Vals xs us):xs.length=us.length:=B4 r
theorem Vals.get:∀{xs:List V}{us:List Ap}{i:Nat}{x:V},Vals xs us->xs[i]?=some x->∃u,us[i]?=some u/\RelV x u
 | _,_,_,_,.nil,e=>by simp at e
 | _,_,0,_,.cons r _,e=>by simp at e;subst e;exact ⟨_,rfl,r⟩
 | _,_,i+1,x,.cons _ t,e=>by
  obtain ⟨u,h1,h2⟩:=Vals.get (i:=i) (x:=x) t (by simpa using e);exact ⟨u,by simpa using h1,h2⟩
theorem Vals.append:∀{xs ys:List V}{us ws:List Ap},Vals xs us->Vals ys ws->Vals (xs++ys) (us++ws)
 | _,_,_,_,.nil,s=>s
 | _,_,_,_,.cons r t,s=>.cons r (Vals.append t s)
theorem Vals.take:∀{xs:List V}{us:List Ap} (n:Nat),Vals xs us->Vals (xs.take n) (us.take n)
 | _,_,0,_=>.nil
 | _,_,_+1,.nil=>.nil
 | _,_,n+1,.cons r t=>.cons r (Vals.take n t)
theorem Vals.drop:∀{xs:List V}{us:List Ap} (n:Nat),Vals xs us->Vals (xs.drop n) (us.drop n)
 | _,_,0,r=>r
 | _,_,_+1,.nil=>.nil
 | _,_,n+1,.cons _ t=>Vals.drop n t
def RelO:Option V->Option Ap->Prop
 | some v,some u=>RelV v u
 | none,none=>True
 | _,_=>False
def KV{κ:Type}:List (κ×V)->List (κ×Ap)->Prop:=Cb λ(p:κ×V) (q:κ×Ap)=>p.1=q.1/\RelV p.2 q.2
def kV:Key->V
 | .inl i=>.int i
 | .inr x=>.str x
inductive HO where
 | lst (xs:List V)
 | tup (xs:List V)
 | dK (kvs:List (Key×V)) | dT (kvs:List (List Key×V))
 | set (S:Int->Bool) (n:Nat)
 | ins (C dx:Addr) (fs:List (Str×V))
 | own (x:Addr)
 | xd (fs:List (Str×V))
 | met (f x:Addr)
 | rng (lo hi:Int)
 | frz (o:Obj) (u:HO)
 | tbl (ps:Array Ap)
 | ext (φ:Heap->Prop)
abbrev Hp:=Addr->Option HO
def upd(H:Hp)(a:Addr)(o:HO):Hp:=λb=>if b=a then some o else H b
theorem Ab{H:Hp}{a:Addr}{o:HO}:upd H a o a=some o:=by unfold upd;rw[if_pos rfl]
theorem Ag{H:Hp}{a b:Addr}{o:HO}(h:b≠a):upd H a o b=H b:=by unfold upd;rw[if_neg h]
theorem ACY{H:Hp}{a:Addr}{o u:HO}:upd (upd H a o) a u=upd H a u:=by
 funext b;unfold upd;split<;>rfl
theorem Cd{H:Hp}{a b:Addr}{o u:HO}(h:H a=some o)(h':H b=some u)(d:o≠u):a≠b:=by
 intro e;subst e;rw[h] at h';exact d (BY h')
theorem Af{H:Hp}{a b:Addr}{o:HO}(h:H a=some o)(h':H b=none):a≠b:=by
 intro e;subst e;rw[h] at h';cases h'
section
variable (P:AM)(w:AT)
def ObjOk(H:Hp)(h:Heap)(a:Addr):HO->Prop
 | .lst xs=>xs.length<=sizeLine/\∃(its:List Ap) (n:Nat),Vals xs its/\h.get? a=some {cls:=.type "list",data:=.seq its.toArray n}
 | .tup xs=>xs.length<=sizeLine/\∃its:List Ap,Vals xs its/\OR h a its.toArray
 | .dK kvs=>kvs.length<=sizeLine/\(a==D8)=false/\∃vs,KV kvs vs/\h.DictOf (Bd P w) a vs
 | .dT kvs=>kvs.length<=sizeLine/\(a==D8)=false/\∃xs:List (List Key×Addr×Ap),
   Cb (λ(p:List Key×V) (q:List Key×Addr×Ap)=>p.1=q.1/\H q.2.1=some (.tup (p.1.map kV))/\RelV p.2 q.2.2) kvs xs /\
   ∃o es ep,h.get? a=some o/\o.ExactDict/\o.data=.dict es ep/\es.toList=xs.map (entryOfKey (MY (Bd P w)))/\(xs.map (·.1)).Nodup
 | .set S n=>h.SetOf (LM P w) a S n
 | .ins C dx fs=>H dx=some (.own a)/\fs.length<=1000/\dx≠a/\h.get? a=some (FF C dx) /\
   ∃mA,h.Ns1 dx mA/\(∀f,RelO (fs.lookup f) (mA f))/\Rs mA (fs.map (·.1))
 | .own _=>∃o,h.get? a=some o
 | .xd fs=>∃mA,h.Ns1 a mA/\∀f,RelO (fs.lookup f) (mA f)
 | .rng lo hi=>∃t u v,h.get? a=some {cls:=.type "range",data:=.fields #[.int lo t,.int hi u,.int 1 v]}
 | .frz o u=>h.get? a=some o/\ObjOk H h a u
 | .tbl ps=>h.get? a=some {cls:=.none,data:=.fields ps}
 | .met f x=>h.get? a=some (NG (.ref f) (.ref x))
 | .ext φ=>φ h/\(∃o,h.get? a=some o)/\∀h1 h2:Heap,φ h1->(∀o,h1.get? a=some o->h2.get? a=some o)->φ h2
def HOk(H:Hp)(h:Heap):Prop:=∀a o,H a=some o->ObjOk P w H h a o
end
section
variable{P:AM}{w:AT}{H H':Hp}{h h':Heap}{a:Addr}{o:HO}
theorem ObjOk.lt(x:ObjOk P w H h a o):a<h.objs.size:=by
 cases o with
 | lst xs=>obtain ⟨_,_,_,_,e⟩:=x;exact AY e
 | tup xs=>obtain ⟨_,_,_,p⟩:=x;exact p.lt
 | dK kvs=>obtain ⟨_,_,_,_,o,_,_,e,_⟩:=x;exact AY e
 | dT kvs=>obtain ⟨_,_,_,_,o,_,_,e,_⟩:=x;exact AY e
 | set S n=>obtain ⟨o,_,_,_,e,_⟩:=x;exact AY e
 | ins C dx fs=>obtain ⟨_,_,_,e,_⟩:=x;exact AY e
 | own y=>obtain ⟨_,e⟩:=x;exact AY e
 | xd fs=>obtain ⟨_,⟨_,_,_,e,_⟩,_⟩:=x;exact AY e
 | rng lo hi=>obtain ⟨_,_,_,e⟩:=x;exact AY e
 | frz ob u=>obtain ⟨e,_⟩:=x;exact AY e
 | tbl ps=>exact AY (show h.get? a=some _ from x)
 | met f y=>exact AY (show h.get? a=some _ from x)
 | ext φ=>obtain ⟨_,⟨_,e⟩,_⟩:=x;exact AY e
theorem Paired.mapP{α β:Type}{F G:α->β->Prop}:∀{l₁:List α}{l₂:List β},Cb F l₁ l₂->(∀a b,F a b->G a b)->Cb G l₁ l₂
 | _,_,.nil,_=>.nil
 | _,_,.cons r t,f=>.cons (f _ _ r) (Paired.mapP t f)
theorem ObjOk.stay(x:ObjOk P w H h a o)(k:∀b u,(b=a\/H b=some (.own a))->h.get? b=some u->h'.get? b=some u)
  (ho:∀b,H b=some (.own a)->H' b=some (.own a)) (ht:∀b xs,H b=some (.tup xs)->H' b=some (.tup xs)):ObjOk P w H' h' a o:=by
 induction o with
 | lst xs=>obtain ⟨z,its,n,r,e⟩:=x;exact ⟨z,its,n,r,k _ _ (.inl rfl) e⟩
 | tup xs=>obtain ⟨z,its,r,ob,e,c⟩:=x;exact ⟨z,its,r,ob,k _ _ (.inl rfl) e,c⟩
 | dK kvs=>obtain ⟨z,y,vs,r,ob,es,ep,e,c⟩:=x;exact ⟨z,y,vs,r,ob,es,ep,k _ _ (.inl rfl) e,c⟩
 | dT kvs =>
  obtain ⟨z,y,xs,r,ob,es,ep,e,c⟩:=x;exact ⟨z,y,xs,Paired.mapP r λp q z=>⟨z.1,ht _ _ z.2.1,z.2.2⟩,ob,es,ep,k _ _ (.inl rfl) e,c⟩
 | set S n=>obtain ⟨ob,es,ep,t,e,c⟩:=x;exact ⟨ob,es,ep,t,k _ _ (.inl rfl) e,c⟩
 | ins C dx fs =>
  obtain ⟨d,z,ne,e,mA,⟨od,es,ep,e2,c⟩,r⟩:=x;exact ⟨ho _ d,z,ne,k _ _ (.inl rfl) e,mA,⟨od,es,ep,k _ _ (.inr d) e2,c⟩,r⟩
 | own y=>obtain ⟨ob,e⟩:=x;exact ⟨ob,k _ _ (.inl rfl) e⟩
 | xd fs=>obtain ⟨mA,⟨od,es,ep,e,c⟩,r⟩:=x;exact ⟨mA,⟨od,es,ep,k _ _ (.inl rfl) e,c⟩,r⟩
 | rng lo hi=>obtain ⟨t,u,v,e⟩:=x;exact ⟨t,u,v,k _ _ (.inl rfl) e⟩
 | frz ob u ih=>obtain ⟨e,q⟩:=x;exact ⟨k _ _ (.inl rfl) e,ih q⟩
 | tbl ps =>
  have e:h.get? a=some {cls:=.none,data:=.fields ps}:=x;show h'.get? a=some {cls:=.none,data:=.fields ps};exact k a _ (.inl rfl) e
 | met f y =>
  have e:h.get? a=some (NG (.ref f) (.ref y)):=x;show h'.get? a=some (NG (.ref f) (.ref y));exact k a _ (.inl rfl) e
 | ext φ=>obtain ⟨p,⟨o,e⟩,st⟩:=x;exact ⟨st _ _ p λo q=>k _ _ (.inl rfl) q,⟨o,k _ _ (.inl rfl) e⟩,st⟩
theorem HOk.lt(x:HOk P w H h)(e:H a=some o):a<h.objs.size:=(x a o e).lt
theorem HOk.fresh(x:HOk P w H h)(e:h.objs.size<=a):H a=none:=by
 cases q:H a with
 | none=>rfl
 | some u=>exact absurd (Cf (x.lt q) e) (D6 _)
theorem HOk.kept(x:HOk P w H h)(k:∀b u,h.get? b=some u->h'.get? b=some u):HOk P w H h':=λa o e =>
 (x a o e).stay (λb u _ q=>k b u q) (λ_ q=>q) λ_ _ q=>q
theorem HOk.laid(x:HOk P w H h)(k:∀b u,h.get? b=some u->h'.get? b=some u)(hp:h.objs.size<=a)(new:ObjOk P w (upd H a o) h' a o):HOk P w (upd H a o) h':=λb u e=>by
 have hn:=x.fresh hp;by_cases hb:b=a
 ·subst hb;rw[Ab] at e;cases e;exact new
 ·rw[Ag hb] at e
  exact (x b u e).stay (λc v _ q=>k c v q) (λc q=>by rw[Ag (Af q hn)];exact q) λc xs q=>by rw[Ag (Af q hn)];exact q
end
def Rd(H:Hp)(a:Addr)(u:HO):Prop:=H a=some u\/∃o,H a=some (.frz o u)
theorem Rd.ok{P:AM}{w:AT}{H:Hp}{h:Heap}{a:Addr}{u:HO}(r:Rd H a u)(x:HOk P w H h):ObjOk P w H h a u:=by
 rcases r with r | ⟨o,r⟩
 ·exact x a u r
 ·obtain ⟨_,q⟩:=x a _ r
  exact q
def Mut:Option HO->Prop
 | some (.lst _)=>True
 | some (.dK _)=>True
 | some (.dT _)=>True
 | some (.set _ _)=>True
 | some (.ins _ _ _)=>True
 | some (.ext _)=>True
 | _=>False
section
variable{P:AM}{w:AT}{H:Hp}{h h':Heap}{x e:Addr}{o':HO}
theorem HOk.write(ok:HOk P w H h)(mu:Mut (H x))(he:e=x\/H e=some (.own x))(k:∀b u,b≠e->h.get? b=some u->h'.get? b=some u)(heo:∃u,h'.get? e=some u)
  (new:ObjOk P w (upd H x o') h' x o'):HOk P w (upd H x o') h':=λb u q=>by
 have nown:∀c y,H c=some (.own y)->c≠x:=λc y r z=>by subst z;rw[r] at mu;exact mu
 have ntup:∀c xs,H c=some (.tup xs)->c≠x:=λc xs r z=>by subst z;rw[r] at mu;exact mu
 by_cases hb:b=x
 ·subst hb;rw[Ab] at q;cases q;exact new
 ·rw[Ag hb] at q
  by_cases hbe:b=e
  ·have q':H b=some (.own x):=by
    rcases he with z | z
    ·exact absurd (hbe.trans z) hb
    ·rw[hbe];exact z
   rw[q] at q';cases q';obtain ⟨v,hv⟩:=heo;exact ⟨v,by rw[hbe];exact hv⟩
  ·refine (ok b u q).stay (λc v hc r=>k c v ?_ r) (λc r=>by rw[Ag (nown c b r)];exact r) λc xs r=>by rw[Ag (ntup c xs r)];exact r
   rcases hc with rfl | hc
   ·exact hbe
   ·rintro rfl
    rcases he with z | z
    ·exact nown c b hc z
    ·rw[hc] at z;cases z;exact hb rfl
end
structure Un(fs ex:List Addr)(H H':Hp)(h h':Heap):Prop where
 keep:∀b o,h.get? b=some o->H b=none->b∉fs->b∉ex->h'.get? b=some o
 slot:∀b o,h.get? b=some o->H b=none->b∈fs->b∉ex->∃sl,h'.get? b=some {o with slots:=sl}
 free:∀b o,h.get? b=some o->H b=none->b∉ex->H' b=none
 there:∀b o,h.get? b=some o->b∉ex->∃o',h'.get? b=some o'
 tups:∀b xs,H b=some (.tup xs)->H' b=some (.tup xs)
 frzs:∀b o u,H b=some (.frz o u)->H' b=some (.frz o u)
 tbls:∀b ps,H b=some (.tbl ps)->∃more,H' b=some (.tbl (ps++more))
section
variable{fs fs' ex ex':List Addr}{H H1 H2:Hp}{h h1 h2 h':Heap}{a x e:Addr}{o:HO}
theorem Un.any(u:Un fs ex H H1 h h1){b:Addr}{ob:Obj}(q:h.get? b=some ob)(n:H b=none)(hx:b∉ex):∃sl,h1.get? b=some {ob with slots:=sl}:=by
 by_cases hb:b∈fs
 ·exact u.slot b ob q n hb hx
 ·exact ⟨ob.slots,u.keep b ob q n hb hx⟩
theorem Un.kept(k:∀b u,h.get? b=some u->h'.get? b=some u):Un fs ex H H h h' :=
 ⟨λb ob q _ _ _=>k b ob q,λb ob q _ _ _=>⟨ob.slots,k b ob q⟩,λ_ _ _ n _=>n,λb ob q _=>⟨ob,k b ob q⟩,λ_ _ q=>q,λ_ _ _ q=>q,λ_ ps q=>⟨#[],by rw[q];simp⟩⟩
theorem Un.refl:Un fs ex H H h h:=Un.kept λ_ _ q=>q
theorem Un.laid(k:∀b u,h.get? b=some u->h'.get? b=some u)(hp:h.objs.size<=a)(hn:H a=none):Un fs ex H (upd H a o) h h' where
 keep:=λb u q _ _ _=>k b u q
 slot:=λb u q _ _ _=>⟨u.slots,k b u q⟩
 free:=λb u q n _=>by rw[Ag (BU (Cf (AY q) hp))];exact n
 there:=λb u q _=>⟨u,k b u q⟩
 tups:=λb xs q=>by rw[Ag (Af q hn)];exact q
 frzs:=λb u xs q=>by rw[Ag (Af q hn)];exact q
 tbls:=λb ps q=>⟨#[],by rw[Ag (Af q hn),q];simp⟩
theorem Un.write(mu:Mut (H x))(he:e=x\/H e=some (.own x))(k:∀b u,b≠e->h.get? b=some u->h'.get? b=some u)(heo:∃u,h'.get? e=some u):Un fs ex H (upd H x o) h h':=by
 have hx:∀b,H b=none->b≠x:=λb n z=>by subst z;rw[n] at mu;exact mu
 have hb:∀b,H b=none->b≠e:=λb n z=>by
  subst z;rcases he with r | r
  ·exact hx b n r
  ·rw[n] at r;cases r
 have hm:∀b u,H b=some u->¬ Mut (some u)->b≠x:=λb u q nm z=>by subst z;rw[q] at mu;exact nm mu
 refine ⟨λb u q n _ _=>k b u (hb b n) q,λb u q n _ _=>⟨u.slots,k b u (hb b n) q⟩,λb u q n _=>by rw[Ag (hx b n)];exact n,λb u q _=>?_,
  λb xs q=>by rw[Ag (hm b _ q λz=>z)];exact q,λb u xs q=>by rw[Ag (hm b _ q λz=>z)];exact q,λb ps q=>⟨#[],by rw[Ag (hm b _ q λz=>z),q];simp⟩⟩
 by_cases hbe:b=e
 ·subst hbe;exact heo
 ·exact ⟨u,k b u hbe q⟩
end
def trk(h:Heap)(H:Hp):List Addr:=(AZ h.objs.size).filter λa=>(H a).isSome
def hidT(h:Heap)(H:Hp):Heap:=PySem.W.hideAll h (trk h H)
theorem Yo(h:Heap)(H:Hp):(hidT h H).objs.size=h.objs.size:=PySem.W.hideAll_size _ _
theorem AAp{h:Heap}{H:Hp}{b:Addr}{o:Obj}(e:h.get? b=some o)(n:H b=none):(hidT h H).get? b=some o :=
 PySem.W.hideAll_get _ e λhm=>by
  have q:(H b).isSome=true:=(C7.mp hm).2;rw[n] at q;simp at q
theorem ABm{h:Heap}{H:Hp}{b:Addr}{o:Obj}(e:(hidT h H).get? b=some o):h.get? b=some o/\H b=none:=by
 have e':h.get? b=some o:=PySem.W.of_hideAll (trk h H) e;refine ⟨e',?_⟩;cases q:H b with
 | none=>rfl
 | some x =>
  have hm:b∈trk h H:=C7.mpr ⟨BC.mpr (AY e'),by simp[q]⟩;have z:(hidT h H).get? b=none:=PySem.W.hideAll_none (trk h H) hm;rw[z] at e;cases e
def allNews(g h:Heap)(L:Addr):List (Addr×Obj):=(AZ h.objs.size).filterMap λa=>if a=L\/(g.get? a).isSome=true then none else (h.get? a).map λo=>(a,o)
def rest(g h:Heap)(L d:Addr):List (Addr×Obj):=(allNews g h L).filter λp=>decide (p.1≠d)
structure Mod(K:Au)(mg:Str->Option Ap)(base:Heap):Prop where
 kin:K.In base
 glob:base.Ns A8 mg
 blt:∃mb,base.Ns TD mb/\∀x:Str,x≠"__name__"->mb x=HU x
 nolimit:base.NoLimit
structure Cx where
 prog:AM
 w:AT
 K:Au
 mg:Str->Option Ap
 base:Heap
 A:BQ
 N:List Str
 s₀:AA
 H₀:Hp
 env:Env
 outer:List Env
 stack:List Env
 ex:List Addr
 fn:Str->Bool
 calm:Bool
 pn:List (Addr×Obj)
 xe:Ap->AA->Prop
def frs(l:List Env):List Addr:=l.filterMap (·.frame)
abbrev Cx.fs(X:Cx):List Addr:=frs X.outer
def Vis(sc:D3)(x:Str):Prop:=sc.names.lookup x=some .local\/sc.names.lookup x=some .cell\/sc.names.lookup x=some .free
def Loc(sc:D3)(x:Str):Prop:=sc.names.lookup x=some .local\/sc.names.lookup x=some .cell
def Look(env:Env)(h:Heap)(m:Str->Option Ap)(x:Str)(u:Ap):Prop :=
 (env.kindOf x=some .local/\m x=some u)\/((env.kindOf x=some .cell\/env.kindOf x=some .free)/\∃c,env.cells.lookup x=some c/\h.IsCell c (some u))
structure Cx.Ok(X:Cx):Prop where
 mod:Mod X.K X.mg X.base
 kind:X.env.scope.kind=.function
 glob:X.env.globals=A8
 blt:X.env.builtins=TD
 above:X.s₀.heap.objs.size<=X.env.locals
 inj:∀x y c,X.env.cells.lookup x=some c->X.env.cells.lookup y=some c->x=y
 has:∀x,(X.env.kindOf x=some .cell\/X.env.kindOf x=some .free)->∃c,X.env.cells.lookup x=some c
 cab:∀x c,X.fn x=true->X.env.cells.lookup x=some c->X.s₀.heap.objs.size<=c
 hd:X.calm=true->X.A.handled=none
 frames:X.A.frames=some X.stack
 stk:X.stack=X.outer\/(X.stack=X.env::X.outer/\X.env.frame=some X.env.locals)
 exf:∀b∈X.ex,b≠X.env.locals/\∀x c,X.env.cells.lookup x=some c->c≠b
 bs:∀b o,X.base.get? b=some o->X.s₀.heap.get? b=some o/\X.H₀ b=none
 bsz:X.base.objs.size<=X.s₀.heap.objs.size
 noex:∀b o,X.base.get? b=some o->b∉X.ex
 exfs:∀b∈X.ex,b∉X.fs
 funs:X.s₀.heap.FunFrames X.base X.outer
 frf:∀b∈X.fs,X.H₀ b=none
structure Inv(X:Cx)(pins:List (Addr×Obj))(σ:List (Option V))(H:Hp)(s:AA):Prop where
 ok:X.Ok
 os:s.os=X.s₀.os
 bare:K5 s.gens
 base:Un X.fs X.ex X.H₀ H X.s₀.heap s.heap
 loc:∃m,s.heap.Ns X.env.locals m/\∀(i:Nat) (x:Str) (v:V),X.N[i]?=some x->σ[i]?=some (some v)->Vis X.env.scope x->∃u,RelV v u/\Look X.env s.heap m x u
 cell:∀x c,X.env.cells.lookup x=some c->∃v,s.heap.IsCell c v
 free:H X.env.locals=none
 freeC:∀x c,X.env.cells.lookup x=some c->H c=none
 pin:∀p∈X.pn++pins,s.heap.get? p.1=some p.2/\H p.1=none/\p.1≠X.env.locals/\p.1∉X.fs/\∀v,p.2.data≠.cell v
 hok:HOk X.prog X.w H s.heap
 len:σ.length=X.N.length
section
variable{X:Cx}{pins:List (Addr×Obj)}{σ:List (Option V)}{H H':Hp}{s:AA}{h':Heap}
theorem Cx.Ok.nofr(ok:X.Ok){b:Addr}{o:Obj}(e:X.base.get? b=some o):b∉X.fs:=λhb=>by
 have:=(ok.funs.mem hb).1;rw[e] at this;cases this
theorem Inv.bs(I:Inv X pins σ H s):∀b o,X.base.get? b=some o->s.heap.get? b=some o/\H b=none:=λb o e =>
 ⟨I.base.keep b o (I.ok.bs b o e).1 (I.ok.bs b o e).2 (I.ok.nofr e) (I.ok.noex b o e),I.base.free b o (I.ok.bs b o e).1 (I.ok.bs b o e).2 (I.ok.noex b o e)⟩
theorem Inv.bk(I:Inv X pins σ H s):∀b o,X.base.get? b=some o->s.heap.get? b=some o:=λb o e=>(I.bs b o e).1
theorem Inv.mod(I:Inv X pins σ H s):Mod X.K X.mg X.base:=I.ok.mod
theorem Inv.kIn(I:Inv X pins σ H s):X.K.In s.heap:=I.ok.mod.kin.keeps I.bk
theorem Inv.lt(I:Inv X pins σ H s):X.env.locals<s.heap.objs.size:=let ⟨_,hn,_⟩:=I.loc;hn.lt
theorem Inv.sz(I:Inv X pins σ H s):X.s₀.heap.objs.size<=s.heap.objs.size:=CF I.ok.above (De I.lt)
theorem Inv.nofs(I:Inv X pins σ H s){a:Addr}(h:s.heap.objs.size<=a):a∉X.fs:=λhb=>by
 obtain ⟨_,o,ho,_⟩:=I.ok.funs.mem hb;exact absurd (Cf (AY ho) (CF I.sz h)) (D6 _)
theorem Inv.cne(I:Inv X pins σ H s):∀x c,X.env.cells.lookup x=some c->c≠X.env.locals:=λx c e z=>by
 obtain ⟨v,o,ho,hd⟩:=I.cell x c e;obtain ⟨m,⟨o',es,ep,ho',hd',_⟩,_⟩:=I.loc;rw[z,ho'] at ho;cases ho;rw[hd'] at hd;cases hd
theorem Inv.funs(I:Inv X pins σ H s):s.heap.FunFrames X.base X.outer:=by
 have all:∀(l:List Env),(∀b∈frs l,b∈X.fs)->X.s₀.heap.FunFrames X.base l->s.heap.FunFrames X.base l:=by
  intro l
  induction l with
  | nil=>intro _ _;trivial
  | cons env r ih =>
   intro hs hl;obtain ⟨hk,⟨L,o,hf,hn,ho,hd⟩,hr⟩:=hl;have hL:L∈X.fs:=hs L (by unfold frs;rw[ID,hf];exact AG);obtain ⟨sl,e⟩:=I.base.slot L o ho (I.ok.frf L hL) hL λz=>I.ok.exfs L z hL;exact ⟨hk,⟨L,_,hf,hn,e,hd⟩,ih (λb hb=>hs b (by unfold frs;rw[ID,hf];exact AH _ hb)) hr⟩
 exact all X.outer (λ_ hb=>hb) I.ok.funs
theorem Inv.stack(I:Inv X pins σ H s):s.heap.FunFrames X.base X.stack:=by
 rcases I.ok.stk with e | ⟨e,hf⟩
 ·rw[e];exact I.funs
 ·rw[e]
  obtain ⟨m,hn,_⟩:=I.loc;refine .cons (by rw[I.ok.kind];decide) hf hn ?_ I.funs;exact Heap.get?_none_of_le (CF I.ok.bsz I.ok.above)
theorem Inv.stkSub(I:Inv X pins σ H s):∀b∈frs X.stack,b∈X.env.locals::X.fs:=λb hb=>by
 rcases I.ok.stk with e | ⟨e,hf⟩
 ·rw[e] at hb;exact AH _ hb
 ·rw[e] at hb
  unfold frs at hb;rw[ID,hf] at hb;exact hb
theorem Inv.stkFree(I:Inv X pins σ H s):∀b∈frs X.stack,H b=none:=λb hb=>by
 rcases AX.mp (I.stkSub b hb) with e | hb
 ·rw[e];exact I.free
 ·obtain ⟨_,o,ho,_⟩:=I.ok.funs.mem hb
  exact I.base.free b o ho (I.ok.frf b hb) λz=>I.ok.exfs b z hb
theorem Inv.step{g':Array S5}{t':Nat}{d':Drawn}{ch:List Addr}(I:Inv X pins σ H s)
  (hch:∀b∈ch,(b∈X.ex\/X.s₀.heap.objs.size<=b)/\b≠X.env.locals/\(∀x c,X.env.cells.lookup x=some c->c≠b)/\∀p∈X.pn++pins,p.1≠b)
  (keep:∀b o,b≠X.env.locals->b∉X.fs->b∉ch->s.heap.get? b=some o->H b=none->h'.get? b=some o)
  (slot:∀b o,b≠X.env.locals->b∈X.fs->b∉ch->s.heap.get? b=some o->H b=none->∃sl,h'.get? b=some {o with slots:=sl}) (free:∀b o,b∉ch->s.heap.get? b=some o->H b=none->H' b=none)
  (there:∀b o,b∉ch->s.heap.get? b=some o->∃o',h'.get? b=some o')
  (tups:∀b xs,H b=some (.tup xs)->H' b=some (.tup xs)) (frzs:∀b o u,H b=some (.frz o u)->H' b=some (.frz o u)) (tbls:∀b ps,H b=some (.tbl ps)->∃more,H' b=some (.tbl (ps++more)))
  (ns:∀m,s.heap.Ns X.env.locals m->h'.Ns X.env.locals m) (hok:HOk X.prog X.w H' h') (hg:K5 g') :
  Inv X pins σ H' {s with heap:=h',gens:=g',drawn:=d',toks:=t'}:=by
 have neL:∀b o,X.s₀.heap.get? b=some o->b≠X.env.locals:=λb o e=>BU (Cf (AY e) I.ok.above);have neC:∀b o,X.s₀.heap.get? b=some o->b∉X.ex->b∉ch:=λb o e hx hb=>by
  rcases (hch b hb).1 with z | z
  ·exact hx z
  ·exact absurd (Cf (AY e) z) (D6 _)
 have cellK:∀x c,X.env.cells.lookup x=some c->∀v,s.heap.IsCell c v->h'.IsCell c v:=λx c e v ⟨o,ho,hd⟩=>by
  have nch:c∉ch:=λz=>(hch c z).2.2.1 x c e rfl;by_cases hc:c∈X.fs
  ·obtain ⟨sl,q⟩:=slot c o (I.cne x c e) hc nch ho (I.freeC x c e)
   exact ⟨_,q,hd⟩
  ·exact ⟨o,keep c o (I.cne x c e) hc nch ho (I.freeC x c e),hd⟩
 refine ⟨I.ok,I.os,hg,⟨λb o e n hb hx=>?_,λb o e n hb hx=>?_,λb o e n hx=>?_,λb o e hx=>?_,λb xs e=>tups b xs (I.base.tups b xs e),λb o xs e=>frzs b o xs (I.base.frzs b o xs e),λb ps e=>?_⟩,?_,λx c e=>?_,?_,λx c e=>?_,λp hp=>?_,hok,I.len⟩
 ·exact keep b o (neL b o e) hb (neC b o e hx) (I.base.keep b o e n hb hx) (I.base.free b o e n hx)
 ·obtain ⟨sl,e1⟩:=I.base.slot b o e n hb hx
  obtain ⟨sl',e2⟩:=slot b _ (neL b o e) hb (neC b o e hx) e1 (I.base.free b o e n hx);exact ⟨sl',e2⟩
 ·obtain ⟨o',e1⟩:=I.base.there b o e hx
  exact free b o' (neC b o e hx) e1 (I.base.free b o e n hx)
 ·obtain ⟨o',e1⟩:=I.base.there b o e hx
  exact there b o' (neC b o e hx) e1
 ·obtain ⟨m1,e1⟩:=I.base.tbls b ps e
  obtain ⟨m2,e2⟩:=tbls b _ e1;exact ⟨m1++m2,by rw[e2,Array.append_assoc]⟩
 ·obtain ⟨m,hn,hl⟩:=I.loc
  refine ⟨m,ns m hn,λi x v e1 e2 e3=>?_⟩;obtain ⟨u,r,l⟩:=hl i x v e1 e2 e3;refine ⟨u,r,?_⟩;rcases l with l | ⟨k,c,e,z⟩
  ·exact .inl l
  ·exact .inr ⟨k,c,e,cellK x c e _ z⟩
 ·obtain ⟨v,z⟩:=I.cell x c e
  exact ⟨v,cellK x c e v z⟩
 ·obtain ⟨m,⟨o,_,_,ho,_⟩,_⟩:=I.loc
  exact free _ o (λz=>(hch _ z).2.1 rfl) ho I.free
 ·obtain ⟨v,o,ho,hd⟩:=I.cell x c e
  exact free c o (λz=>(hch c z).2.2.1 x c e rfl) ho (I.freeC x c e)
 ·obtain ⟨e,n,ne,nf,d⟩:=I.pin p hp
  have nch:p.1∉ch:=λz=>(hch p.1 z).2.2.2 p hp rfl;exact ⟨keep p.1 p.2 ne nf nch e n,free p.1 p.2 nch e n,ne,nf,d⟩
theorem Inv.un{t':Nat}(I:Inv X pins σ H s)(u:Un X.fs [] H H' s.heap h')(hok:HOk X.prog X.w H' h'):Inv X pins σ H' {s with heap:=h',toks:=t'}:=by
 obtain ⟨m,⟨o,es,ep,ho,r⟩,_⟩:=id I.loc;obtain ⟨sl,hL⟩:=u.any ho I.free (by simp);exact I.step (g':=s.gens) (d':=s.drawn) (ch:=[]) (λ_ z=>nomatch z) (λb o _ hb _ e n=>u.keep b o e n hb (by simp)) (λb o _ hb _ e n=>u.slot b o e n hb (by simp)) (λb o _ e n=>u.free b o e n (by simp)) (λb o _ e=>u.there b o e (by simp)) u.tups u.frzs u.tbls (λm' hm=>by
  obtain ⟨o',es',ep',ho',r'⟩:=hm;rw[ho] at ho';cases ho';exact ⟨_,es',ep',hL,r'⟩) hok I.bare
theorem Inv.call{g':Array S5}{t':Nat}{d':Drawn}{ch:List Addr}(I:Inv X pins σ H s)(u:Un (frs X.stack) ch H H' s.heap h')(hok:HOk X.prog X.w H' h')(hg:K5 g')
  (hch:∀b∈ch,(b∈X.ex\/X.s₀.heap.objs.size<=b)/\b≠X.env.locals/\(∀x c,X.env.cells.lookup x=some c->c≠b)/\∀p∈X.pn++pins,p.1≠b) :
  Inv X pins σ H' {s with heap:=h',gens:=g',drawn:=d',toks:=t'}:=by
 obtain ⟨m,⟨o,es,ep,ho,r⟩,_⟩:=id I.loc;obtain ⟨sl,hL⟩:=u.any ho I.free λz=>(hch _ z).2.1 rfl;exact I.step (ch:=ch) hch (λb o hL hb hc e n=>u.keep b o e n (λz=>(AX.mp (I.stkSub b z)).elim hL hb) hc) (λb o _ _ hc e n=>u.any e n hc) (λb o hc e n=>u.free b o e n hc) (λb o hc e=>u.there b o e hc) u.tups u.frzs u.tbls (λm' hm=>by
  obtain ⟨o',es',ep',ho',r'⟩:=hm;rw[ho] at ho';cases ho';exact ⟨_,es',ep',hL,r'⟩) hok hg
theorem Inv.turned{t':Nat}{it:Addr}(I:Inv X pins σ H s)(k:∀b o,b≠it->s.heap.get? b=some o->h'.get? b=some o)(hn:H it=none)(hL:it≠X.env.locals)
  (h1:it∈X.ex\/X.s₀.heap.objs.size<=it) (h2:∀x c,X.env.cells.lookup x=some c->c≠it) (h3:∀p∈X.pn++pins,p.1≠it):Inv X pins σ H {s with heap:=h',toks:=t'}:=by
 have nit:∀b u,H b=some u->b≠it:=λb u e z=>by rw[z,hn] at e;cases e
 refine I.step (g':=s.gens) (d':=s.drawn) (ch:=[it]) (λb hb=>?_) (λb o _ _ hc e _=>k b o (λz=>hc (by simp[z])) e) (λb o _ _ hc e _=>⟨o.slots,k b o (λz=>hc (by simp[z])) e⟩) (λ_ _ _ _ n=>n)
  (λb o hc e=>⟨o,k b o (λz=>hc (by simp[z])) e⟩) (λ_ _ e=>e) (λ_ _ _ e=>e) (λb ps e=>⟨#[],by rw[e];simp⟩) (λm hm=>?_) (λb u e=>?_) I.bare
 ·have e:b=it:=by simpa using hb
  subst e;exact ⟨h1,hL,h2,h3⟩
 ·obtain ⟨o,es,ep,ho,r⟩:=hm
  exact ⟨o,es,ep,k _ o (DM hL) ho,r⟩
 ·refine (I.hok b u e).stay (λc v hc q=>k c v ?_ q) (λ_ q=>q) λ_ _ q=>q
  rcases hc with z | z
  ·rw[z];exact nit b u e
  ·exact nit c _ z
theorem Inv.tok(I:Inv X pins σ H s)(t:Nat):Inv X pins σ H {s with toks:=t}:=I.un (h':=s.heap) (t':=t) Un.refl I.hok
theorem Inv.kept{t':Nat}(I:Inv X pins σ H s)(k:∀b u,s.heap.get? b=some u->h'.get? b=some u):Inv X pins σ H {s with heap:=h',toks:=t'}:=I.un (Un.kept k) (I.hok.kept k)
theorem Inv.laid{a:Addr}{o:HO}{t':Nat}(I:Inv X pins σ H s)(k:∀b u,s.heap.get? b=some u->h'.get? b=some u)(hp:s.heap.objs.size<=a)(new:ObjOk X.prog X.w (upd H a o) h' a o) :
  Inv X pins σ (upd H a o) {s with heap:=h',toks:=t'}:=I.un (Un.laid k hp (I.hok.fresh hp)) (I.hok.laid k hp new)
theorem Inv.write{x e:Addr}{o:HO}{t':Nat}(I:Inv X pins σ H s)(mu:Mut (H x))(he:e=x\/H e=some (.own x))(k:∀b u,b≠e->s.heap.get? b=some u->h'.get? b=some u)(heo:∃u,h'.get? e=some u)
  (new:ObjOk X.prog X.w (upd H x o) h' x o):Inv X pins σ (upd H x o) {s with heap:=h',toks:=t'}:=I.un (Un.write mu he k heo) (I.hok.write mu he k heo new)
theorem Inv.pins_of{pins':List (Addr×Obj)}(I:Inv X pins σ H s)(h:∀p∈pins',s.heap.get? p.1=some p.2/\H p.1=none/\p.1≠X.env.locals/\p.1∉X.fs/\∀v,p.2.data≠.cell v):Inv X pins' σ H s :=
 ⟨I.ok,I.os,I.bare,I.base,I.loc,I.cell,I.free,I.freeC,λp hp=>(Co.mp hp).elim (λz=>I.pin p (D9 _ z)) (h p),I.hok,I.len⟩
theorem Tg{N:List Str}(hN:N.Nodup){i j:Nat}{x:Str}(a:N[i]?=some x)(b:N[j]?=some x):i=j:=by
 obtain ⟨h1,e1⟩:=AJ.mp a;obtain ⟨h2,e2⟩:=AJ.mp b;exact (S6 hN).mp (e1.trans e2.symm)
theorem JZ{M:TH}{A:BQ}{E:Ap->AA->Prop}{i:Nat}{x:Str}{v:V}{u:Ap}{Q:Unit->AA->Prop}(I:Inv X pins σ H s)(hN:X.N.Nodup)(hi:X.N[i]?=some x)(hx:Loc X.env.scope x)(r:RelV v u)
  (h:∀s',Inv X pins (σ.set i (some v)) H s'->(∃a,ET a s.heap s'.heap/\(a=X.env.locals\/X.env.cells.lookup x=some a))->Q () s') (hf:X.fn x=true\/X.env.scope.names.lookup x=some .local:=by first | exact .inl rfl | exact .inr rfl | assumption):wpAny M A (storeName X.env x u) Q E s:=by
 obtain ⟨m,hn,hl⟩:=id I.loc;have hcls:(X.env.scope.kind == .class||(X.env.scope.kind == .module&&X.env.locals != X.env.globals))=false:=by rw[I.ok.kind];rfl
 have hiσ:i<σ.length:=by rw[I.len];exact (AJ.mp hi).1
 have cne:=I.cne;have tracked:∀{a:Addr}{h':Heap},(∃o,s.heap.get? a=some o/\H a=none)->ET a s.heap h'->HOk X.prog X.w H h':=λ{a h'} ha hs b ob e=>by
  obtain ⟨_,_,hfree⟩:=ha;refine (I.hok b ob e).stay (λc w' hc q=>(hs.2 c ?_).trans q) (λ_ q=>q) λ_ _ q=>q;rintro rfl;rcases hc with rfl | hc
  ·rw[hfree] at e;cases e
  ·rw[hfree] at hc;cases hc
 rcases hx with hk | hk
 ·refine wpAny_storeName_local hk hn (λh' hn' hs=>?_) hcls
  obtain ⟨oL,_,_,hoL,_⟩:=id hn;refine h _ ⟨I.ok,I.os,I.bare,⟨λb o e n hb hx=>?_,λb o e n hb hx=>?_,I.base.free,λb o e hx=>?_,I.base.tups,I.base.frzs,I.base.tbls⟩,⟨_,hn',λj y v' e1 e2 e3=>?_⟩,λy c e=>?_,I.free,I.freeC,λp hp=>?_,tracked ⟨oL,hoL,I.free⟩ hs,by simpa using I.len⟩ ⟨_,hs,.inl rfl⟩
  ·exact (hs.2 b (BU (Cf (AY e) I.ok.above))).trans (I.base.keep b o e n hb hx)
  ·obtain ⟨sl,e1⟩:=I.base.slot b o e n hb hx
   exact ⟨sl,(hs.2 b (BU (Cf (AY e) I.ok.above))).trans e1⟩
  ·obtain ⟨o',e1⟩:=I.base.there b o e hx
   exact ⟨o',(hs.2 b (BU (Cf (AY e) I.ok.above))).trans e1⟩
  ·by_cases hj:j=i
   ·subst hj
    rw[hi] at e1;cases e1;rw[IR hiσ] at e2;cases e2;exact ⟨u,r,.inl ⟨hk,by simp⟩⟩
   ·rw[J6 (DM hj)] at e2
    obtain ⟨u',r',q⟩:=hl j y v' e1 e2 e3;refine ⟨u',r',?_⟩;rcases q with⟨k,e⟩ | ⟨k,c,e,z⟩
    ·refine .inl ⟨k,?_⟩
     have:y≠x:=λe=>hj (Tg hN e1 (e ▸ hi));simp[this,e]
    ·exact .inr ⟨k,c,e,z.sameBut hs (cne y c e)⟩
  ·obtain ⟨w',z⟩:=I.cell y c e
   exact ⟨w',z.sameBut hs (cne y c e)⟩
  ·obtain ⟨e,n,ne,nf,d⟩:=I.pin p hp
   exact ⟨(hs.2 p.1 ne).trans e,n,ne,nf,d⟩
 ·have hfn:X.fn x=true:=by
   rcases hf with z | z
   ·exact z
   ·rw[z] at hk;cases hk
  obtain ⟨c,hc⟩:=I.ok.has x (.inl hk);obtain ⟨w',z⟩:=I.cell x c hc;refine wpAny_storeName_cell I.ok.kind hk hc z (λh' hc' hs=>?_);obtain ⟨oc,hoc,hocd⟩:=id z;refine h {s with heap:=h'} ⟨I.ok,I.os,I.bare,⟨λb o e n hb hx=>?_,λb o e n hb hx=>?_,I.base.free,λb o e hx=>?_,I.base.tups,I.base.frzs,I.base.tbls⟩,⟨m,hn.sameBut hs (DM (cne x c hc)),λj y v' e1 e2 e3=>?_⟩,λy c' e=>?_,I.free,I.freeC,λp hp=>?_,tracked ⟨oc,hoc,I.freeC x c hc⟩ hs,by simpa using I.len⟩ ⟨c,hs,.inr hc⟩
  ·exact (hs.2 b (BU (Cf (AY e) (I.ok.cab x c hfn hc)))).trans (I.base.keep b o e n hb hx)
  ·obtain ⟨sl,e1⟩:=I.base.slot b o e n hb hx
   exact ⟨sl,(hs.2 b (BU (Cf (AY e) (I.ok.cab x c hfn hc)))).trans e1⟩
  ·obtain ⟨o',e1⟩:=I.base.there b o e hx
   exact ⟨o',(hs.2 b (BU (Cf (AY e) (I.ok.cab x c hfn hc)))).trans e1⟩
  ·by_cases hj:j=i
   ·subst hj
    rw[hi] at e1;cases e1;rw[IR hiσ] at e2;cases e2;exact ⟨u,r,.inr ⟨.inl hk,c,hc,hc'⟩⟩
   ·rw[J6 (DM hj)] at e2
    obtain ⟨u',r',q⟩:=hl j y v' e1 e2 e3;refine ⟨u',r',?_⟩;rcases q with q | ⟨k,c',e,z'⟩
    ·exact .inl q
    ·refine .inr ⟨k,c',e,z'.sameBut hs ?_⟩
     rintro rfl;exact hj (Tg hN e1 (I.ok.inj _ _ _ e hc ▸ hi))
  ·by_cases hcc:c'=c
   ·subst hcc;exact ⟨_,hc'⟩
   ·obtain ⟨w2,z2⟩:=I.cell y c' e
    exact ⟨w2,z2.sameBut hs hcc⟩
  ·obtain ⟨e,n,ne,nf,d⟩:=I.pin p hp
   refine ⟨(hs.2 p.1 ?_).trans e,n,ne,nf,d⟩;intro q;rw[q,hoc] at e;have q':oc=p.2:=BY e;exact d w' (by rw[<- q'];exact hocd)
theorem Sh{M:TH}{A:BQ}{E:Ap->AA->Prop}{i:Nat}{x:Str}{v:V}{u:Ap}{Q:Unit->AA->Prop}(I:Inv X pins σ H s)(hN:X.N.Nodup)(hi:X.N[i]?=some x)(hx:Loc X.env.scope x)(r:RelV v u)
  (h:∀s',Inv X pins (σ.set i (some v)) H s'->Q () s') (hf:X.fn x=true\/X.env.scope.names.lookup x=some .local:=by first | exact .inl rfl | exact .inr rfl | assumption):wpAny M A (storeName X.env x u) Q E s :=
 JZ I hN hi hx r (λs' I' _=>h s' I') hf
theorem Inv.call'{s':AA}{ch:List Addr}(I:Inv X pins σ H s)(ho:s'.os=s.os)(u:Un (frs X.stack) ch H H' s.heap s'.heap)(hok:HOk X.prog X.w H' s'.heap)(hg:K5 s'.gens)
  (hch:∀b∈ch,(b∈X.ex\/X.s₀.heap.objs.size<=b)/\b≠X.env.locals/\(∀x c,X.env.cells.lookup x=some c->c≠b)/\∀p∈X.pn++pins,p.1≠b):Inv X pins σ H' s':=by
 obtain ⟨h',g',d',t',o'⟩:=s';have e:o'=s.os:=ho;subst e;exact I.call (g':=g') (t':=t') (d':=d') u hok hg hch
end
abbrev XK:=Ap->Option Addr->Hp->Prop
abbrev St:=List (Option V)
abbrev VK:=V->Hp->Prop
abbrev TE:=St->Hp->VK->Prop
abbrev TT:=St->Hp->(Bool->Hp->Prop)->Prop
abbrev TA:=St->Hp->(List V->Hp->Prop)->Prop
structure Ends where
 nx:St->Hp->Prop
 rt:VK
 bk:St->Hp->Prop:=λ_ _=>False
 ct:St->Hp->Prop:=λ_ _=>False
abbrev TS:=Ends->St->Hp->Prop
def EP(X:Cx)(pins:List (Addr×Obj))(σ:St)(Q:VK)(u:Ap)(s':AA):Prop:=∃v H',Inv X pins σ H' s'/\RelV v u/\Q v H'
def TP(X:Cx)(pins:List (Addr×Obj))(σ:St)(Q:Bool->Hp->Prop)(b:Bool)(s':AA):Prop:=∃H',Inv X pins σ H' s'/\Q b H'
def AP(X:Cx)(pins:List (Addr×Obj))(σ:St)(Q:List V->Hp->Prop)(us:List Ap)(s':AA):Prop:=∃vs H',Inv X pins σ H' s'/\Vals vs us/\Q vs H'
def SP(X:Cx)(pins:List (Addr×Obj))(D:Ends)(f:Flow)(s':AA):Prop :=
 match f with
 | .next=>∃σ' H',Inv X pins σ' H' s'/\D.nx σ' H'
 | .brk=>∃σ' H',Inv X pins σ' H' s'/\D.bk σ' H'
 | .cont=>∃σ' H',Inv X pins σ' H' s'/\D.ct σ' H'
 | .ret u=>∃v σ' H',Inv X pins σ' H' s'/\RelV v u/\D.rt v H'
def PE(X:Cx)(e:Expr)(t:TE):Prop :=
 ∀(pins:List (Addr×Obj)) (s:AA) (σ:St) (H:Hp) (Q:VK),Inv X pins σ H s->t σ H Q->wpAny (AL X.prog X.w) X.A (eval e X.env) (EP X pins σ Q) X.xe s
def PT(X:Cx)(e:Expr)(t:TT):Prop :=
 ∀(pins:List (Addr×Obj)) (s:AA) (σ:St) (H:Hp) (Q:Bool->Hp->Prop),Inv X pins σ H s->t σ H Q->wpAny (AL X.prog X.w) X.A (TJ e X.env (eval e X.env)) (TP X pins σ Q) X.xe s
def PW(X:Cx)(e:Expr)(t:TT):Prop :=
 ∀(whole:Sem Ap) (pins:List (Addr×Obj)) (s:AA) (σ:St) (H:Hp) (Q:Bool->Hp->Prop),Inv X pins σ H s->t σ H Q->wpAny (AL X.prog X.w) X.A (TJ e X.env whole) (TP X pins σ Q) X.xe s
theorem PW.pt{X:Cx}{e:Expr}{t:TT}(h:PW X e t):PT X e t:=h _
def PA(X:Cx)(es:List Expr)(t:TA):Prop :=
 ∀(pos:Pos) (pins:List (Addr×Obj)) (s:AA) (σ:St) (H:Hp) (Q:List V->Hp->Prop),Inv X pins σ H s->t σ H Q->wpAny (AL X.prog X.w) X.A (UN (Hm pos (Ct es X.env))) (AP X pins σ Q) X.xe s
def PS(X:Cx)(st:Stmt)(t:TS):Prop :=
 ∀(pins:List (Addr×Obj)) (s:AA) (σ:St) (H:Hp) (D:Ends),Inv X pins σ H s->t D σ H->wpAny (AL X.prog X.w) X.A (exec st X.env) (SP X pins D) X.xe s
def PSs(X:Cx)(st:List Stmt)(t:TS):Prop :=
 ∀(pins:List (Addr×Obj)) (s:AA) (σ:St) (H:Hp) (D:Ends),Inv X pins σ H s->t D σ H->wpAny (AL X.prog X.w) X.A (execs st X.env) (SP X pins D) X.xe s
theorem thn{α:Type}{t:Sem α}{Q Q':α->AA->Prop}{M:TH}{A:BQ}{E:Ap->AA->Prop}{s:AA}(h:wpAny M A t Q E s)(hQ:∀a s,Q a s->Q' a s):wpAny M A t Q' E s:=Ee h hQ λ_ _ x=>x
section
variable{X:Cx}
def AFM(i:Nat):TE:=λσ H Q=>∃v,σ[i]?=some (some v)/\Q v H
def tC(v:V):TE:=λ_ H Q=>Q v H
theorem AEM{i:Nat}{x:Str}{pos:Pos}(hN:X.N[i]?=some x)(hv:Vis X.env.scope x)(hd:(x==("__debug__" : Str))=false:=by decide)(hcd:(x==("__classdict__" : Str))=false:=by decide):PE X (.Name x pos) (AFM i):=by
 intro pins s σ H Q I h;obtain ⟨v,e,h⟩:=h;obtain ⟨m,hn,hl⟩:=I.loc;obtain ⟨u,r,l⟩:=hl i x v hN e hv;have fin:EP X pins σ Q u s:=⟨v,H,I,r,h⟩;rcases l with⟨hk,hm⟩ | ⟨hk,c,hc,hcell⟩
 ·exact TK (wpAny_loadName_local I.ok.kind hk hn hm fin) hd
 ·rcases hk with hk | hk
  ·exact TK (wpAny_loadName_cell I.ok.kind hk hc hcell fin) hd
  ·exact TK (wpAny_loadName_free I.ok.kind hk hc hcell fin hcd) hd
theorem Ah{i j pos}:PE X (.Constant (.int i) j pos) (tC (.int i)):=λ_ _ _ H _ I h=>wpAny_Constant_int ⟨.int i,H,I.tok _,⟨_,rfl⟩,h⟩
theorem Ec{b j pos}:PE X (.Constant (.bool b) j pos) (tC (.bl b)):=λ_ _ _ H _ I h=>Constant_bool ⟨.bl b,H,I,rfl,h⟩
theorem AAZ{j pos}:PE X (.Constant .none j pos) (tC .non):=λ_ _ _ H _ I h=>QY ⟨.non,H,I,rfl,h⟩
def Gl(X:Cx)(x:Str):Prop:=X.env.kindOf x=some .globalImplicit
theorem Gy{E:Ap->AA->Prop}{pins:List (Addr×Obj)}{s:AA}{σ:St}{H:Hp}{x:Str}{u:Ap}{pos:Pos}{Q:Ap->AA->Prop}(I:Inv X pins σ H s)(hg:Gl X x)(hm:X.mg x=some u)(h:Q u s)
  (hd:(x==("__debug__" : Str))=false:=by decide):wpAny (AL X.prog X.w) X.A (eval (.Name x pos) X.env) Q E s :=
 Na I.ok.kind hg (Calls.loadGlobal_global (by rw[I.ok.glob];exact I.mod.glob.keeps I.bk) hm h) hd
theorem Em{E:Ap->AA->Prop}{pins:List (Addr×Obj)}{s:AA}{σ:St}{H:Hp}{x:Str}{u:Ap}{pos:Pos}{Q:Ap->AA->Prop}(I:Inv X pins σ H s)(hg:Gl X x)(hm:X.mg x=none)(hv:HU x=some u)(h:Q u s)
  (hn:x≠"__name__":=by decide) (hd:(x==("__debug__" : Str))=false:=by decide):wpAny (AL X.prog X.w) X.A (eval (.Name x pos) X.env) Q E s:=by
 obtain ⟨mb,h1,h2⟩:=I.mod.blt;exact Na I.ok.kind hg (Calls.loadGlobal_builtin (by rw[I.ok.glob];exact I.mod.glob.keeps I.bk) hm (by rw[I.ok.blt];exact h1.keeps I.bk) ((h2 x hn).trans hv) h) hd
theorem Gp{x:Str}{v:V}{u:Ap}{pos:Pos}(hg:Gl X x)(hm:X.mg x=some u)(r:RelV v u)(hd:(x==("__debug__" : Str))=false:=by decide):PE X (.Name x pos) (tC v) :=
 λ_ _ _ H _ I h=>Gy I hg hm ⟨v,H,I,r,h⟩ hd
theorem ABZ{x:Str}{v:V}{u:Ap}{pos:Pos}(hg:Gl X x)(hm:X.mg x=none)(hv:HU x=some u)(r:RelV v u)(hn:x≠"__name__":=by decide)(hd:(x==("__debug__" : Str))=false:=by decide):PE X (.Name x pos) (tC v) :=
 λ_ _ _ H _ I h=>Em I hg hm hv ⟨v,H,I,r,h⟩ hn hd
variable{a b:Expr}{ta tb:TE}{pos:Pos}
def PC(X:Cx)(op:Sz)(a b:Expr)(t:TE):Prop :=
 ∀(pins:List (Addr×Obj)) (s:AA) (σ:St) (H:Hp) (Q:VK),Inv X pins σ H s->t σ H Q ->
  wpAny (AL X.prog X.w) X.A (eval a X.env) (λv s₁=>wpAny (AL X.prog X.w) X.A (eval b X.env) (λu s₂=>wpAny (AL X.prog X.w) X.A (DA op v u) (EP X pins σ Q) X.xe s₂) X.xe s₁) X.xe s
theorem Rp(b:Expr){op:Sz}(h:op≠.In)(h2:op≠.NotIn):Hd op b=false:=by
 have e1:(op==X9)=false:=by cases op<;>first | rfl | exact absurd rfl h
 have e2:(op==XG)=false:=by cases op<;>first | rfl | exact absurd rfl h2
 cases b<;>simp[Hd,e1,e2]
def AFe(ta:TE):TE:=λσ H Q=>ta σ H λx H1=>Q (.bl (decide (x=.non))) H1
def AEy(ta:TE):TE:=λσ H Q=>ta σ H λx H1=>Q (.bl (!decide (x=.non))) H1
theorem RelV.none_iff{x:V}{v:Ap}(r:RelV x v):(v==C1)=decide (x=.non):=by
 cases x with
 | non=>cases r;rfl
 | bl _=>cases r;rfl
 | int _=>obtain ⟨t,rfl⟩:=r;rfl
 | str _=>obtain ⟨t,rfl⟩:=r;rfl
 | byt _=>obtain ⟨t,rfl⟩:=r;rfl
 | flt _=>obtain ⟨t,rfl⟩:=r;rfl
 | ref _=>cases r;rfl
 | ty _=>cases r;rfl
theorem ADQ{j pos'}(ha:PE X a ta):PC X .Is a (.Constant .none j pos') (AFe ta):=by
 intro pins s σ H Q I h;refine thn (ha pins s σ H _ I h) λv s1 ⟨x,H1,I1,r1,q1⟩=>?_;exact QY (is_none_gen ⟨.bl _,H1,I1,by rw[r1.none_iff];rfl,q1⟩)
theorem ABg{j pos'}(ha:PE X a ta):PC X .IsNot a (.Constant .none j pos') (AEy ta):=by
 intro pins s σ H Q I h;refine thn (ha pins s σ H _ I h) λv s1 ⟨x,H1,I1,r1,q1⟩=>?_;exact QY (isnot_none_gen ⟨.bl _,H1,I1,by rw[r1.none_iff];rfl,q1⟩)
def tB(t:TE):TT:=λσ H Q=>t σ H λx H1=>∃c,x=.bl c/\Q c H1
theorem ADt{op:Sz}{t:TE}(h:PC X op a b t)(h1:Hd op b=false:=by first | exact Rp _ (by decide) (by decide) | rfl):PE X (.Compare a [op] [b] pos) t:=λpins s σ H Q I hw=>UO (h pins s σ H Q I hw) h1
theorem Lw{op:Sz}{t:TE}(h:PC X op a b t)(h1:Hd op b=false:=by first | exact Rp _ (by decide) (by decide) | rfl):PT X (.Compare a [op] [b] pos) (tB t):=by
 intro pins s σ H Q I hw;refine Pm (thn (h pins s σ H _ I hw) λv s1 h1=>thn h1 λu s2 h2=>thn h2 λc s3 ⟨x,H1,I1,r1,q1⟩=>?_) h1;obtain ⟨d,rfl,q⟩:=q1;cases r1;exact FA ⟨H1,I1,q⟩
theorem Hh{e:Expr}{t:TE}(h:PE X e t)(he:∀whole,TJ e X.env whole=(do let v <- whole;UP e.pos;SC [v] (truthy v)):=by intro _;rfl):PT X e (tB t):=by
 intro pins s σ H Q I hw;refine isTrue_plain (thn (h pins s σ H _ I hw) λv s1 ⟨x,H1,I1,r1,q1⟩=>?_) (he _);obtain ⟨d,rfl,q⟩:=q1;cases r1;exact FA ⟨H1,I1,q⟩
variable{tA tB':TT}{rest:List Expr}
def AFd(t u:TT):TT:=λσ H Q=>t σ H λc H1=>if c=true then u σ H1 Q else Q false H1
def tOr(t u:TT):TT:=λσ H Q=>t σ H λc H1=>if c=true then Q true H1 else u σ H1 Q
def AFZ(t:TT):TT:=λσ H Q=>t σ H λc H1=>Q (!c) H1
theorem Ib(ha:PT X a tA):PW X (.BoolOp .And [a] pos) tA:=by
 intro wh pins s σ H Q I h;refine isTrue_and (thn (ha pins s σ H Q I h) λc s1 e=>?_);cases c with
 | true=>exact isTrue_and_nil e
 | false=>exact e
theorem Ho(ha:PT X a tA):PW X (.BoolOp .Or [a] pos) tA:=by
 intro wh pins s σ H Q I h;refine isTrue_or (thn (ha pins s σ H Q I h) λc s1 e=>?_);cases c with
 | false=>exact isTrue_or_nil e
 | true=>exact e
theorem Ko(ha:PT X a tA)(hb:PW X (.BoolOp .And (b::rest) pos) tB'):PW X (.BoolOp .And (a::b::rest) pos) (AFd tA tB'):=by
 intro wh pins s σ H Q I h;refine isTrue_and (thn (ha pins s σ H _ I h) λc s1 ⟨H1,I1,q1⟩=>?_);cases c with
 | true=>exact hb wh pins s1 σ H1 Q I1 q1
 | false=>exact ⟨H1,I1,q1⟩
theorem HF(ha:PT X a tA)(hb:PW X (.BoolOp .Or (b::rest) pos) tB'):PW X (.BoolOp .Or (a::b::rest) pos) (tOr tA tB'):=by
 intro wh pins s σ H Q I h;refine isTrue_or (thn (ha pins s σ H _ I h) λc s1 ⟨H1,I1,q1⟩=>?_);cases c with
 | true=>exact ⟨H1,I1,q1⟩
 | false=>exact hb wh pins s1 σ H1 Q I1 q1
theorem Km(ha:PT X a tA):PT X (.UnaryOp .Not a pos) (AFZ tA):=by
 intro pins s σ H Q I h;exact isTrue_not (ha pins s σ H (λc H1=>Q (!c) H1) I h)
def AEx(ta tb:TE):TE:=λσ H Q=>ta σ H λx H1=>∃c,x=.bl c/\if c=true then tb σ H1 Q else Q (.bl false) H1
def AFf(ta tb:TE):TE:=λσ H Q=>ta σ H λx H1=>∃c,x=.bl c/\if c=true then Q (.bl true) H1 else tb σ H1 Q
def AFN(ta:TE):TE:=λσ H Q=>ta σ H λx H1=>∃c,x=.bl c/\Q (.bl (!c)) H1
theorem Ow{op}{t:TE}(h:PE X a t):PE X (.BoolOp op [a] pos) t:=λpins s σ H Q I hw=>BoolOp_one (h pins s σ H Q I hw)
theorem Tz(ha:PE X a ta)(hb:PE X (.BoolOp .And (b::rest) pos) tb):PE X (.BoolOp .And (a::b::rest) pos) (AEx ta tb):=by
 intro pins s σ H Q I h;refine BoolOp_and (thn (ha pins s σ H _ I h) λv s1 ⟨x,H1,I1,r1,q1⟩=>?_);obtain ⟨c,rfl,q1⟩:=q1;cases r1;refine FA ?_;cases c with
 | true=>exact hb pins s1 σ H1 Q I1 q1
 | false=>exact ⟨.bl false,H1,I1,rfl,q1⟩
theorem AEw(ha:PE X a ta)(hb:PE X (.BoolOp .Or (b::rest) pos) tb):PE X (.BoolOp .Or (a::b::rest) pos) (AFf ta tb):=by
 intro pins s σ H Q I h;refine BoolOp_or (thn (ha pins s σ H _ I h) λv s1 ⟨x,H1,I1,r1,q1⟩=>?_);obtain ⟨c,rfl,q1⟩:=q1;cases r1;refine FA ?_;cases c with
 | false=>exact hb pins s1 σ H1 Q I1 q1
 | true=>exact ⟨.bl true,H1,I1,rfl,q1⟩
theorem ADx(ha:PE X a ta):PE X (.UnaryOp .Not a pos) (AFN ta):=by
 intro pins s σ H Q I h;refine UnaryOp_ (thn (ha pins s σ H _ I h) λv s1 ⟨x,H1,I1,r1,q1⟩=>?_);obtain ⟨c,rfl,q1⟩:=q1;cases r1;exact not_of (FA ⟨.bl (!c),H1,I1,rfl,q1⟩)
def tIf(t:TT)(ta tb:TE):TE:=λσ H Q=>t σ H λc H1=>if c=true then ta σ H1 Q else tb σ H1 Q
theorem Ig{c:Expr}(hc:PT X c tA)(ha:PE X a ta)(hb:PE X b tb):PE X (.IfExp c a b pos) (tIf tA ta tb):=by
 intro pins s σ H Q I h;refine wpAny_IfExp (thn (hc pins s σ H _ I h) λd s1 ⟨H1,I1,q1⟩=>?_);cases d with
 | true=>exact ha pins s1 σ H1 Q I1 q1
 | false=>exact hb pins s1 σ H1 Q I1 q1
end
def SqL(K:Au)(H:Hp)(a:Addr)(xs:List V):Prop :=
 Rd H a (.lst xs) \/
  ∃(o:Obj) (its:Array Ap) (n:Nat),K.lookup a=some o/\o.cls=.type "list"/\o.dict=none/\o.data=.seq its n/\its.size<=sizeLine/\Vals xs its.toList
def SqT(K:Au)(H:Hp)(a:Addr)(xs:List V):Prop :=
 Rd H a (.tup xs) \/
  ∃(o:Obj) (its:Array Ap) (n:Nat),K.lookup a=some o/\o.cls=.type "tuple"/\o.data=.seq its n/\its.size<=sizeLine/\Vals xs its.toList
def absV:Ap->Option V
 | .none=>some .non
 | .bool b=>some (.bl b)
 | .int i _=>some (.int i)
 | .str x _=>some (.str x)
 | .bytes b _=>some (.byt b)
 | .float b _=>some (.flt b)
 | .ref a=>some (.ref a)
 | .type n=>some (.ty n)
 | _=>none
theorem RelV.abs{x:V}{u:Ap}(r:RelV x u):absV u=some x:=by
 cases x with
 | non=>cases r;rfl
 | bl _=>cases r;rfl
 | int _=>obtain ⟨t,rfl⟩:=r;rfl
 | str _=>obtain ⟨t,rfl⟩:=r;rfl
 | byt _=>obtain ⟨t,rfl⟩:=r;rfl
 | flt _=>obtain ⟨t,rfl⟩:=r;rfl
 | ref _=>cases r;rfl
 | ty _=>cases r;rfl
theorem RelV.inj{x y:V}{u:Ap}(r:RelV x u)(q:RelV y u):x=y:=BY (r.abs.symm.trans q.abs)
theorem Vals.inj:∀{xs ys:List V}{us:List Ap},Vals xs us->Vals ys us->xs=ys
 | _,_,_,.nil,.nil=>rfl
 | _,_,_,.cons r t,.cons r' t'=>by rw[r.inj r',Vals.inj t t']
section
variable{X:Cx}{pins:List (Addr×Obj)}{σ:St}{H:Hp}{s:AA}{a:Addr}{xs ys:List V}
theorem SqL.of{K:Au}(h:H a=some (.lst xs)):SqL K H a xs:=.inl (.inl h)
theorem SqT.of{K:Au}(h:H a=some (.tup xs)):SqT K H a xs:=.inl (.inl h)
theorem Inv.list(I:Inv X pins σ H s)(h:SqL X.K H a xs):∃its:List Ap,Vals xs its/\PlainL s.heap a its.toArray/\xs.length<=sizeLine:=by
 rcases h with h | ⟨o,its,n,hk,hc,hd,hs,hz,r⟩
 ·obtain ⟨z,its,n,r,e⟩:=h.ok I.hok
  exact ⟨its,r,⟨_,n,e,rfl,rfl,rfl⟩,z⟩
 ·refine ⟨its.toList,r,⟨o,n,I.kIn a o hk,hc,hd,by simpa using hs⟩,?_⟩
  have e:=r.length;simp only[AU] at e;lia
theorem Inv.tuple(I:Inv X pins σ H s)(h:SqT X.K H a xs):∃its:List Ap,Vals xs its/\OR s.heap a its.toArray/\xs.length<=sizeLine:=by
 rcases h with h | ⟨o,its,n,hk,hc,hs,hz,r⟩
 ·obtain ⟨z,its,r,p⟩:=h.ok I.hok
  exact ⟨its,r,p,z⟩
 ·refine ⟨its.toList,r,⟨o,I.kIn a o hk,hc,n,by simpa using hs⟩,?_⟩
  have e:=r.length;simp only[AU] at e;lia
theorem Inv.list_inj(I:Inv X pins σ H s)(h:SqL X.K H a xs)(h':SqL X.K H a ys):xs=ys:=by
 obtain ⟨its,r,⟨o,n,e,_,_,d⟩,_⟩:=I.list h;obtain ⟨its',r',⟨o',n',e',_,_,d'⟩,_⟩:=I.list h';rw[e] at e';cases e';rw[d] at d';injection d' with d1 _
 have:its=its':=by simpa using congrArg RA d1
 subst this;exact r.inj r'
theorem Inv.tuple_inj(I:Inv X pins σ H s)(h:SqT X.K H a xs)(h':SqT X.K H a ys):xs=ys:=by
 obtain ⟨its,r,⟨o,e,_,n,d⟩,_⟩:=I.tuple h;obtain ⟨its',r',⟨o',e',_,n',d'⟩,_⟩:=I.tuple h';rw[e] at e';cases e';rw[d] at d';injection d' with d1 _
 have:its=its':=by simpa using congrArg RA d1
 subst this;exact r.inj r'
end
abbrev Cx.wish(X:Cx)(E:Ap->AA->Prop):Cx:={X with xe:=E}
abbrev Cx.nox(X:Cx):Cx:=X.wish λ_ _=>False
theorem Cx.Ok.wish{X:Cx}(ok:X.Ok)(E:Ap->AA->Prop):(X.wish E).Ok :=
 ⟨ok.mod,ok.kind,ok.glob,ok.blt,ok.above,ok.inj,ok.has,ok.cab,ok.hd,ok.frames,ok.stk,ok.exf,ok.bs,ok.bsz,ok.noex,ok.exfs,ok.funs,ok.frf⟩
theorem Cx.Ok.unwish{X:Cx}{E:Ap->AA->Prop}(ok:(X.wish E).Ok):X.Ok :=
 ⟨ok.mod,ok.kind,ok.glob,ok.blt,ok.above,ok.inj,ok.has,ok.cab,ok.hd,ok.frames,ok.stk,ok.exf,ok.bs,ok.bsz,ok.noex,ok.exfs,ok.funs,ok.frf⟩
section
variable{X:Cx}{pins:List (Addr×Obj)}{σ:St}{H:Hp}{s:AA}{E:Ap->AA->Prop}
theorem Inv.wish(I:Inv X pins σ H s)(E:Ap->AA->Prop):Inv (X.wish E) pins σ H s:=⟨I.ok.wish E,I.os,I.bare,I.base,I.loc,I.cell,I.free,I.freeC,I.pin,I.hok,I.len⟩
theorem Inv.unwish(I:Inv (X.wish E) pins σ H s):Inv X pins σ H s:=⟨I.ok.unwish,I.os,I.bare,I.base,I.loc,I.cell,I.free,I.freeC,I.pin,I.hok,I.len⟩
theorem SP.unwish{D:Ends}{f:Flow}{s':AA}(h:SP (X.wish E) pins D f s'):SP X pins D f s':=by
 cases f with
 | next=>obtain ⟨σ',H',I,q⟩:=h;exact ⟨σ',H',I.unwish,q⟩
 | brk=>obtain ⟨σ',H',I,q⟩:=h;exact ⟨σ',H',I.unwish,q⟩
 | cont=>obtain ⟨σ',H',I,q⟩:=h;exact ⟨σ',H',I.unwish,q⟩
 | ret u=>obtain ⟨v,σ',H',I,r,q⟩:=h;exact ⟨v,σ',H',I.unwish,r,q⟩
theorem PSs.nox{st:List Stmt}{t:TS}(h:PSs X.nox st t):PSs X st t:=λpins s σ H D I hw =>
 Ee (h pins s σ H D (I.wish _) hw) (λ_ _ q=>q.unwish) λ_ _ z=>Eg z
end
section
variable{X:Cx}{st:Stmt}{rest:List Stmt}{t u:TS}{e:Expr}{te:TE}{pos:Pos}
def AEq:TS:=λD σ H=>D.nx σ H
def AFU(t u:TS):TS:=λD σ H=>t {D with nx:=u D} σ H
theorem BX:PSs X [] AEq:=λ_ _ σ H _ I h=>LW ⟨σ,H,I,h⟩
theorem Ae(h1:PS X st t)(h2:PSs X rest u):PSs X (st::rest) (AFU t u):=by
 intro pins s σ H D I h;refine N9 (thn (h1 pins s σ H {D with nx:=u D} I h) λf s1 q=>?_);cases f with
 | next =>
  obtain ⟨σ',H',I',q⟩:=q;exact h2 pins s1 σ' H' D I' q
 | ret v=>exact q
 | brk=>exact q
 | cont=>exact q
theorem Aj(h1:PS X st t):PSs X [st] t:=by
 intro pins s σ H D I h;refine N9 (thn (h1 pins s σ H D I h) λf s1 q=>?_);cases f with
 | next=>exact LW q
 | ret v=>exact q
 | brk=>exact q
 | cont=>exact q
theorem Inv.quiet{pins:List (Addr×Obj)}{σ:St}{H:Hp}{s:AA}(I:Inv X pins σ H s):interactive X.env=false:=by simp[interactive,I.ok.kind]
def AEk(te:TE):TS:=λD σ H=>te σ H λ_ H1=>D.nx σ H1
theorem DY(he:PE X e te)(hs:KM e none pos.line X.env=pure false:=by rfl):PS X (.Expr e pos) (AEk te):=by
 intro pins s σ H D I h;exact wpAny_Expr_any (thn (he pins s σ H _ I h) λv s1 ⟨x,H1,I1,r1,q1⟩=>⟨σ,H1,I1,q1⟩) I.quiet hs
def AFa(te:TE):TS:=λD σ H=>te σ H D.rt
theorem Av(he:PE X e te):PS X (.Return (some e) pos) (AFa te):=by
 intro pins s σ H D I h;exact wpAny_Return_some (thn (he pins s σ H _ I h) λv s1 ⟨x,H1,I1,r1,q1⟩=>⟨x,σ,H1,I1,r1,q1⟩)
def AFV(c:TT)(t u:TS):TS:=λD σ H=>c σ H λb H1=>if b=true then t D σ H1 else u D σ H1
theorem CQ{c:Expr}{a b:List Stmt}{tc:TT}(hc:PT X c tc)(ha:PSs X a t)(hb:PSs X b u):PS X (.If c a b pos) (AFV tc t u):=by
 intro pins s σ H D I h;refine wpAny_If (thn (hc pins s σ H _ I h) λd s1 ⟨H1,I1,q1⟩=>?_);cases d with
 | true=>exact ha pins s1 σ H1 D I1 q1
 | false=>exact hb pins s1 σ H1 D I1 q1
def ADo:TS:=λ_ _ _=>False
theorem Et{sts:List Stmt}:PSs X sts ADo:=λ_ _ _ _ _ _ h=>h.elim
end
abbrev TG:=V->St->Hp->(St->Hp->Prop)->Prop
abbrev TGs:=List V->St->Hp->(St->Hp->Prop)->Prop
def PG(X:Cx)(target:Expr)(t:TG):Prop :=
 ∀(pins:List (Addr×Obj)) (s:AA) (σ:St) (H:Hp) (v:V) (u:Ap) (Q:St->Hp->Prop),Inv X pins σ H s->RelV v u->t v σ H Q ->
  wpAny (AL X.prog X.w) X.A (LX target X.env u) (λ_ s'=>∃σ' H',Inv X pins σ' H' s'/\Q σ' H') X.xe s
def PGs(X:Cx)(ts:List Expr)(t:TGs):Prop :=
 ∀(pins:List (Addr×Obj)) (s:AA) (σ:St) (H:Hp) (vs:List V) (us:List Ap) (Q:St->Hp->Prop),Inv X pins σ H s->Vals vs us->t vs σ H Q ->
  wpAny (AL X.prog X.w) X.A (assignInOrder ((J7 ts X.env).map (·.2)) us) (λ_ s'=>∃σ' H',Inv X pins σ' H' s'/\Q σ' H') X.xe s
section
variable{X:Cx}{pos:Pos}
def gName(i:Nat):TG:=λv σ H Q=>Q (σ.set i (some v)) H
theorem Am{i:Nat}{x:Str}(hN:X.N.Nodup)(hi:X.N[i]?=some x)(hx:Loc X.env.scope x)(hf:X.fn x=true\/X.env.scope.names.lookup x=some .local:=by first | exact .inl rfl | exact .inr rfl | assumption):PG X (.Name x pos) (gName i):=by
 intro pins s σ H v u Q I r h;exact NH (Sh I hN hi hx r (λs' I'=>⟨_,H,I',h⟩) hf)
def gNil:TGs:=λvs σ H Q=>vs=[]/\Q σ H
def gCons(t:TG)(u:TGs):TGs:=λvs σ H Q=>∃v r,vs=v::r/\t v σ H λσ' H'=>u r σ' H' Q
theorem Dw:PGs X [] gNil:=by
 intro pins s σ H vs us Q I r h;obtain ⟨e,h⟩:=h;subst e;cases r;exact assignInOrder_nil ⟨σ,H,I,h⟩
theorem Bb{e:Expr}{es:List Expr}{t:TG}{u:TGs}(h1:PG X e t)(h2:PGs X es u)
  (hs:(J7 (e::es) X.env).map (·.2)=LX e X.env::(J7 es X.env).map (·.2):=by rfl):PGs X (e::es) (gCons t u):=by
 intro pins s σ H vs us Q I r h;obtain ⟨v,vr,e1,h⟩:=h;subst e1;cases r with
 | cons r rr =>
  rw[hs];refine assignInOrder_cons (thn (h1 pins s σ H _ _ _ I r h) λ_ s1 ⟨σ1,H1,I1,q1⟩=>?_);exact h2 pins s1 σ1 H1 _ _ Q I1 rr q1
def gTup(K:Au)(n:Nat)(t:TGs):TG:=λv σ H Q=>∃a xs,v=.ref a/\SqT K H a xs/\xs.length=n/\t xs σ H Q
theorem Uk{es:List Expr}{k:Nat}{t:TGs}{n:Nat}(hc:X.calm=true)(h:PGs X es t)
  (hn:(J7 es X.env).length=n:=by rfl) (hst:(J7 es X.env).findIdx? (·.1)=none:=by rfl):PG X (.Tuple es k pos) (gTup X.K n t):=by
 intro pins s σ H v u Q I r hw;obtain ⟨a,xs,e1,hq,hl,hw⟩:=hw;subst e1;cases r;obtain ⟨its,rv,ht,hz⟩:=I.tuple hq;refine assign_Tuple_tuple (I.ok.hd hc) ht (by simp[hn,<- hl,rv.length]) hst λh' hx=>?_;have I1:Inv X pins σ H {s with heap:=h'}:=I.kept (t':=s.toks) λb o e=>hx b o (BU (AY e)) e;exact h pins _ σ H xs _ Q I1 (by simpa using rv) hw
def Yz(te:TE)(g:TG):TS:=λD σ H=>te σ H λx H1=>g x σ H1 D.nx
theorem Pj{tg e:Expr}{te:TE}{g:TG}(he:PE X e te)(hg:PG X tg g)(hs:swapsWithSole [tg] e pos.line X.env=pure false:=by rfl)(hw:swappedStores [tg] e X.env=pure none:=by rfl)
  (h1:(J7 [tg] X.env).map (·.2)=[LX tg X.env]:=by rfl):PS X (.Assign [tg] e pos) (Yz te g):=by
 intro pins s σ H D I h;refine wpAny_Assign_stores (thn (he pins s σ H _ I h) λv s1 ⟨x,H1,I1,r1,q1⟩=>?_) hs hw;rw[h1];exact thn (hg pins s1 σ H1 x v _ I1 r1 q1) λ_ s2 q=>q
theorem Ax{i:Nat}{x:Str}{e:Expr}{te:TE}{pos':Pos}(hN:X.N.Nodup)(hi:X.N[i]?=some x)(hx:Loc X.env.scope x)(he:PE X e te)(hs:KM e (some (.Name x pos')) pos.line X.env=pure false:=by rfl)(hf:X.fn x=true\/X.env.scope.names.lookup x=some .local:=by first | exact .inl rfl | exact .inr rfl | assumption) :
  PS X (.Assign [.Name x pos'] e pos) (Yz te (gName i)):=by
 intro pins s σ H D I h;refine wpAny_Assign_Name (thn (he pins s σ H _ I h) λv s1 ⟨y,H1,I1,r1,q1⟩=>?_) hs;exact Sh I1 hN hi hx r1 (λs2 I2=>⟨_,H1,I2,q1⟩) hf
def ADg(c:TT)(tb:TS):TS:=λD σ H=>∃W:Nat->St->Hp->Prop,(∃m,W m σ H)/\∀m σ H,W m σ H ->
 c σ H λb H1=>if b=true then ∃N:St->Hp->Prop,(∀σ' H',N σ' H'->∃m',m'<m/\W m' σ' H')/\tb {D with nx:=N,ct:=N,bk:=D.nx} σ H1 else D.nx σ H1
theorem Zw{c:Expr}{body:List Stmt}{tc:TT}{tb:TS}(hp:PassesOwn (AL X.prog X.w) X.A X.env X.xe)(hc:PT X c tc)(hb:PSs X body tb):PS X (.While c body [] pos) (ADg tc tb):=by
 intro pins s σ H D I h;obtain ⟨W,⟨m0,w0⟩,turn⟩:=h;refine wpAny_While (codeAny_whileLoop (λn s'=>∃σ' H',Inv X pins σ' H' s'/\W n σ' H') ?_ m0 ⟨σ,H,I,w0⟩);rintro n s1 ⟨σ1,H1,I1,w1⟩;refine G8 hp (thn (hc pins s1 σ1 H1 _ I1 (turn n σ1 H1 w1)) λb s2 ⟨H2,I2,q2⟩=>?_);cases b with
 | true =>
  obtain ⟨N,hN,q2⟩:=q2;rw[if_pos rfl];refine G8 hp (thn (hb pins s2 σ1 H2 _ I2 q2) λf s3 q3=>?_);cases f with
  | next =>
   obtain ⟨σ3,H3,I3,n3⟩:=q3;obtain ⟨m',hm,w3⟩:=hN σ3 H3 n3;exact ⟨m',hm,σ3,H3,I3,w3⟩
  | cont =>
   obtain ⟨σ3,H3,I3,n3⟩:=q3;obtain ⟨m',hm,w3⟩:=hN σ3 H3 n3;exact ⟨m',hm,σ3,H3,I3,w3⟩
  | brk=>exact q3
  | ret v=>exact q3
 | false =>
  rw[if_neg Be];exact LW ⟨σ1,H2,I2,q2⟩
end
structure It where
 go:Nat->Hp->Prop
 yld:Nat->Hp->V->Hp->Prop
 stop:Nat->Hp->Prop
def FpOk(X:Cx)(pins:List (Addr×Obj))(H:Hp)(b:Addr):Prop :=
 H b=none/\b≠X.env.locals/\b∉X.fs/\(b∈X.ex\/X.s₀.heap.objs.size<=b)/\(∀x c,X.env.cells.lookup x=some c->c≠b)/\∀p∈X.pn++pins,p.1≠b
theorem Inv.fpOk{X:Cx}{pins:List (Addr×Obj)}{σ:St}{H H':Hp}{s:AA}{b:Addr}(I:Inv X pins σ H s)(hb:s.heap.objs.size<=b)(hn:H' b=none):FpOk X pins H' b:=by
 refine ⟨hn,Wp (Cf I.lt hb),I.nofs hb,.inr (CF I.sz hb),λx c e z=>?_,λp hp z=>?_⟩
 ·obtain ⟨v,q⟩:=I.cell x c e
  exact absurd (Cf q.lt (by rw[z];exact hb)) (D6 _)
 ·exact absurd (Cf (AY (I.pin p hp).1) (by rw[z];exact hb)) (D6 _)
structure Turn(P:AM)(w:AT)(K:Au)(tg:Expr)(J:It)(fp:List Addr)(it:Addr)(tn:Nat->Heap->Prop):Prop where
 mem:it∈fp
 obj:∀i h,tn i h->∀b∈fp,∃o,h.get? b=some o/\∀v,o.data≠.cell v
 keep:∀i h h',tn i h->(∀b∈fp,∀o,h.get? b=some o->h'.get? b=some o)->tn i h'
 item:∀(X:Cx),X.prog=P->X.w=w->X.K=K->X.calm=true->∀(i:Nat) (pins:List (Addr×Obj)) (s:AA) (σ:St) (H:Hp) (E:Ap->AA->Prop),Inv X pins σ H s->(∀b∈fp,FpOk X pins H b)->tn i s.heap->J.go i H ->
  wpAny (AL P w) X.A (LD (.ref it)) (λr s1=>∃u,r=some u /\
   wpAny (AL P w) X.A (LY tg (.ref it) u) (λ_ s2=>∃x H',Inv X pins σ H' s2/\RelV x u/\J.yld i H x H'/\tn (i+1) s2.heap/\∀b∈fp,H' b=none) E s1) E s
 done:∀(X:Cx),X.prog=P->X.w=w->X.K=K->X.calm=true->∀(i:Nat) (pins:List (Addr×Obj)) (s:AA) (σ:St) (H:Hp) (E:Ap->AA->Prop),Inv X pins σ H s->(∀b∈fp,FpOk X pins H b)->tn i s.heap->J.stop i H ->
  wpAny (AL P w) X.A (LD (.ref it)) (λr s1=>r=none/\Inv X pins σ H s1) E s
 self:∀(A:BQ) (i:Nat) (s:AA) (Q:Ap->AA->Prop) (E:Ap->AA->Prop),tn i s.heap->Q (.ref it) s->wpAny (AL P w) A (Po (.ref it)) Q E s
abbrev TI:=St->Hp->(It->Hp->Prop)->Prop
def PIE(X:Cx)(pins:List (Addr×Obj))(σ:St)(tg:Expr)(R:It->Hp->Prop)(itv:Ap)(s2:AA):Prop :=
 ∃(it:Addr) (fp:List Addr) (tn:Nat->Heap->Prop) (J:It) (H':Hp),itv=.ref it/\Inv X pins σ H' s2/\Turn X.prog X.w X.K tg J fp it tn/\tn 0 s2.heap/\(∀b∈fp,FpOk X pins H' b)/\R J H'
def PI(X:Cx)(tg iter:Expr)(wi:TI):Prop :=
 ∀(pins:List (Addr×Obj)) (s:AA) (σ:St) (H:Hp) (R:It->Hp->Prop),Inv X pins σ H s->wi σ H R ->
  wpAny (AL X.prog X.w) X.A (eval iter X.env) (λv s1=>wpAny (AL X.prog X.w) X.A (Po v) (PIE X pins σ tg R) X.xe s1) X.xe s
theorem WM{M:TH}{A:BQ}{E:Ap->AA->Prop}{s:AA}{tg:Expr}{it:Addr}{u:Ap}{o:Obj}{n:String}{vs:Array Ap}{Q:Unit->AA->Prop}(ho:s.heap.get? it=some o)(hc:o.cls=.type n)(hd:o.data=.fields vs)
  (hn:["enumerate","zip","dict_itemiterator","dict_reverseitemiterator","odict_iterator","itertools.zip_longest","itertools.pairwise"].contains n=false) (hQ:Q () s):wpAny M A (LY tg (.ref it) u) Q E s:=by
 unfold LY;cases tg<;>first
  | exact wpAny_pure hQ
  | (cases u<;>first
    | exact wpAny_pure hQ
    | (
      refine As (P7 ho ?_);rw[hc,hd];show wpAny M A (if (["enumerate","zip","dict_itemiterator","dict_reverseitemiterator","odict_iterator","itertools.zip_longest","itertools.pairwise"].contains n&&vs[0]? == some (FY _))=true then _ else _) Q E s;rw[if_neg (by intro h;rw[hn,UQ] at h;cases h)];exact wpAny_pure hQ))
def Itl(K:Au)(a:Addr):It :=
 ⟨λi H=>∃xs x,SqL K H a xs/\xs[i]?=some x,λi H x H'=>H'=H/\∀xs,SqL K H a xs->xs[i]?=some x,λi H=>∃xs,SqL K H a xs/\xs.length<=i⟩
def Itt(K:Au)(a:Addr):It :=
 ⟨λi H=>∃xs x,SqT K H a xs/\xs[i]?=some x,λi H x H'=>H'=H/\∀xs,SqT K H a xs->xs[i]?=some x,λi H=>∃xs,SqT K H a xs/\xs.length<=i⟩
def Itr(lo:Int)(n:Nat):It:=⟨λi _=>i<n,λi H x H'=>H'=H/\x=.int (lo+i),λi _=>n<=i⟩
theorem Yk{P:AM}{w:AT}{K:Au}{tg:Expr}(a it:Addr):Turn P w K tg (Itl K a) [it] it (λi h=>h.IsListIter it a i) where
 mem:=by simp
 obj:=λi h st b hb=>by
  have e:b=it:=by simpa using hb
  subst e;obtain ⟨o,e,c,d⟩:=st;exact ⟨o,e,λv z=>by rw[d] at z;cases z⟩
 keep:=λi h h' st k=>st.at λo e=>k it (by simp) o e
 item:=by
  intro X hP hw hK hc i pins s σ H E I hf st hg;subst hP hw hK;obtain ⟨xs,x,hq,hx⟩:=hg;obtain ⟨its,rv,p,hz⟩:=I.list hq;obtain ⟨u,hu,ru⟩:=rv.get hx;obtain ⟨f0,f1,f2,f3,f4,f5⟩:=hf it (by simp);refine wpAny_pyNext_list_item st p.isList (x:=u) (by simpa using hu) λh' st' sb=>?_;have I1:Inv X pins σ H {s with heap:=h'}:=I.turned (t':=s.toks) (λb o hb e=>(sb.2 b hb).trans e) f0 f1 f3 f4 f5;obtain ⟨o,e,c,d⟩:=id st';exact ⟨u,rfl,WM (s:={s with heap:=h'}) e c d (by decide) ⟨x,H,I1,ru,⟨rfl,λys hy=>by rw[I.list_inj hy hq];exact hx⟩,st',λb hb=>(hf b hb).1⟩⟩
 done:=by
  intro X hP hw hK hc i pins s σ H E I hf st hg;subst hP hw hK;obtain ⟨xs,hq,hx⟩:=hg;obtain ⟨its,rv,p,hz⟩:=I.list hq;obtain ⟨f0,f1,f2,f3,f4,f5⟩:=hf it (by simp);have hl:=rv.length;exact wpAny_pyNext_list_end (I.ok.hd hc) st p.isList (by simp;lia) λh' eb=>⟨rfl,I.turned (t':=s.toks) (λb o hb e=>eb b o hb e) f0 f1 f3 f4 f5⟩
 self:=λ_ _ _ _ _ st h=>wpAny_pyIter_listiter st h
theorem UG{P:AM}{w:AT}{K:Au}{tg:Expr}(a it:Addr):Turn P w K tg (Itt K a) [it] it (λi h=>h.IsTupleIter it a i) where
 mem:=by simp
 obj:=λi h st b hb=>by
  have e:b=it:=by simpa using hb
  subst e;obtain ⟨o,e,c,d⟩:=st;exact ⟨o,e,λv z=>by rw[d] at z;cases z⟩
 keep:=λi h h' st k=>st.at λo e=>k it (by simp) o e
 item:=by
  intro X hP hw hK hc i pins s σ H E I hf st hg;subst hP hw hK;obtain ⟨xs,x,hq,hx⟩:=hg;obtain ⟨its,rv,p,hz⟩:=I.tuple hq;obtain ⟨u,hu,ru⟩:=rv.get hx;obtain ⟨f0,f1,f2,f3,f4,f5⟩:=hf it (by simp);refine wpAny_pyNext_tuple_item st (show s.heap.IsTuple a its.toArray from p) (x:=u) (by simpa using hu) λh' st' sb=>?_;have I1:Inv X pins σ H {s with heap:=h'}:=I.turned (t':=s.toks) (λb o hb e=>(sb.2 b hb).trans e) f0 f1 f3 f4 f5;obtain ⟨o,e,c,d⟩:=id st';exact ⟨u,rfl,WM (s:={s with heap:=h'}) e c d (by decide) ⟨x,H,I1,ru,⟨rfl,λys hy=>by rw[I.tuple_inj hy hq];exact hx⟩,st',λb hb=>(hf b hb).1⟩⟩
 done:=by
  intro X hP hw hK hc i pins s σ H E I hf st hg;subst hP hw hK;obtain ⟨xs,hq,hx⟩:=hg;obtain ⟨its,rv,p,hz⟩:=I.tuple hq;obtain ⟨f0,f1,f2,f3,f4,f5⟩:=hf it (by simp);have hl:=rv.length;exact wpAny_pyNext_tuple_end (I.ok.hd hc) st (show s.heap.IsTuple a its.toArray from p) (by simp;lia) λh' eb=>⟨rfl,I.turned (t':=s.toks) (λb o hb e=>eb b o hb e) f0 f1 f3 f4 f5⟩
 self:=λ_ _ _ _ _ st h=>wpAny_pyIter_tupleiter st h
theorem VN{P:AM}{w:AT}{K:Au}{tg:Expr}(it:Addr)(lo:Int)(n:Nat):Turn P w K tg (Itr lo n) [it] it (λi h=>OZ h it (lo+(i:Nat)*1) ((n:Int)-(i:Nat)) 1) where
 mem:=by simp
 obj:=λi h st b hb=>by
  have e:b=it:=by simpa using hb
  subst e;exact ⟨_,st,λv z=>by
   have z':SU _=U6 v:=z;cases z'⟩
 keep:=λi h h' st k=>k it (by simp) _ st
 item:=by
  intro X hP hw hK hc i pins s σ H E I hf st hg;subst hP hw hK;obtain ⟨f0,f1,f2,f3,f4,f5⟩:=hf it (by simp);have W:=XI (prog:=X.prog) (w:=X.w) (I.ok.hd hc) it lo 1 n;refine W.item i s _ _ hg st λv h' tk hv st' kk=>?_;obtain ⟨t,rfl⟩:=hv;have I1:Inv X pins σ H {s with heap:=h',toks:=tk}:=I.turned (λb o hb e=>kk b o (by simpa using hb) e) f0 f1 f3 f4 f5;refine ⟨_,rfl,WM (s:={s with heap:=h',toks:=tk}) (n:="range_iterator") st' rfl rfl (by decide) ⟨.int (lo+i),H,I1,⟨t,?_⟩,⟨rfl,rfl⟩,st',λb hb=>(hf b hb).1⟩⟩;rw[SW]
 done:=by
  intro X hP hw hK hc i pins s σ H E I hf st hg;subst hP hw hK;obtain ⟨f0,f1,f2,f3,f4,f5⟩:=hf it (by simp);exact O0 (I.ok.hd hc) st (by have:n<=i:=hg;lia) λh' eb=>⟨rfl,I.turned (t':=s.toks) (λb o hb e=>eb b o hb e) f0 f1 f3 f4 f5⟩
 self:=λ_ _ _ _ _ st h=>O1 st h
section
variable{X:Cx}{tg:Expr}
def AFQ(K:Au)(tl:TE):TI:=λσ H R=>tl σ H λx H1=>∃a,x=.ref a/\(∃xs,SqL K H1 a xs)/\R (Itl K a) H1
def AFO(K:Au)(tl:TE):TI:=λσ H R=>tl σ H λx H1=>∃a,x=.ref a/\(∃xs,SqT K H1 a xs)/\R (Itt K a) H1
theorem Bx{l:Expr}{tl:TE}(hl:PE X l tl):PI X tg l (AFQ X.K tl):=by
 intro pins s σ H R I h;refine thn (hl pins s σ H _ I h) λv s1 ⟨x,H1,I1,r1,q1⟩=>?_;obtain ⟨a,e,⟨xs,hq⟩,q⟩:=q1;subst e;cases r1;obtain ⟨its,rv,p,hz⟩:=I1.list hq;refine NI p.isList ?_;refine ⟨s1.heap.objs.size,[s1.heap.objs.size],_,_,H1,rfl,I1.kept (t':=s1.toks) λb o e=>AD _ e,Yk a _,⟨_,AN _ rfl,rfl,rfl⟩,λb hb=>?_,q⟩;have e:b=s1.heap.objs.size:=by simpa using hb
 subst e;exact I1.fpOk (AF _) (I1.hok.fresh (AF _))
theorem ZL{l:Expr}{tl:TE}(hl:PE X l tl):PI X tg l (AFO X.K tl):=by
 intro pins s σ H R I h;refine thn (hl pins s σ H _ I h) λv s1 ⟨x,H1,I1,r1,q1⟩=>?_;obtain ⟨a,e,⟨xs,hq⟩,q⟩:=q1;subst e;cases r1;obtain ⟨its,rv,p,hz⟩:=I1.tuple hq;refine G3 (show s1.heap.IsTuple a its.toArray from p) ?_;refine ⟨s1.heap.objs.size,[s1.heap.objs.size],_,_,H1,rfl,I1.kept (t':=s1.toks) λb o e=>AD _ e,UG a _,⟨_,AN _ rfl,rfl,rfl⟩,λb hb=>?_,q⟩;have e:b=s1.heap.objs.size:=by simpa using hb
 subst e;exact I1.fpOk (AF _) (I1.hok.fresh (AF _))
theorem Tf{pins:List (Addr×Obj)}{σ:St}{H:Hp}{s:AA}{R:It->Hp->Prop}{E:Ap->AA->Prop}{lo hi:Int}{t u v:Tok}{tk:Nat}(I:Inv X pins σ H s)(h1:-(2 ^ 62)<=lo)(h2:lo<2 ^ 62)(h3:-(2 ^ 62)<=hi)(h4:hi<2 ^ 62)
  (q:R (Itr lo (hi-lo).toNat) H):wpAny (AL X.prog X.w) X.A (Po (.ref s.heap.objs.size)) (PIE X pins σ tg R) E {s with heap:=s.heap.push {cls:=.type "range",data:=.fields #[.int lo t,.int hi u,.int 1 v]},toks:=tk}:=by
 refine RC (XN ..) (small_one h1 h2 h3 h4) ?_;have I1:Inv X pins σ H {s with heap:=s.heap.push {cls:=.type "range",data:=.fields #[.int lo t,.int hi u,.int 1 v]},toks:=tk}:=I.kept λb o e=>AD _ e;refine ⟨(s.heap.push {cls:=.type "range",data:=.fields #[.int lo t,.int hi u,.int 1 v]}).objs.size,[(s.heap.push {cls:=.type "range",data:=.fields #[.int lo t,.int hi u,.int 1 v]}).objs.size],_,_,H,rfl,
  I1.kept (t':=tk) λb o e=>AD _ e,VN _ lo (hi-lo).toNat,?_,λb hb=>?_,q⟩
 ·have e1:lo+((0:Nat):Int)*1=lo:=by simp
  have e2:(((hi-lo).toNat:Nat):Int)-((0:Nat):Int)=Fm lo hi 1:=by rw[rangeSize_one];split<;>lia
  show OZ _ _ (lo+((0:Nat):Int)*1) ((((hi-lo).toNat:Nat):Int)-((0:Nat):Int)) 1;rw[e1,e2];exact AN _ rfl
 ·have e:b=(s.heap.push {cls:=.type "range",data:=.fields #[.int lo t,.int hi u,.int 1 v]}).objs.size:=by simpa using hb
  subst e;exact I1.fpOk (AF _) (I1.hok.fresh (AF _))
def AFJ(ta:TA):TI:=λσ H R=>ta σ H λvs H1=>∃j:Int,vs=[.int j]/\-(2 ^ 62)<=j/\j<2 ^ 62/\R (Itr 0 j.toNat) H1
def AEe(ta:TA):TI:=λσ H R=>ta σ H λvs H1=>∃i j:Int,vs=[.int i,.int j]/\(-(2 ^ 62)<=i/\i<2 ^ 62/\-(2 ^ 62)<=j/\j<2 ^ 62)/\R (Itr i (j-i).toNat) H1
theorem Cp{a:Expr}{ta:TA}{p pos:Pos}(hg:Gl X "range")(hm:X.mg "range" = none)(ha:PA X [a] ta)(hs:Ct [a] X.env=[(false,eval a X.env)]:=by rfl):PI X tg (.Call (.Name "range" p) [a] [] pos) (AFJ ta):=by
 intro pins s σ H R I h;refine VY (Em I hg hm OQ (D0 (thn (ha pos pins s σ H _ I h) λus s1 ⟨vs,H1,I1,r1,q1⟩=>?_) hs rfl));obtain ⟨j,e,q1,q2,q⟩:=q1;subst e;cases r1 with
 | cons r rr =>
  cases rr;obtain ⟨t,rfl⟩:=r;exact RE (Tf I1 (by lia) (by lia) q1 q2 (by simpa using q))
theorem YK{a b:Expr}{ta:TA}{p pos:Pos}(hg:Gl X "range")(hm:X.mg "range" = none)(ha:PA X [a,b] ta)(hs:Ct [a,b] X.env=[(false,eval a X.env),(false,eval b X.env)]:=by rfl)(hs2:Ct [b] X.env=[(false,eval b X.env)]:=by rfl) :
  PI X tg (.Call (.Name "range" p) [a,b] [] pos) (AEe ta):=by
 intro pins s σ H R I h;refine VY (Em I hg hm OQ (D0 (thn (ha pos pins s σ H _ I h) λus s1 ⟨vs,H1,I1,r1,q1⟩=>?_) (by rw[hs,hs2]) (by rw[hs2];rfl)));obtain ⟨i,j,e,⟨q1,q2,q3,q4⟩,q⟩:=q1;subst e;cases r1 with
 | cons r rr =>
  cases rr with
  | cons r' rr =>
   cases rr;obtain ⟨t,rfl⟩:=r;obtain ⟨t',rfl⟩:=r';exact call_range_2 (Tf I1 q1 q2 q3 q4 q)
def AFc(wi:TI)(g:TG)(tb:TS):TS:=λD σ H=>wi σ H λJ H1=>∃W:Nat->Nat->St->Hp->Prop,(∃m,W 0 m σ H1)/\∀i m σ H,W i m σ H ->
 (J.stop i H/\D.nx σ H)\/(J.go i H/\∃N:St->Hp->Prop,(∀σ' H',N σ' H'->∃m',m'<m/\W (i+1) m' σ' H')/\∀x H',J.yld i H x H'->g x σ H' λσ2 H2=>tb {D with nx:=N,ct:=N,bk:=D.nx} σ2 H2)
def pinsAt(fp:List Addr)(h:Heap):List (Addr×Obj):=fp.filterMap λb=>(h.get? b).map λo=>(b,o)
theorem DW{fp:List Addr}{h:Heap}{b:Addr}{o:Obj}(hb:b∈fp)(e:h.get? b=some o):(b,o)∈pinsAt fp h:=MZ.mpr ⟨b,hb,by rw[e];rfl⟩
theorem XR{fp:List Addr}{h:Heap}{p:Addr×Obj}(hp:p∈pinsAt fp h):p.1∈fp/\h.get? p.1=some p.2:=by
 obtain ⟨b,hb,e⟩:=MZ.mp hp;cases q:h.get? b with
 | none=>rw[q] at e;cases e
 | some o =>
  rw[q] at e;have e':(b,o)=p:=BY e;subst e';exact ⟨hb,q⟩
theorem Inv.pinned{pins:List (Addr×Obj)}{σ:St}{H:Hp}{s:AA}{fp:List Addr}(I:Inv X pins σ H s)(hf:∀b∈fp,FpOk X pins H b)(ho:∀b∈fp,∃o,s.heap.get? b=some o/\∀v,o.data≠.cell v):Inv X (pins++pinsAt fp s.heap) σ H s :=
 I.pins_of λp hp=>(Co.mp hp).elim (λz=>I.pin p (BS _ z)) λz=>by
  obtain ⟨hb,e⟩:=XR z;obtain ⟨f0,f1,f2,_⟩:=hf p.1 hb;obtain ⟨o,e',d⟩:=ho p.1 hb;rw[e] at e';cases e';exact ⟨e,f0,f1,f2,d⟩
theorem Inv.unpinned{pins pl:List (Addr×Obj)}{σ:St}{H:Hp}{s:AA}(I:Inv X (pins++pl) σ H s):Inv X pins σ H s:=I.pins_of λp hp=>I.pin p (BS _ (D9 _ hp))
theorem Cv{iter:Expr}{body:List Stmt}{wi:TI}{g:TG}{tb:TS}{pos:Pos}(hp:PassesOwn (AL X.prog X.w) X.A X.env X.xe)(hc:X.calm=true)(hi:PI X tg iter wi)(hg:PG X tg g)(hb:PSs X body tb)
  (hs:∀x,JE iter X.env x=pure x:=by intro _;rfl):PS X (.For tg iter body [] pos) (AFc wi g tb):=by
 intro pins s σ H D I h;refine wpAny_For (thn (hi pins s σ H _ I h) λv s1 h1=>thn h1 λitv s2 h2=>?_) hs;obtain ⟨it,fp,tn,J,H2,e,I2,T,st2,f2,W,⟨m0,w0⟩,turn⟩:=h2;subst e;have stat:∀{H':Hp},(∀b∈fp,H' b=none)->∀b∈fp,FpOk X pins H' b:=λhn b hb=>⟨hn b hb,(f2 b hb).2⟩;refine codeAny_forLoop_any (λn s'=>∃i σ' H',Inv X pins σ' H' s'/\tn i s'.heap/\(∀b∈fp,H' b=none)/\W i n σ' H') ?_ m0 ⟨0,σ,H2,I2,st2,λb hb=>(f2 b hb).1,w0⟩;rintro n s3 ⟨i,σ3,H3,I3,st3,fr3,w3⟩;rcases turn i n σ3 H3 w3 with⟨stop,qn⟩ | ⟨go,N,hN,step⟩
 ·refine G8 hp (thn (T.done X rfl rfl rfl hc i pins s3 σ3 H3 X.xe I3 (stat fr3) st3 stop) λr s4 ⟨hr,I4⟩=>?_)
  subst hr;exact LW ⟨σ3,H3,I4,qn⟩
 ·refine G8 hp (thn (T.item X rfl rfl rfl hc i pins s3 σ3 H3 X.xe I3 (stat fr3) st3 go) λr s4 ⟨u,hr,h4⟩=>?_)
  subst hr;refine G8 hp (thn h4 λ_ s5 ⟨x,H5,I5,r5,y5,st5,fr5⟩=>?_);have I5':=I5.pinned (stat fr5) (T.obj _ _ st5);refine G8 hp (thn (hg _ s5 σ3 H5 x u _ I5' r5 (step x H5 y5)) λ_ s6 ⟨σ6,H6,I6,q6⟩=>?_);refine G8 hp (thn (hb _ s6 σ6 H6 _ I6 q6) λf s7 q7=>?_);have again:∀{σ7:St}{H7:Hp},Inv X (pins++pinsAt fp s5.heap) σ7 H7 s7->N σ7 H7->∃m,m<n/\∃i σ' H',Inv X pins σ' H' s7/\tn i s7.heap/\(∀b∈fp,H' b=none)/\W i m σ' H':=λ{σ7 H7} I7 n7=>by
   obtain ⟨m',hm,w7⟩:=hN σ7 H7 n7;refine ⟨m',hm,i+1,σ7,H7,I7.unpinned,T.keep _ _ _ st5 λb hb o e=>(I7.pin (b,o) (BS _ (BS _ (DW hb e)))).1,λb hb=>?_,w7⟩;obtain ⟨o,e,d⟩:=T.obj _ _ st5 b hb;exact (I7.pin (b,o) (BS _ (BS _ (DW hb e)))).2.1
  cases f with
  | next=>obtain ⟨σ7,H7,I7,n7⟩:=q7;exact again I7 n7
  | cont=>obtain ⟨σ7,H7,I7,n7⟩:=q7;exact again I7 n7
  | brk=>obtain ⟨σ7,H7,I7,q7⟩:=q7;exact ⟨σ7,H7,I7.unpinned,q7⟩
  | ret v=>obtain ⟨x7,σ7,H7,I7,r7,q7⟩:=q7;exact ⟨x7,σ7,H7,I7.unpinned,r7,q7⟩
end
theorem DK{K:Au}{a:Addr}{xs:List V}{g:TG}{tb:TS}{D:Ends}{σ:St}{H:Hp}(Pv:Nat->St->Hp->Prop)(h0:Pv 0 σ H)(hl:∀i σ H,i<=xs.length->Pv i σ H->SqL K H a xs)
  (hs:∀i x σ H,xs[i]?=some x->Pv i σ H->g x σ H λσ2 H2=>tb {D with nx:=Pv (i+1),ct:=Pv (i+1),bk:=D.nx} σ2 H2) (hd:∀σ H,Pv xs.length σ H->D.nx σ H) :
  ∃W:Nat->Nat->St->Hp->Prop,(∃m,W 0 m σ H)/\∀i m σ H,W i m σ H ->
   ((Itl K a).stop i H/\D.nx σ H)\/((Itl K a).go i H/\∃N:St->Hp->Prop,(∀σ' H',N σ' H'->∃m',m'<m/\W (i+1) m' σ' H')/\∀x H',(Itl K a).yld i H x H'->g x σ H' λσ2 H2=>tb {D with nx:=N,ct:=N,bk:=D.nx} σ2 H2):=by
 refine ⟨λi m σ H=>m=xs.length-i/\i<=xs.length/\Pv i σ H,⟨xs.length,by simp,Bi _,h0⟩,?_⟩;rintro i m σ H ⟨rfl,hi,p⟩;have q:=hl i σ H hi p;by_cases hlt:i<xs.length
 ·refine .inr ⟨⟨xs,xs[i],q,by simp[hlt]⟩,Pv (i+1),λσ' H' p'=>⟨xs.length-(i+1),by lia,rfl,hlt,p'⟩,λx H' y=>?_⟩
  obtain ⟨e,y⟩:=y;subst e;exact hs i x σ _ (y xs q) p
 ·have e:i=xs.length:=by lia
  subst e;exact .inl ⟨⟨xs,q,AF _⟩,hd σ H p⟩
theorem ACk{K:Au}{a:Addr}{xs:List V}{g:TG}{tb:TS}{D:Ends}{σ:St}{H:Hp}(Pv:Nat->St->Hp->Prop)(h0:Pv 0 σ H)(hl:∀i σ H,i<=xs.length->Pv i σ H->SqT K H a xs)
  (hs:∀i x σ H,xs[i]?=some x->Pv i σ H->g x σ H λσ2 H2=>tb {D with nx:=Pv (i+1),ct:=Pv (i+1),bk:=D.nx} σ2 H2) (hd:∀σ H,Pv xs.length σ H->D.nx σ H) :
  ∃W:Nat->Nat->St->Hp->Prop,(∃m,W 0 m σ H)/\∀i m σ H,W i m σ H ->
   ((Itt K a).stop i H/\D.nx σ H)\/((Itt K a).go i H/\∃N:St->Hp->Prop,(∀σ' H',N σ' H'->∃m',m'<m/\W (i+1) m' σ' H')/\∀x H',(Itt K a).yld i H x H'->g x σ H' λσ2 H2=>tb {D with nx:=N,ct:=N,bk:=D.nx} σ2 H2):=by
 refine ⟨λi m σ H=>m=xs.length-i/\i<=xs.length/\Pv i σ H,⟨xs.length,by simp,Bi _,h0⟩,?_⟩;rintro i m σ H ⟨rfl,hi,p⟩;have q:=hl i σ H hi p;by_cases hlt:i<xs.length
 ·refine .inr ⟨⟨xs,xs[i],q,by simp[hlt]⟩,Pv (i+1),λσ' H' p'=>⟨xs.length-(i+1),by lia,rfl,hlt,p'⟩,λx H' y=>?_⟩
  obtain ⟨e,y⟩:=y;subst e;exact hs i x σ _ (y xs q) p
 ·have e:i=xs.length:=by lia
  subst e;exact .inl ⟨⟨xs,q,AF _⟩,hd σ H p⟩
theorem JD{lo:Int}{n:Nat}{g:TG}{tb:TS}{D:Ends}{σ:St}{H:Hp}(Pv:Nat->St->Hp->Prop)(h0:Pv 0 σ H)
  (hs:∀i σ H,i<n->Pv i σ H->g (.int (lo+i)) σ H λσ2 H2=>tb {D with nx:=Pv (i+1),ct:=Pv (i+1),bk:=D.nx} σ2 H2) (hd:∀σ H,Pv n σ H->D.nx σ H) :
  ∃W:Nat->Nat->St->Hp->Prop,(∃m,W 0 m σ H)/\∀i m σ H,W i m σ H ->
   ((Itr lo n).stop i H/\D.nx σ H)\/((Itr lo n).go i H/\∃N:St->Hp->Prop,(∀σ' H',N σ' H'->∃m',m'<m/\W (i+1) m' σ' H')/\∀x H',(Itr lo n).yld i H x H'->g x σ H' λσ2 H2=>tb {D with nx:=N,ct:=N,bk:=D.nx} σ2 H2):=by
 refine ⟨λi m σ H=>m=n-i/\i<=n/\Pv i σ H,⟨n,by simp,Bi _,h0⟩,?_⟩;rintro i m σ H ⟨rfl,hi,p⟩;by_cases hlt:i<n
 ·refine .inr ⟨hlt,Pv (i+1),λσ' H' p'=>⟨n-(i+1),by lia,rfl,hlt,p'⟩,λx H' y=>?_⟩
  obtain ⟨e,y⟩:=y;subst e y;exact hs i σ _ hlt p
 ·have e:i=n:=by lia
  subst e;exact .inl ⟨AF _,hd σ H p⟩
abbrev R2:=V->V->Hp->VK->Prop
def OpR(X:Cx)(f:Ap->Ap->Sem Ap)(r:R2):Prop :=
 ∀(pins:List (Addr×Obj)) (s:AA) (σ:St) (H:Hp) (x y:V) (v u:Ap) (Q:VK),Inv X pins σ H s->RelV x v->RelV y u->r x y H Q ->
  wpAny (AL X.prog X.w) X.A (f v u) (EP X pins σ Q) X.xe s
def UnR(X:Cx)(f:Ap->Sem Ap)(r:V->Hp->VK->Prop):Prop :=
 ∀(pins:List (Addr×Obj)) (s:AA) (σ:St) (H:Hp) (x:V) (v:Ap) (Q:VK),Inv X pins σ H s->RelV x v->r x H Q ->
  wpAny (AL X.prog X.w) X.A (f v) (EP X pins σ Q) X.xe s
def CallR(X:Cx)(f:Ap)(r:List V->Hp->VK->Prop):Prop :=
 ∀(pins:List (Addr×Obj)) (s:AA) (σ:St) (H:Hp) (xs:List V) (us:List Ap) (Q:VK),Inv X pins σ H s->Vals xs us->r xs H Q ->
  wpAny (AL X.prog X.w) X.A (call f us) (EP X pins σ Q) X.xe s
def tOp(r:R2)(ta tb:TE):TE:=λσ H Q=>ta σ H λx H1=>tb σ H1 λy H2=>r x y H2 Q
def tUn(r:V->Hp->VK->Prop)(ta:TE):TE:=λσ H Q=>ta σ H λx H1=>r x H1 Q
def rI(C:Int->Int->Prop)(g:Int->Int->V):R2:=λx y H Q=>E2 λi j=>A4 (x=.int i) (y=.int j) (C i j) (Q (g i j) H)
def rI0(g:Int->Int->V):R2:=λx y H Q=>E2 λi j=>A3 (x=.int i) (y=.int j) (Q (g i j) H)
def rU(g:Int->V):V->Hp->VK->Prop:=λx H Q=>∃i,x=.int i/\Q (g i) H
section
variable{X:Cx}{a b c:Expr}{ta tb tc:TE}{pos:Pos}
theorem binT(ha:PE X a ta)(hb:PE X b tb){pins:List (Addr×Obj)}{s:AA}{σ:St}{H:Hp}{R:V->V->Hp->Prop}(I:Inv X pins σ H s)
  (h:ta σ H λx H1=>tb σ H1 λy H2=>R x y H2) {Q:Ap->AA->Prop}{f:Ap->Ap->Sem Ap}
  (hf:∀v u s2 x y H2,Inv X pins σ H2 s2->RelV x v->RelV y u->R x y H2->wpAny (AL X.prog X.w) X.A (f v u) Q X.xe s2) :
  wpAny (AL X.prog X.w) X.A (eval a X.env) (λv s₁=>wpAny (AL X.prog X.w) X.A (eval b X.env) (λu s₂=>wpAny (AL X.prog X.w) X.A (f v u) Q X.xe s₂) X.xe s₁) X.xe s:=by
 refine thn (ha pins s σ H _ I h) λv s1 ⟨x,H1,I1,r1,q1⟩=>?_;refine thn (hb pins s1 σ H1 _ I1 q1) λu s2 ⟨y,H2,I2,r2,q2⟩=>?_;exact hf v u s2 x y H2 I2 r1 r2 q2
theorem Aw{op:Operator}{r:R2}(ho:OpR X (IS op) r)(ha:PE X a ta)(hb:PE X b tb):PE X (.BinOp a op b pos) (tOp r ta tb):=by
 intro pins s σ H Q I h;exact wpAny_BinOp (binT ha hb I h λv u s2 x y H2 I2 rx ry q=>ho pins s2 σ H2 x y v u Q I2 rx ry q)
theorem Vy{op:UnaryOp}{r:V->Hp->VK->Prop}(ho:UnR X (unaryOp op) r)(ha:PE X a ta):PE X (.UnaryOp op a pos) (tUn r ta):=by
 intro pins s σ H Q I h;exact UnaryOp_ (thn (ha pins s σ H _ I h) λv s1 ⟨x,H1,I1,r1,q1⟩=>ho pins s1 σ H1 x v Q I1 r1 q1)
theorem opI{f:Ap->Ap->Sem Ap}{C:Int->Int->Prop}{g:Int->Int->Int}
  (rule:∀(i j:Int) (t u:Tok) (s:AA) (Q:Ap->AA->Prop) (E:Ap->AA->Prop),C i j->Q (.int (g i j) s.toks) {s with toks:=s.toks+1}->wpAny (AL X.prog X.w) X.A (f (.int i t) (.int j u)) Q E s) :
  OpR X f (rI C λi j=>.int (g i j)):=by
 intro pins s σ H x y v u Q I rx ry h;obtain ⟨i,j,rfl,rfl,hc,q⟩:=h;obtain ⟨t,rfl⟩:=rx;obtain ⟨t',rfl⟩:=ry;exact rule i j t t' s _ _ hc ⟨.int (g i j),H,I.tok _,⟨_,rfl⟩,q⟩
theorem opI0{f:Ap->Ap->Sem Ap}{g:Int->Int->Int}
  (rule:∀(i j:Int) (t u:Tok) (s:AA) (Q:Ap->AA->Prop) (E:Ap->AA->Prop),Q (.int (g i j) s.toks) {s with toks:=s.toks+1}->wpAny (AL X.prog X.w) X.A (f (.int i t) (.int j u)) Q E s) :
  OpR X f (rI0 λi j=>.int (g i j)):=by
 intro pins s σ H x y v u Q I rx ry h;obtain ⟨i,j,rfl,rfl,q⟩:=h;obtain ⟨t,rfl⟩:=rx;obtain ⟨t',rfl⟩:=ry;exact rule i j t t' s _ _ ⟨.int (g i j),H,I.tok _,⟨_,rfl⟩,q⟩
theorem opB0{f:Ap->Ap->Sem Ap}{g:Int->Int->Bool}
  (rule:∀(i j:Int) (t u:Tok) (s:AA) (Q:Ap->AA->Prop) (E:Ap->AA->Prop),Q (.bool (g i j)) s->wpAny (AL X.prog X.w) X.A (f (.int i t) (.int j u)) Q E s) :
  OpR X f (rI0 λi j=>.bl (g i j)):=by
 intro pins s σ H x y v u Q I rx ry h;obtain ⟨i,j,rfl,rfl,q⟩:=h;obtain ⟨t,rfl⟩:=rx;obtain ⟨t',rfl⟩:=ry;exact rule i j t t' s _ _ ⟨.bl (g i j),H,I,rfl,q⟩
def CDiv(i j:Int):Prop:=0<j/\j<1073741824
def CMul(i j:Int):Prop:=(-(2 ^ 64)<i/\i<2 ^ 64)\/(-(2 ^ 64)<j/\j<2 ^ 64)
theorem CMul.ok{i j:Int}(h:CMul i j):IntMulOk i j:=by
 rcases h with⟨h1,h2⟩ | ⟨h1,h2⟩
 ·exact .of_left (intBits_le_64 h1 h2)
 ·exact .of_right (intBits_le_64 h1 h2)
theorem Cw:OpR X (IS .Add) (rI0 λi j=>.int (i+j)):=opI0 λ_ _ _ _ _ _ _ q=>add_int q
theorem DP:OpR X (IS .Sub) (rI0 λi j=>.int (i-j)):=opI0 λ_ _ _ _ _ _ _ q=>sub_int q
theorem Ka:OpR X (IS .Mult) (rI CMul λi j=>.int (i*j)):=opI λ_ _ _ _ _ _ _ hc q=>mul_int q hc.ok
theorem Fi:OpR X (IS .FloorDiv) (rI CDiv λi j=>.int (i / j)):=opI λi j _ _ _ _ _ hc q=>by
 have h1:(0:Int)<j:=hc.1;have h2:j<1073741824:=hc.2;exact floordiv_int (by lia) (by rw[Int.fdiv_eq_ediv_of_nonneg i (by lia)];exact q) (.inl (O2 (by lia)))
theorem Dm:OpR X (IS .Mod) (rI (λ_ j=>0<j) λi j=>.int (i%j)):=opI λi j _ _ _ _ _ hc q=>by
 have h1:(0:Int)<j:=hc;exact mod_int' (by lia) (by rw[Int.fmod_eq_emod_of_nonneg i (by lia)];exact q)
theorem unI{f:Ap->Sem Ap}{g:Int->Int}
  (rule:∀(i:Int) (t:Tok) (s:AA) (Q:Ap->AA->Prop) (E:Ap->AA->Prop),Q (.int (g i) s.toks) {s with toks:=s.toks+1}->wpAny (AL X.prog X.w) X.A (f (.int i t)) Q E s) :
  UnR X f (rU λi=>.int (g i)):=by
 intro pins s σ H x v Q I rx h;obtain ⟨i,rfl,q⟩:=h;obtain ⟨t,rfl⟩:=rx;exact rule i t s _ _ ⟨.int (g i),H,I.tok _,⟨_,rfl⟩,q⟩
theorem Pa:UnR X (unaryOp .USub) (rU λi=>.int (-i)):=unI λ_ _ _ _ _ q=>neg_int q
end
def scal:V->V->Bool
 | .non,.non=>true | .non,.int _=>true | .int _,.non=>true | .non,.bl _=>true | .bl _,.non=>true | .non,.str _=>true | .str _,.non=>true
 | .int _,.int _=>true | .bl _,.bl _=>true | .str _,.str _=>true | .byt _,.byt _=>true
 | .int _,.str _=>true | .str _,.int _=>true | .bl _,.str _=>true | .str _,.bl _=>true
 | _,_=>false
def rEq:R2:=λx y H Q=>scal x y=true/\Q (.bl (decide (x=y))) H
def rNe:R2:=λx y H Q=>scal x y=true/\Q (.bl (!decide (x=y))) H
theorem Wh{i j:Int}:decide (V.int i=V.int j)=(i==j):=by
 rw[FG];simp
theorem ABH{i j:Bool}:decide (V.bl i=V.bl j)=(i==j):=by
 rw[FG];simp
theorem WL{i j:Str}:decide (V.str i=V.str j)=(i==j):=by
 rw[FG];simp
theorem Vm{i j:Array UInt8}:decide (V.byt i=V.byt j)=(i.toList==j.toList):=by
 rw[FG];cases i;cases j;simp
section
variable{X:Cx}{a b c:Expr}{ta tb tc:TE}{pos:Pos}
theorem Bf{pins:List (Addr×Obj)}{σ:St}{H:Hp}{s:AA}{Q:VK}{k k':Bool}(I:Inv X pins σ H s)(q:Q (.bl k) H)(e:k=k'):EP X pins σ Q (.bool k') s:=by
 subst e;exact ⟨.bl k,H,I,rfl,q⟩
theorem Eu:OpR X (DA .Eq) rEq:=by
 intro pins s σ H x y v u Q I rx ry h;obtain ⟨hs,q⟩:=h;cases x with
 | non =>
  cases rx;cases y with
  | non=>cases ry;exact VZ (Bf I q (by simp))
  | bl j=>cases ry;exact V0 (Bf I q (by simp))
  | int j=>obtain ⟨t',rfl⟩:=ry;exact WA (Bf I q (by simp))
  | str j=>obtain ⟨t',rfl⟩:=ry;exact WB (Bf I q (by simp))
  | _=>exact absurd (show false=true from hs) Be
 | bl i =>
  cases rx;cases y with
  | non=>cases ry;exact V1 (Bf I q (by simp))
  | bl j=>cases ry;exact eq_bool (Bf I q ABH)
  | str j=>obtain ⟨t',rfl⟩:=ry;exact V2 (Bf I q (by simp))
  | _=>exact absurd (show false=true from hs) Be
 | int i =>
  obtain ⟨t,rfl⟩:=rx;cases y with
  | non=>cases ry;exact WC (Bf I q (by simp))
  | int j=>obtain ⟨t',rfl⟩:=ry;exact eq_int (Bf I q Wh)
  | str j=>obtain ⟨t',rfl⟩:=ry;exact WE (Bf I q (by simp))
  | _=>exact absurd (show false=true from hs) Be
 | str i =>
  obtain ⟨t,rfl⟩:=rx;cases y with
  | non=>cases ry;exact WF (Bf I q (by simp))
  | bl j=>cases ry;exact V3 (Bf I q (by simp))
  | int j=>obtain ⟨t',rfl⟩:=ry;exact WG (Bf I q (by simp))
  | str j=>obtain ⟨t',rfl⟩:=ry;exact eq_str (Bf I q WL)
  | _=>exact absurd (show false=true from hs) Be
 | byt i =>
  obtain ⟨t,rfl⟩:=rx;cases y with
  | byt j=>obtain ⟨t',rfl⟩:=ry;exact PySem.W.eq_bytes (Bf I q Vm)
  | _=>exact absurd (show false=true from hs) Be
 | _=>cases y<;>exact absurd (show false=true from hs) Be
theorem Nt:OpR X (DA .NotEq) rNe:=by
 intro pins s σ H x y v u Q I rx ry h;obtain ⟨hs,q⟩:=h;cases x with
 | non =>
  cases rx;cases y with
  | non=>cases ry;exact V4 (Bf I q (by simp))
  | bl j=>cases ry;exact V5 (Bf I q (by simp))
  | int j=>obtain ⟨t',rfl⟩:=ry;exact WH (Bf I q (by simp))
  | str j=>obtain ⟨t',rfl⟩:=ry;exact WI (Bf I q (by simp))
  | _=>exact absurd (show false=true from hs) Be
 | bl i =>
  cases rx;cases y with
  | non=>cases ry;exact V6 (Bf I q (by simp))
  | bl j=>cases ry;exact ne_bool (Bf I q (congrArg not ABH))
  | str j=>obtain ⟨t',rfl⟩:=ry;exact V7 (Bf I q (by simp))
  | _=>exact absurd (show false=true from hs) Be
 | int i =>
  obtain ⟨t,rfl⟩:=rx;cases y with
  | non=>cases ry;exact WJ (Bf I q (by simp))
  | int j=>obtain ⟨t',rfl⟩:=ry;exact ne_int (Bf I q (congrArg not Wh))
  | str j=>obtain ⟨t',rfl⟩:=ry;exact WN (Bf I q (by simp))
  | _=>exact absurd (show false=true from hs) Be
 | str i =>
  obtain ⟨t,rfl⟩:=rx;cases y with
  | non=>cases ry;exact WO (Bf I q (by simp))
  | bl j=>cases ry;exact V8 (Bf I q (by simp))
  | int j=>obtain ⟨t',rfl⟩:=ry;exact WP (Bf I q (by simp))
  | str j=>obtain ⟨t',rfl⟩:=ry;exact ne_str (Bf I q (congrArg not WL))
  | _=>exact absurd (show false=true from hs) Be
 | byt i =>
  obtain ⟨t,rfl⟩:=rx;cases y with
  | byt j=>obtain ⟨t',rfl⟩:=ry;exact PySem.W.ne_bytes (Bf I q (congrArg not Vm))
  | _=>exact absurd (show false=true from hs) Be
 | _=>cases y<;>exact absurd (show false=true from hs) Be
theorem Kf:OpR X (DA .Lt) (rI0 λi j=>.bl (decide (i<j))):=opB0 λ_ _ _ _ _ _ _ q=>lt_int q
theorem AEd:OpR X (DA .LtE) (rI0 λi j=>.bl (decide (i<=j))):=opB0 λ_ _ _ _ _ _ _ q=>le_int q
theorem Ol:OpR X (DA .Gt) (rI0 λi j=>.bl (decide (j<i))):=opB0 λ_ _ _ _ _ _ _ q=>gt_int q
theorem Tq:OpR X (DA .GtE) (rI0 λi j=>.bl (decide (j<=i))):=opB0 λ_ _ _ _ _ _ _ q=>ge_int q
theorem nomark(b:Expr){op:Sz}(h:op≠.In:=by decide)(h2:op≠.NotIn:=by decide):Hd op b=false:=by
 have e1:(op==X9)=false:=by cases op<;>first | rfl | exact absurd rfl h
 have e2:(op==XG)=false:=by cases op<;>first | rfl | exact absurd rfl h2
 cases b<;>simp[Hd,e1,e2]
theorem Cm{op:Sz}{r:R2}(ho:OpR X (DA op) r)(ha:PE X a ta)(hb:PE X b tb)(hm:Hd op b=false):PE X (.Compare a [op] [b] pos) (tOp r ta tb):=by
 intro pins s σ H Q I h;exact UO (binT ha hb I h λv u s2 x y H2 I2 rx ry q=>ho pins s2 σ H2 x y v u Q I2 rx ry q) hm
def AEv(t:TE):TT:=λσ H Q=>t σ H λx H'=>∃k,x=.bl k/\Q k H'
theorem Ar{op:Sz}{r:R2}(ho:OpR X (DA op) r)(ha:PE X a ta)(hb:PE X b tb)(hm:Hd op b=false):PT X (.Compare a [op] [b] pos) (AEv (tOp r ta tb)):=by
 intro pins s σ H Q I h;refine Pm (thn (ha pins s σ H _ I h) λv s1 ⟨x,H1,I1,r1,q1⟩=>thn (hb pins s1 σ H1 _ I1 q1) λu s2 ⟨y,H2,I2,r2,q2⟩ =>
  thn (ho pins s2 σ H2 x y v u _ I2 r1 r2 q2) λc s3 ⟨z,H3,I3,r3,k,e,q3⟩=>?_) hm
 subst e;cases r3;exact FA ⟨H3,I3,q3⟩
theorem line63:(sizeLine:Nat)<2 ^ 63:=by rw[FX];decide
theorem vals1{x:V}{us:List Ap}(r:Vals [x] us):∃u,us=[u]/\RelV x u:=by
 cases r with
 | cons r1 r2=>cases r2;exact ⟨_,rfl,r1⟩
theorem vals2{x y:V}{us:List Ap}(r:Vals [x,y] us):∃u w',us=[u,w']/\RelV x u/\RelV y w':=by
 cases r with
 | cons r1 r2 =>
  cases r2 with
  | cons r3 r4=>cases r4;exact ⟨_,_,rfl,r1,r3⟩
theorem XD(hc:X.calm=true):CallR X (.builtin "max") (λxs H Q=>∃i j,xs=[.int i,.int j]/\Q (.int (if j>i then j else i)) H):=by
 intro pins s σ H xs us Q I r h;obtain ⟨i,j,rfl,q⟩:=h;obtain ⟨u,w',rfl,⟨t,rfl⟩,⟨t',rfl⟩⟩:=vals2 r;refine max_two_ints (I.ok.hd hc) λh' tk k=>⟨_,H,I.kept k,?_,q⟩;by_cases hj:j>i
 ·rw[if_pos hj,if_pos hj];exact ⟨_,rfl⟩
 ·rw[if_neg hj,if_neg hj];exact ⟨_,rfl⟩
theorem Xj(hc:X.calm=true):CallR X (.builtin "min") (λxs H Q=>∃i j,xs=[.int i,.int j]/\Q (.int (if j<i then j else i)) H):=by
 intro pins s σ H xs us Q I r h;obtain ⟨i,j,rfl,q⟩:=h;obtain ⟨u,w',rfl,⟨t,rfl⟩,⟨t',rfl⟩⟩:=vals2 r;refine min_two_ints (I.ok.hd hc) λh' tk k=>⟨_,H,I.kept k,?_,q⟩;by_cases hj:j<i
 ·rw[if_pos hj,if_pos hj];exact ⟨_,rfl⟩
 ·rw[if_neg hj,if_neg hj];exact ⟨_,rfl⟩
theorem Nf:CallR X (.type "int") (λxs H Q=>(∃i,xs=[.int i]/\Q (.int i) H)\/∃k,xs=[.bl k]/\Q (.int (if k then 1 else 0)) H):=by
 intro pins s σ H xs us Q I r h;rcases h with⟨i,rfl,q⟩ | ⟨k,rfl,q⟩
 ·obtain ⟨u,rfl,t,rfl⟩:=vals1 r
  exact call_int_int ⟨.int i,H,I,⟨_,rfl⟩,q⟩
 ·obtain ⟨u,rfl,r1⟩:=vals1 r
  cases r1;exact call_int_bool ⟨.int (if k then 1 else 0),H,I.tok _,⟨_,rfl⟩,q⟩
end
structure ObjM(h:Heap)(x dx C:Addr)(mA:Str->Option Ap):Prop where
 obj:h.get? x=some (FF C dx)
 ns:h.Ns1 dx mA
 ne:dx≠x
set_option tactic.hygienic true in
theorem Xo{h:Heap}{dx:Addr}{mA:Str->Option Ap}(n:h.Ns1 dx mA):∃od,h.get? dx=some od/\∀name,ML name od=some (mA name):=by
 obtain ⟨o,es,ep,ho,hd,hk,_,hm⟩:=n;refine ⟨o,ho,λname=>?_⟩;have e:=hm name;unfold nsFind findBy at e;rw[<- Array.find?_toList] at e;unfold ML;rw[hd];dsimp only;split
 ·rename_i y q
  rw[q] at e;exact congrArg some e
 ·rename_i q
  rw[q] at e;have a:es.toList.any (·.refKey)=false:=by
   rw[List.any_eq_false];intro y hy;obtain ⟨z,t,hkey⟩:=hk y (Array.mem_toList_iff.mp hy);simp[DictEntry.refKey,hkey]
  have a':¬ es.toList.any (·.refKey)=true:=by rw[a];exact Be
  rw[if_neg a'];exact congrArg some e
theorem ObjM.look{h:Heap}{x dx C:Addr}{mA:Str->Option Ap}(I:ObjM h x dx C mA):∃od,PySem.W.InstAt h x (FF C dx) C (some od)/\∀name,ML name od=some (mA name) :=
 let ⟨od,ho,hl⟩:=Xo I.ns
 ⟨od,⟨I.obj,rfl,rfl,ho⟩,hl⟩
section
variable{prog:AM}{w:AT}{A:BQ}{E:Ap->AA->Prop}{s:AA}{K:Au}{x dx C f:Addr}{mA:Str->Option Ap}{name:Str}{v:Ap}
theorem get_map{expr:Bool}{Q:Ap->AA->Prop}(X:K.In s.heap)(I:ObjM s.heap x dx C mA)(hg:E3 K C name=true)(hh:FB K C=true)
  (ha:AO K (.ref C) name=some none) (hv:mA name=some v) (hv':S7 v=true) (h:Q v {s with toks:=s.toks+1}) :
  wpAny (AL prog w) A (getAttr (.ref x) name expr) Q E s:=by
 obtain ⟨od,J,hl⟩:=I.look;exact PySem.W.get_value X J (MD hg).1 (PySem.W.findObj_own hh ha rfl (by rw[hl,hv])) hv' h
theorem AAn{pl:Sem Bool}{Q:Ap×List Ap->AA->Prop}(X:K.In s.heap)(I:ObjM s.heap x dx C mA)(hg:E3 K C name=true)
  (hf:AO K (.ref C) name=some (some (.ref f))) (ht:CY K (.ref f)=true) (hv:mA name=none) (h:Q (.ref f,[.ref x]) s) :
  wpAny (AL prog w) A (RF (.ref x) name pl) Q E s:=by
 obtain ⟨od,J,hl⟩:=I.look;exact PySem.W.method_fn X J (MD hg).1 (MD hg).2 hf (beq_iff_eq.mp ht) (by show (ML name od).map (·.isSome)=some false;rw[hl,hv];rfl) h
theorem ACN{ns:List Str}{Q:Unit->AA->Prop}(X:K.In s.heap)(I:ObjM s.heap x dx C mA)
  (hs:AO K (.ref C) "__setattr__" = some (some (.builtin "object.__setattr__"))) (hp:F6 K C=true) (ht:OS K C name=some none) (hh:FB K C=true)
  (hw:Rs mA ns) (hsz:ns.length<=sizeLine)
  (h:∀h',ObjM h' x dx C (λy=>if y=name then some v else mA y)->ET dx s.heap h'->Q () {s with heap:=h',toks:=s.toks+2}) :
  wpAny (AL prog w) A (setAttr (.ref x) name v) Q E s:=by
 obtain ⟨od,J,hl⟩:=I.look;refine PySem.W.set_plain X J hs (PySem.W.osa_open (s:={s with toks:=s.toks+1}) (r:=none) X J hp ht λb=>?_);obtain ⟨cd,hc,hd'⟩:=PySem.W.any_some hh;have hx:s.heap.get? x=some ⟨.ref C,some dx,.plain,#[]⟩:=I.obj;refine As (wpAny_pure (As (As (wpAny_loadPart hx (As (X1 (s:={s with toks:=s.toks+1}) (PySem.W.looks_clsIn X hc) ?_))))));rw[hd'];refine wpAny_pure (a:=some dx) (As (wpAny_pure (As ?_)));refine wpAny_nsSet1 (s:={s with toks:=s.toks+1}) I.ns λh' hn2 hs2=>?_;obtain ⟨oD,esD,epD,hoD,hdD,hcD⟩:=hn2.count (X7 name v hw);refine As (wpAny_lookBehind hoD (by rw[hdD];exact pastItsLine_dict (CF hcD (by rw[Dx];lia))) ?_);exact wpAny_pure (h _ ⟨(hs2.2 _ (DM I.ne)).trans I.obj,hn2,I.ne⟩ hs2)
theorem Tn{R:RH->AA->Prop}{vs:List Ap}{kw:List (Str×Ap)}(X:K.In s.heap)(hm:FH K C=true)
  (hi:AO K (.ref C) "__init__" = some (some (.ref f))) (hf:PySem.W.typeIn K (.ref f)=some (.type "function"))
  (h:codeAny (AL prog w) (A.under (.builtin "type.__call__" ⟨.ref C::vs,kw⟩)) (.call (.ref f) ⟨.ref (s.heap.objs.size+1)::vs,kw⟩) (S8 (s.heap.objs.size+1) R)
   {s with heap:=(s.heap.push EG).push (FF C s.heap.objs.size)}) :
  codeAny (AL prog w) A (.call (.ref C) ⟨vs,kw⟩) R s:=by
 obtain ⟨hh,g,d,t,os⟩:=s;exact SD (S9 X hm) (P8 X hi) (λself=>PySem.W.bind_fn X self hf) (.inl rfl) h
theorem YZ{R:RH->AA->Prop}(X:K.In s.heap)(hm:FH K C=true)
  (hi:AO K (.ref C) "__init__" = some (some (.builtin "object.__init__")))
  (hb:∀self,PySem.W.Looks (AL prog w) s.heap (bindSpecial (.builtin "object.__init__") self) (.builtin "object.__init__",[self]))
  (h:codeAny (AL prog w) (A.under (.builtin "type.__call__" ⟨[.ref C],[]⟩)) (.call (.builtin "object.__init__") ⟨[.ref (s.heap.objs.size+1)],[]⟩) (S8 (s.heap.objs.size+1) R)
   {s with heap:=(s.heap.push EG).push (FF C s.heap.objs.size)}) :
  codeAny (AL prog w) A (.call (.ref C) ⟨[],[]⟩) R s:=by
 obtain ⟨hh,g,d,t,os⟩:=s;exact SD (S9 X hm) (P8 X hi) hb (.inr ⟨rfl,rfl⟩) h
end
def putF(f:Str)(v:V):List (Str×V)->List (Str×V)
 | []=>[(f,v)]
 | (g,x)::r=>if g=f then (g,v)::r else (g,x)::putF f v r
theorem Ai(f g:Str)(v:V):∀fs:List (Str×V),(putF f v fs).lookup g=if g=f then some v else fs.lookup g
 | []=>by
  show EM g [(f,v)]=_;by_cases h:g=f
  ·have hb:(g==f)=true:=beq_iff_eq.mpr h
   simp only[EM,hb,if_pos h]
  ·have hb:(g==f)=false:=beq_eq_false_iff_ne.mpr h
   simp only[EM,hb,if_neg h]
 | (k,x)::r=>by
  have ih:=Ai f g v r;rw[show putF f v ((k,x)::r)=(if k=f then (k,v)::r else (k,x)::putF f v r) from rfl];by_cases hk:k=f
  ·rw[if_pos hk]
   by_cases h:g=k
   ·have hb:(g==k)=true:=beq_iff_eq.mpr h
    simp only[EM,hb,if_pos (h.trans hk)]
   ·have hb:(g==k)=false:=beq_eq_false_iff_ne.mpr h
    simp only[EM,hb,if_neg (λe:g=f=>h (e.trans hk.symm))]
  ·rw[if_neg hk]
   by_cases h:g=k
   ·have hb:(g==k)=true:=beq_iff_eq.mpr h
    simp only[EM,hb,if_neg (λe:g=f=>hk (h.symm.trans e))]
   ·have hb:(g==k)=false:=beq_eq_false_iff_ne.mpr h
    simp only[EM,hb];exact ih
theorem JH(f:Str)(v:V):∀fs:List (Str×V),f∈(putF f v fs).map (·.1)/\∀g,g∈fs.map (·.1)->g∈(putF f v fs).map (·.1)
 | []=>⟨by simp[putF],λg h=>by simp at h⟩
 | (k,x)::r=>by
  obtain ⟨i1,i2⟩:=JH f v r;rw[show putF f v ((k,x)::r)=(if k=f then (k,v)::r else (k,x)::putF f v r) from rfl];by_cases hk:k=f
  ·rw[if_pos hk]
   subst hk;exact ⟨by simp,λg h=>by simpa using h⟩
  ·rw[if_neg hk]
   refine ⟨?_,λg h=>?_⟩
   ·rw[B5]
    exact AH _ i1
   ·rw[B5] at h ⊢
    rcases AX.mp h with e | e
    ·exact AX.mpr (.inl e)
    ·exact AH _ (i2 g e)
theorem Ji(f:Str)(v:V):∀fs:List (Str×V),(putF f v fs).length<=fs.length+1
 | []=>by simp[putF]
 | (k,x)::r=>by
  have ih:=Ji f v r;rw[show putF f v ((k,x)::r)=(if k=f then (k,v)::r else (k,x)::putF f v r) from rfl];by_cases hk:k=f
  ·rw[if_pos hk,Dx,Dx];lia
  ·rw[if_neg hk,Dx,Dx];lia
theorem RelO.some_of{v:V}{o:Option Ap}(r:RelO (some v) o):∃u,o=some u/\RelV v u:=by
 cases o with
 | none=>exact (show False from r).elim
 | some u=>exact ⟨u,rfl,r⟩
theorem RelO.none_of{o:Option Ap}(r:RelO none o):o=none:=by
 cases o with
 | none=>rfl
 | some u=>exact (show False from r).elim
theorem Xx{v:V}{u:Ap}(r:RelV v u):S7 u=true:=by
 cases v with
 | non=>cases (show u=C1 from r);rfl
 | bl b=>cases (show u=G1 b from r);rfl
 | int i=>obtain ⟨t,e⟩:=(show ∃t,u=EV i t from r);cases e;rfl
 | str x=>obtain ⟨t,e⟩:=(show ∃t,u=Rc x t from r);cases e;rfl
 | byt b=>obtain ⟨t,e⟩:=(show ∃t,u=XB b t from r);cases e;rfl
 | flt b=>obtain ⟨t,e⟩:=(show ∃t,u=XE b t from r);cases e;rfl
 | ref a=>cases (show u=AS a from r);rfl
 | ty n=>cases (show u=EQ n from r);rfl
section
variable{P:AM}{w:AT}{H H':Hp}{h h':Heap}{a C dx:Addr}{fs fs':List (Str×V)}
theorem Jx(hok:HOk P w H h)(e:H a=some (.ins C dx fs)):∃mA,ObjM h a dx C mA/\(∀f,RelO (fs.lookup f) (mA f))/\Rs mA (fs.map (·.1))/\fs.length<=1000/\H dx=some (.own a):=by
 obtain ⟨d,z,ne,ob,mA,n,r,q⟩:=(show ObjOk P w H h a (.ins C dx fs) from hok a _ e);exact ⟨mA,⟨ob,n,ne⟩,r,q,z,d⟩
end
structure Cls(K:Au)(C:Addr):Prop where
 pg:E3 K C M0=true
 hd:FB K C=true
 po:F6 K C=true
 sa:AO K (.ref C) "__setattr__" = some (some (.builtin "object.__setattr__"))
theorem Cls.get{K:Au}{C:Addr}(c:Cls K C)(f:Str):E3 K C f=true:=c.pg
def NoAttr(K:Au)(C:Addr)(f:Str):Prop:=AO K (.ref C) f=some none
theorem NoAttr.taker{K:Au}{C:Addr}{f:Str}(n:NoAttr K C f):OS K C f=some none:=by
 unfold OS;rw[show AO K (.ref C) f=some none from n];rfl
structure Meth(K:Au)(C:Addr)(m:Str)(f:Addr):Prop where
 at_:AO K (.ref C) m=some (some (.ref f))
 fn:CY K (.ref f)=true
 kp:AI K (.ref f)=true
section
variable{X:Cx}{pins:List (Addr×Obj)}{σ:St}{H:Hp}{s:AA}{a C dx:Addr}{fs:List (Str×V)}{f:Str}{v:V}{A:BQ}{E:Ap->AA->Prop}
theorem VB{b:Bool}{Q:Ap->AA->Prop}(I:Inv X pins σ H s)(e:H a=some (.ins C dx fs))(c:Cls X.K C)(n:NoAttr X.K C f)(l:fs.lookup f=some v)
  (h:∀u s',Inv X pins σ H s'->RelV v u->Q u s'):wpAny (AL X.prog X.w) A (getAttr (.ref a) f b) Q E s:=by
 obtain ⟨mA,O,r,_,_,_⟩:=Jx I.hok e;obtain ⟨u,hu,ru⟩:=RelO.some_of (v:=v) (o:=mA f) (by rw[<- l];exact r f);exact get_map I.kIn O (c.get f) c.hd n hu (Xx ru) (h u _ (I.tok _) ru)
theorem Kd{m:Str}{g:Addr}{pl:Sem Bool}{Q:Ap×List Ap->AA->Prop}(I:Inv X pins σ H s)(e:H a=some (.ins C dx fs))(c:Cls X.K C)(k:Meth X.K C m g)(l:fs.lookup m=none)
  (h:Q (.ref g,[.ref a]) s):wpAny (AL X.prog X.w) A (RF (.ref a) m pl) Q E s:=by
 obtain ⟨mA,O,r,_,_,_⟩:=Jx I.hok e;have hn:mA m=none:=RelO.none_of (by rw[<- l];exact r m);exact AAn I.kIn O (c.get m) k.at_ k.fn hn h
theorem Vg{y:V}{u:Ap}{Q:Unit->AA->Prop}(I:Inv X pins σ H s)(e:H a=some (.ins C dx fs))(c:Cls X.K C)(n:NoAttr X.K C f)(hl:fs.length<1000)(ry:RelV y u)
  (h:∀s',Inv X pins σ (upd H a (.ins C dx (putF f y fs))) s'->Q () s'):wpAny (AL X.prog X.w) A (setAttr (.ref a) f u) Q E s:=by
 obtain ⟨mA,O,r,wi,_,ho⟩:=Jx I.hok e;have hz:(fs.map (·.1)).length<=sizeLine:=by rw[AB,FX];lia
 refine ACN I.kIn O c.sa c.po n.taker c.hd wi hz λh' O' sb=>h _ ?_;have hd:∃o,h'.get? dx=some o:=let ⟨o,_,_,e',_⟩:=O'.ns;⟨o,e'⟩
 refine I.write (x:=a) (e:=dx) (by rw[e];exact HH) (.inr ho) (λb q hb z=>(sb.2 b hb).trans z) hd ?_;refine ⟨by rw[Ag O.ne];exact ho,?_,O.ne,O'.obj,_,O'.ns,λg=>?_,λg hg=>?_⟩
 ·have:=Ji f y fs;lia
 ·show RelO ((putF f y fs).lookup g) (if g=f then some u else mA g)
  rw[Ai];by_cases q:g=f
  ·rw[if_pos q,if_pos q];exact ry
  ·rw[if_neg q,if_neg q];exact r g
 ·by_cases q:g=f
  ·rw[q];exact (JH f y fs).1
  ·refine (JH f y fs).2 g (wi g λz=>hg ?_)
   show (if g=f then some u else mA g)=none;rw[if_neg q];exact z
theorem Inv.made(I:Inv X pins σ H s):Inv X pins σ (upd (upd H s.heap.objs.size (.own (s.heap.objs.size+1))) (s.heap.objs.size+1) (.ins C s.heap.objs.size []))
  {s with heap:=(s.heap.push EG).push (FF C s.heap.objs.size)}:=by
 have e1:(s.heap.push EG).get? s.heap.objs.size=some EG:=AN s.heap rfl;have e2:((s.heap.push EG).push (FF C s.heap.objs.size)).get? (s.heap.objs.size+1)=some (FF C s.heap.objs.size):=by
  have:=AN (s.heap.push EG) (o:=FF C s.heap.objs.size) rfl
  rwa [DB] at this
 have e3:(s.heap.push EG).Ns s.heap.objs.size (λ_=>none):=⟨EG,#[],_,e1,rfl,(λe he=>absurd he (by simp)),λ_=>rfl⟩;have I1:=I.laid (a:=s.heap.objs.size) (o:=.own (s.heap.objs.size+1)) (h':=s.heap.push EG) (t':=s.toks) (λb u q=>AD _ q) (AF _) ⟨_,e1⟩;refine I1.laid (a:=s.heap.objs.size+1) (o:=.ins C s.heap.objs.size []) (t':=s.toks) (λb u q=>AD _ q) (KO (DB _ _)) ?_;have ne:s.heap.objs.size≠s.heap.objs.size+1:=BU (EB _);refine ⟨by rw[Ag ne,Ab],Bi _,ne,e2,λ_=>none,(Heap.Ns1.of_empty e3).at λo q=>AD _ q,λ_=>HH,λy hy=>absurd rfl hy⟩
theorem ABl{prog:AM}{w:AT}{env:Env}{e:Expr}{f:Str}{pos:Pos}{s:AA}{Q:Ap->AA->Prop}(hb:Nc e f env (eval e env)=eval e env)
  (h:wpAny (AL prog w) A (eval e env) (λo s₁=>wpAny (AL prog w) A (getAttr o f true) Q E s₁) E s):wpAny (AL prog w) A (eval (.Attribute e f pos) env) Q E s :=
 Attribute_any_ h (by rw[arm_eval_Attribute,hb])
end
def AFg(K:Au)(ta:TE)(f:Str):TE:=λσ H Q=>ta σ H λx H1=>E5 λa C dx fs v=>A6 (x=.ref a) (H1 a=some (.ins C dx fs)) (Cls K C) (NoAttr K C f) (fs.lookup f=some v) (Q v H1)
def AFT(K:Au)(ta tv:TE)(f:Str):TS:=λD σ H=>tv σ H λy H1=>ta σ H1 λx H2=>∃a C dx fs,x=.ref a/\H2 a=some (.ins C dx fs)/\Cls K C/\NoAttr K C f/\fs.length<1000 /\
 D.nx σ (upd H2 a (.ins C dx (putF f y fs)))
section
variable{X:Cx}{o e value:Expr}{f:Str}{pos pos' tpos:Pos}{ta tv:TE}
theorem Br(he:PE X e ta)(hb:Nc e f X.env (eval e X.env)=eval e X.env):PE X (.Attribute e f pos) (AFg X.K ta f):=by
 intro pins s σ H Q I h;refine ABl hb (thn (he pins s σ H _ I h) λu s1 ⟨x,H1,I1,rx,a,C,dx,fs,v,ex,ea,c,n,l,q⟩=>?_);subst ex;obtain rfl:u=AS a:=rx;exact VB I1 ea c n l λu' s2 I2 ru=>⟨v,H1,I2,ru,q⟩
theorem Dp(ha:PE X o ta)(hv:PE X value tv)(hs:KM value (some (.Attribute o f pos')) pos.line X.env=pure false):PS X (.Assign [.Attribute o f pos'] value pos) (AFT X.K ta tv f):=by
 intro pins s σ H D I h;refine plainObj_wpAny_Assign_Attribute (thn (hv pins s σ H _ I h) λu s1 ⟨y,H1,I1,ry,q⟩=>thn (ha pins s1 σ H1 _ I1 q) λov s2 ⟨x,H2,I2,rx,a,C,dx,fs,ex,ea,c,n,l,q2⟩=>?_) hs;subst ex;obtain rfl:ov=AS a:=rx;exact Vg I2 ea c n l ry λs3 I3=>⟨σ,_,I3,q2⟩
end
structure Room(k:Nat)(A:BQ):Prop where
 hd:A.handled=none
 dp:A.depth+3*k+5<UR
 un:A.units+16*k+200<C2
 gd:A.guards=some []
theorem Room.mono{j k:Nat}{A:BQ}(r:Room k A)(h:j<=k):Room j A:=⟨r.hd,by have:=r.dp;lia,by have:=r.un;lia,r.gd⟩
theorem Room.deeper{k:Nat}{A:BQ}(r:Room (k+1) A)(env:Env):Room k (A.deeper env) :=
 ⟨r.hd,by have:=r.dp;show A.depth+1+3*k+5<_;lia,by have:=r.un;show A.units+3+16*k+200<_;lia,r.gd⟩
theorem Ur{A:BQ}{C:Addr}{us:List Ap}{kw:List (Str×Ap)}:(A.under (.builtin "type.__call__" ⟨.ref C::us,kw⟩)).depth=A.depth+1:=by
 first | rfl | simp[On,Code.weight,Code.isCreation,Code.isGuard,Code.isCaller,XO,RI,guardIds]
theorem Uc{A:BQ}{C:Addr}{us:List Ap}{kw:List (Str×Ap)}:(A.under (.builtin "type.__call__" ⟨.ref C::us,kw⟩)).units=A.units+1:=by
 first | rfl | simp[On,Code.cUnits,XO,RI]
theorem Rr{A:BQ}{C:Addr}{us:List Ap}{kw:List (Str×Ap)}(hg:A.guards=some []):(A.under (.builtin "type.__call__" ⟨.ref C::us,kw⟩)).guards=some []:=by
 have h:(Code.builtin "type.__call__" ⟨.ref C::us,kw⟩).isGuard=false:=by
  show guardIds.contains "type.__call__" = false;decide +kernel
 simp[On,Code.guards,h,pushGuards,hg]
theorem Room.make{k:Nat}{A:BQ}(r:Room (k+1) A)(C:Addr)(us:List Ap)(kw:List (Str×Ap)):Room k (A.under (.builtin "type.__call__" ⟨.ref C::us,kw⟩)) :=
 ⟨r.hd,by have:=r.dp;rw[Ur];lia,by have:=r.un;rw[Uc];lia,Rr r.gd⟩
theorem Room.depth{k:Nat}{A:BQ}(r:Room k A):A.depth<UR:=by have:=r.dp;lia
theorem Room.units{k:Nat}{A:BQ}(r:Room k A):A.units+64<C2:=by have:=r.un;lia
def ABy:TA:=λ_ H Q=>Q [] H
def ACy(ta:TE)(tr:TA):TA:=λσ H Q=>ta σ H λx H1=>tr σ H1 λxs H2=>Q (x::xs) H2
section
variable{X:Cx}{e:Expr}{es:List Expr}{te:TE}{t:TA}{pos:Pos}
theorem Ad:PA X [] ABy:=λ_ _ _ _ H Q I h=>K8 ⟨[],H,I,.nil,h⟩
theorem Aa(ha:PE X e te)(hr:PA X es t)(hs:Ct (e::es) X.env=(false,eval e X.env)::Ct es X.env:=by rfl):PA X (e::es) (ACy te t):=by
 intro pos pins s σ H Q I h;rw[hs];show wpAny _ _ (UN ((false,eval e X.env)::Hm pos (Ct es X.env))) _ _ s;refine IJ (thn (ha pins s σ H _ I h) λu s1 ⟨x,H1,I1,r1,q1⟩=>?_);exact thn (hr pos pins s1 σ H1 _ I1 q1) λus s2 ⟨xs,H2,I2,r2,q2⟩=>⟨x::xs,H2,I2,.cons r1 r2,q2⟩
def AFW(t:TA):TE:=λσ H Q=>t σ H λxs H1=>xs.length<=sizeLine/\∀p,H1 p=none->Q (.ref p) (upd H1 p (.tup xs))
def AFX(t:TA):TE:=λσ H Q=>t σ H λxs H1=>xs.length<=sizeLine/\∀p,H1 p=none->Q (.ref p) (upd H1 p (.lst xs))
theorem CG{x1}(h:PA X es t):PE X (.Tuple es x1 pos) (AFW t):=by
 intro pins s σ H Q I hq;refine wpAny_Tuple_spliced (thn (h pos pins s σ H _ I hq) λus s1 ⟨xs,H1,I1,r,z,q⟩=>⟨by rw[<- r.length];exact z,?_⟩);have hf:H1 s1.heap.objs.size=none:=I1.hok.fresh (AF _);refine ⟨.ref s1.heap.objs.size,upd H1 s1.heap.objs.size (.tup xs),I1.laid (t':=s1.toks) (λb u e=>AD _ e) (AF _) ?_,rfl,q _ hf⟩;exact ⟨z,us,r,⟨_,AN _ rfl,rfl,_,rfl⟩⟩
theorem Ck(h:PA X es t):PE X (.List es pos) (AFX t):=by
 intro pins s σ H Q I hq;refine wpAny_List_spliced (thn (h pos pins s σ H _ I hq) λus s1 ⟨xs,H1,I1,r,z,q⟩=>⟨by rw[<- r.length];exact z,?_⟩);have hf:H1 s1.heap.objs.size=none:=I1.hok.fresh (AF _);refine ⟨.ref s1.heap.objs.size,upd H1 s1.heap.objs.size (.lst xs),I1.laid (t':=s1.toks) (λb u e=>AD _ e) (AF _) ?_,rfl,q _ hf⟩;exact ⟨z,us,0,r,AN _ rfl⟩
end
abbrev Sp:=List V->Hp->VK->XK->Prop
abbrev CXT:=List Env->Hp->AA->XK->Ap->AA->Prop
structure Env0(P:AM)(w:AT)(K:Au)(mg:Str->Option Ap)(base:Heap)(A:BQ)(outer:List Env)(s:AA)(H:Hp):Prop where
 frames:A.frames=some outer
 mod:Mod K mg base
 bs:∀b o,base.get? b=some o->s.heap.get? b=some o/\H b=none
 bsz:base.objs.size<=s.heap.objs.size
 funs:s.heap.FunFrames base outer
 frf:∀b∈frs outer,H b=none
 hok:HOk P w H s.heap
 bare:K5 s.gens
def CE(outer:List Env)(P:AM)(w:AT)(H:Hp)(s:AA)(Q:VK)(u:Ap)(s':AA):Prop :=
 ∃v H',s'.os=s.os/\K5 s'.gens/\Un (frs outer) [] H H' s.heap s'.heap/\HOk P w H' s'.heap/\RelV v u/\Q v H'
def CR(CX:CXT)(outer:List Env)(P:AM)(w:AT)(H:Hp)(s:AA)(Q:VK)(E:XK)(r:RH)(s':AA):Prop :=
 match r with
 | .ok (.ret u)=>CE outer P w H s Q u s'
 | .ok _=>False
 | .error e=>CX outer H s E e s'
structure FnOk(P:AM)(w:AT)(K:Au)(mg:Str->Option Ap)(base:Heap)(CX:CXT)(k:Nat)(f:Addr)(fd:BV)(ps:List Str)(sp:Sp):Prop where
 len:∀vs H Q E,sp vs H Q E->vs.length=ps.length
 run:∀(A:BQ) (outer:List Env) (s:AA) (H:Hp) (args:Args) (us:List Ap) (vs:List V) (Q:VK) (E:XK),Room k A->Env0 P w K mg base A outer s H->N4 s fd args (ps.zip us)->Vals vs us->sp vs H Q E ->
  codeAny (AL P w) A (.call (.ref f) args) (CR CX outer P w H s Q E) s
theorem Env0.make{P:AM}{w:AT}{K:Au}{mg:Str->Option Ap}{base:Heap}{A:BQ}{outer:List Env}{s:AA}{H:Hp}(e:Env0 P w K mg base A outer s H)(C:Addr)(us:List Ap)(kw:List (Str×Ap)) :
  Env0 P w K mg base (A.under (.builtin "type.__call__" ⟨.ref C::us,kw⟩)) outer s H:=⟨by first | exact e.frames | (simpa [On,Code.envs,RI,pushEnvs] using e.frames),e.mod,e.bs,e.bsz,e.funs,e.frf,e.hok,e.bare⟩
section
variable{X:Cx}{pins:List (Addr×Obj)}{σ:St}{H:Hp}{s s':AA}
theorem Inv.env0(I:Inv X pins σ H s):Env0 X.prog X.w X.K X.mg X.base X.A X.stack s H :=
 ⟨I.ok.frames,I.ok.mod,I.bs,CF I.ok.bsz I.sz,I.stack,I.stkFree,I.hok,I.bare⟩
theorem Inv.after{Q:VK}{u:Ap}(I:Inv X pins σ H s)(h:CE X.stack X.prog X.w H s Q u s'):EP X pins σ Q u s':=by
 obtain ⟨v,H',os,bare,un,hok,r,q⟩:=h;obtain ⟨hh,g,d,t,os'⟩:=s';obtain rfl:os'=s.os:=os;exact ⟨v,H',I.call (h':=hh) (g':=g) (d':=d) (t':=t) (ch:=[]) un hok bare (λb z=>absurd z (by simp)),r,q⟩
end
def AEn(sp:Sp)(dvs:List V)(E:XK)(t:TA):TE:=λσ H Q=>t σ H λvs H1=>sp (vs++dvs) H1 Q E
def ADJ(C:Addr)(m:Str)(sp:Sp)(dvs:List V)(E:XK)(ta:TE)(t:TA):TE:=λσ H Q=>ta σ H λx H1=>∃a dx fs,x=.ref a/\H1 a=some (.ins C dx fs)/\fs.lookup m=none /\
 t σ H1 λvs H2=>sp (x::(vs++dvs)) H2 Q E
def ACp(C:Addr)(sp:Sp)(dvs:List V)(E:XK)(t:TA):TE:=λσ H Q=>t σ H λvs H1=>∀x dx,H1 x=none->H1 dx=none->dx≠x ->
 sp (.ref x::(vs++dvs)) (upd (upd H1 dx (.own x)) x (.ins C dx [])) (λv H2=>v=.non/\Q (.ref x) H2) E
def Binds(K:Au)(fd:BV)(ps:List Str)(ds:List Ap):Prop :=
 ∀(s:AA) (us:List Ap),K.In s.heap->(us++ds).length=ps.length->N4 s fd ⟨us,[]⟩ (ps.zip (us++ds))
theorem Binds.all{K:Au}{fd:BV}{ps:List Str}(h:∀us:List Ap,us.length=ps.length->Ta fd ⟨us,[]⟩=pure (ps.zip us)):Binds K fd ps []:=λs us _ hl=>by
 rw[CU] at hl ⊢;exact .of_eq (h us hl)
def Passes(CX:CXT)(X:Cx)(E:XK):Prop:=∀(pins:List (Addr×Obj)) (σ:St) (H:Hp) (s:AA) (e:Ap) (s':AA),Inv X pins σ H s->CX X.stack H s E e s'->X.xe e s'
section
variable{X:Cx}{CX:CXT}{k:Nat}{f C:Addr}{fd:BV}{ps:List Str}{sp:Sp}{dvs:List V}{ds:List Ap}{E:XK}{x m:Str}{p pos apos:Pos}{e o:Expr}{es:List Expr}{ta:TE}{t:TA}
theorem Va{pins:List (Addr×Obj)}{σ:St}{H:Hp}{s:AA}{Q:VK}{us:List Ap}{vs:List V}(F:FnOk X.prog X.w X.K X.mg X.base CX k f fd ps sp)(hr:Room k X.A)(hb:Binds X.K fd ps ds)(hd:Vals dvs ds)(hx:Passes CX X E)
  (I:Inv X pins σ H s) (r:Vals vs us) (h:sp (vs++dvs) H Q E):wpAny (AL X.prog X.w) X.A (call (.ref f) us) (EP X pins σ Q) X.xe s:=by
 have r2:Vals (vs++dvs) (us++ds):=r.append hd;have hl:(us++ds).length=ps.length:=by rw[<- r2.length];exact F.len _ _ _ _ h
 refine NO (EJ (F.run X.A X.stack s H ⟨us,[]⟩ (us++ds) (vs++dvs) Q E hr I.env0 (hb s us I.kIn hl) r2 h) λr s' hq=>?_);cases r with
 | error e=>exact hx pins σ H s e s' I hq
 | ok fl =>
  cases fl with
  | ret u=>exact I.after hq
  | next=>exact Eg hq
  | brk=>exact Eg hq
  | cont=>exact Eg hq
theorem BP(F:FnOk X.prog X.w X.K X.mg X.base CX k f fd ps sp)(hr:Room k X.A)(hg:Gl X x)(hm:X.mg x=some (.ref f))(hk:AI X.K (.ref f)=true)(hb:Binds X.K fd ps ds)(hd:Vals dvs ds)(hx:Passes CX X E)
  (ha:PA X (e::es) t) (hdb:(x==("__debug__" : Str))=false:=by decide) (he:Ct (e::es) X.env=(false,eval e X.env)::Ct es X.env:=by rfl) (hpl:(Hm pos (Ct es X.env)).any (·.1)=false:=by rfl) :
  PE X (.Call (.Name x p) (e::es) [] pos) (AEn sp dvs E t):=by
 intro pins s σ H Q I h;refine EN (Gy I hg hm ?_ hdb);refine M1 (h₀:=X.base) I.ok.mod.kin hk (thn (ha pos pins s σ H _ I h) λus s1 ⟨vs,H1,I1,r,q⟩=>⟨I1.kIn,?_⟩) he hpl;exact Va F hr hb hd hx I1 r q
theorem CJ{pl:Sem Bool}(he:PE X o ta)(c:Cls X.K C)(hm:Meth X.K C m f)(F:FnOk X.prog X.w X.K X.mg X.base CX k f fd ps sp)(hr:Room k X.A)(hb:Binds X.K fd ps ds)(hd:Vals dvs ds)(hx:Passes CX X E)(ha:PA X (e::es) t)
  (hst:Ct (e::es) X.env=(false,eval e X.env)::Ct es X.env:=by rfl) (hpl:(Hm pos (Ct es X.env)).any (·.1)=false:=by rfl)
  (ht:eval (.Call (.Attribute o m apos) (e::es) [] pos) X.env=(do
   let ov <- eval o X.env
   UP apos.atName
   let (f,first) <- SC [ov] (RF ov m pl)
   callWith pos f first (Hm pos (Ct (e::es) X.env)) (KP pos (HQ [] X.env))):=by rfl) :
  PE X (.Call (.Attribute o m apos) (e::es) [] pos) (ADJ C m sp dvs E ta t):=by
 intro pins s σ H Q I h;refine Pp (pl:=pl) (thn (he pins s σ H _ I h) λu s1 ⟨x,H1,I1,rx,a,dx,fs,ex,ea,l,q⟩=>?_) ht;subst ex;obtain rfl:u=AS a:=rx;refine Kd I1 ea c hm l ?_;refine M1 (first:=[.ref a]) (h₀:=X.base) I.ok.mod.kin hm.kp (thn (ha pos pins s1 σ H1 _ I1 q) λus s2 ⟨vs,H2,I2,r,q2⟩=>⟨I2.kIn,?_⟩) hst hpl;exact Va (us:=.ref a::us) (vs:=.ref a::vs) F hr hb hd hx I2 (.cons rfl r) q2
theorem Bo{pl:Sem Bool}(he:PE X o ta)(c:Cls X.K C)(hm:Meth X.K C m f)(F:FnOk X.prog X.w X.K X.mg X.base CX k f fd ps sp)(hr:Room k X.A)(hb:Binds X.K fd ps ds)(hd:Vals dvs ds)(hx:Passes CX X E)
  (ht:eval (.Call (.Attribute o m apos) [] [] pos) X.env=(do
   let ov <- eval o X.env
   UP apos.atName
   let (f,first) <- SC [ov] (RF ov m pl)
   callWith pos f first (Hm pos (Ct [] X.env)) (KP pos (HQ [] X.env))):=by rfl) :
  PE X (.Call (.Attribute o m apos) [] [] pos) (ADJ C m sp dvs E ta ABy):=by
 intro pins s σ H Q I h;refine Pp (pl:=pl) (thn (he pins s σ H _ I h) λu s1 ⟨x,H1,I1,rx,a,dx,fs,ex,ea,l,q⟩=>?_) ht;subst ex;obtain rfl:u=AS a:=rx;refine Kd I1 ea c hm l ?_;exact ME (first:=[.ref a]) I1.kIn hm.kp (Va (us:=[.ref a]) (vs:=[.ref a]) F hr hb hd hx I1 (.cons rfl .nil) q)
structure Mk(K:Au)(C f:Addr):Prop where
 makes:FH K C=true
 init:AO K (.ref C) "__init__" = some (some (.ref f))
 fn:CY K (.ref f)=true
 kp:AI K (.ref C)=true
theorem Rk{pins:List (Addr×Obj)}{σ:St}{H:Hp}{s:AA}{Q:VK}{us:List Ap}{vs:List V}(M:Mk X.K C f)(F:FnOk X.prog X.w X.K X.mg X.base CX k f fd ps sp)(hr:Room (k+1) X.A)(hb:Binds X.K fd ps ds)(hd:Vals dvs ds)
  (hx:Passes CX X E) (I:Inv X pins σ H s) (r:Vals vs us)
  (h:∀x dx,H x=none->H dx=none->dx≠x->sp (.ref x::(vs++dvs)) (upd (upd H dx (.own x)) x (.ins C dx [])) (λv H2=>v=.non/\Q (.ref x) H2) E) :
  wpAny (AL X.prog X.w) X.A (call (.ref C) us) (EP X pins σ Q) X.xe s:=by
 have hq:=h (s.heap.objs.size+1) s.heap.objs.size (I.hok.fresh (LF _)) (I.hok.fresh (AF _)) (BU (EB _));have I2:=Inv.made (C:=C) I;have r2:Vals (V.ref (s.heap.objs.size+1)::(vs++dvs)) (AS (s.heap.objs.size+1)::(us++ds)):=.cons rfl (r.append hd);have hl:(AS (s.heap.objs.size+1)::us++ds).length=ps.length:=by
  have e:=r2.length;rw[F.len _ _ _ _ hq] at e;exact e.symm
 refine NO (Tn (f:=f) I.kIn M.makes M.init (beq_iff_eq.mp M.fn) (EJ (F.run _ X.stack _ _ ⟨AS (s.heap.objs.size+1)::us,[]⟩ (AS (s.heap.objs.size+1)::(us++ds)) _ _ E (hr.make C us [])
  (I2.env0.make C us []) (hb _ (AS (s.heap.objs.size+1)::us) I2.kIn hl) r2 hq) λr s' hq'=>?_))
 cases r with
 | error e=>exact hx pins σ _ _ e s' I2 hq'
 | ok fl =>
  cases fl with
  | ret u =>
   obtain ⟨v,H',I3,rv,ev,q3⟩:=I2.after hq';subst ev;exact ⟨rv,⟨V.ref (s.heap.objs.size+1),H',I3,rfl,q3⟩⟩
  | next=>exact Eg hq'
  | brk=>exact Eg hq'
  | cont=>exact Eg hq'
theorem Ir(M:Mk X.K C f)(F:FnOk X.prog X.w X.K X.mg X.base CX k f fd ps sp)(hr:Room (k+1) X.A)(hg:Gl X x)(hm:X.mg x=some (.ref C))(hb:Binds X.K fd ps ds)(hd:Vals dvs ds)(hx:Passes CX X E)
  (ha:PA X (e::es) t) (hdb:(x==("__debug__" : Str))=false:=by decide) (he:Ct (e::es) X.env=(false,eval e X.env)::Ct es X.env:=by rfl) (hpl:(Hm pos (Ct es X.env)).any (·.1)=false:=by rfl) :
  PE X (.Call (.Name x p) (e::es) [] pos) (ACp C sp dvs E t):=by
 intro pins s σ H Q I h;refine EN (Gy I hg hm ?_ hdb);refine M1 (h₀:=X.base) I.ok.mod.kin M.kp (thn (ha pos pins s σ H _ I h) λus s1 ⟨vs,H1,I1,r,q⟩=>⟨I1.kIn,?_⟩) he hpl;exact Rk M F hr hb hd hx I1 r q
theorem AAf(M:Mk X.K C f)(F:FnOk X.prog X.w X.K X.mg X.base CX k f fd ps sp)(hr:Room (k+1) X.A)(hg:Gl X x)(hm:X.mg x=some (.ref C))(hb:Binds X.K fd ps ds)(hd:Vals dvs ds)(hx:Passes CX X E)
  (hdb:(x==("__debug__" : Str))=false:=by decide):PE X (.Call (.Name x p) [] [] pos) (ACp C sp dvs E ABy):=by
 intro pins s σ H Q I h;refine EN (Gy I hg hm ?_ hdb);exact ME I.kIn M.kp (Rk (us:=[]) M F hr hb hd hx I .nil h)
end
def PK(X:Cx)(kws:List N5)(t:TA):Prop :=
 ∀(pos:Pos) (pins:List (Addr×Obj)) (s:AA) (σ:St) (H:Hp) (Q:List V->Hp->Prop),Inv X pins σ H s->t σ H Q->wpAny (AL X.prog X.w) X.A (evalAll ((KP pos (HQ kws X.env)).map (·.2))) (AP X pins σ Q) X.xe s
section
variable{X:Cx}{CX:CXT}{k:Nat}{f C:Addr}{fd:BV}{ps ks:List Str}{sp:Sp}{E:XK}{x m:Str}{p pos apos kpos:Pos}{e o:Expr}{es:List Expr}{kws:List N5}{te ta:TE}{t tk:TA}{nm:Option Str}
theorem ADn:PK X [] ABy:=λ_ _ _ _ H Q I h=>wpAny_evalAll_nil ⟨[],H,I,.nil,h⟩
theorem ACj(ha:PE X e te)(hr:PK X kws t):PK X (⟨nm,e,kpos⟩::kws) (ACy te t):=by
 intro pos pins s σ H Q I h;show wpAny _ _ (evalAll ((do let v <- eval e X.env;UP pos;pure v)::(KP pos (HQ kws X.env)).map (·.2))) _ _ s;refine wpAny_evalAll_cons (As (thn (ha pins s σ H _ I h) λu s1 ⟨x,H1,I1,r1,q1⟩=>As (Nd (wpAny_pure ?_))));exact thn (hr pos pins s1 σ H1 _ I1 q1) λus s2 ⟨xs,H2,I2,r2,q2⟩=>⟨x::xs,H2,I2,.cons r1 r2,q2⟩
structure KBinds(K:Au)(fd:BV)(ps ks:List Str)(g:List Ap->List Ap->List Ap)(gV:List V->List V->List V):Prop where
 to:∀(s:AA) (us ws:List Ap),K.In s.heap->(g us ws).length=ps.length->N4 s fd ⟨us,ks.zip ws⟩ (ps.zip (g us ws))
 rel:∀{vs:List V}{us:List Ap}{zs:List V}{ws:List Ap},Vals vs us->Vals zs ws->Vals (gV vs zs) (g us ws)
variable{g:List Ap->List Ap->List Ap}{gV:List V->List V->List V}
end
structure FnScope(N P:List Str)(sc:D3):Prop where
 kind:sc.kind=.function
 co:sc.isCoroutine=false
 gen:sc.isGenerator=false
 nd:N.Nodup
 pre:N.take P.length=P
 par:∀x∈P,sc.names.lookup x=some .local\/sc.names.lookup x=some .cell
 nofree:∀y∈sc.names,y.2≠.free
theorem NQ{kindOf:Str->Option ER}{x:Str}:∀{binds:List (Str×Ap)}{m:Str->Option Ap},(∀v,(x,v)∉binds)->P9 kindOf binds m x=m x
 | [],_,_=>rfl
 | (n,v)::r,m,h=>by
  unfold P9;rw[NQ λw hw=>h w (AH _ hw)];split
  ·have:x≠n:=by rintro rfl;exact h v AG
   simp[this]
  ·rfl
theorem Nm{kindOf:Str->Option ER}{x:Str}:∀{binds:List (Str×Ap)}{m:Str->Option Ap},(∀v,(x,v)∉binds)->Qb kindOf binds m x=m x
 | [],_,_=>rfl
 | (n,v)::r,m,h=>by
  unfold Qb;rw[Nm λw hw=>h w (AH _ hw)];split
  ·rfl
  ·have:x≠n:=by rintro rfl;exact h v AG
   simp[this]
theorem Nj{kindOf:Str->Option ER}{x:Str}{v:Ap}:∀{P:List Str}{vs:List Ap}{i:Nat}{m:Str->Option Ap},P.Nodup->P[i]?=some x->vs[i]?=some v->kindOf x=some .local ->
  P9 kindOf (P.zip vs) m x=some v
 | [],_,_,_,_,h,_,_=>by simp at h
 | _::_,[],_,_,_,_,h,_=>by simp at h
 | p::P,w::vs,0,m,nd,h1,h2,hk=>by
  simp at h1 h2;subst h1;subst h2;show P9 kindOf ((p,w)::P.zip vs) m p=_;unfold P9;rw[NQ λv hv=>(Ev.mp nd).1 (OT hv).1,if_pos hk];simp
 | p::P,w::vs,i+1,m,nd,h1,h2,hk=>by
  show P9 kindOf ((p,w)::P.zip vs) m x=_;unfold P9;exact Nj (i:=i) (Ev.mp nd).2 (by simpa using h1) (by simpa using h2) hk
theorem Oq{kindOf:Str->Option ER}{x:Str}{v:Ap}:∀{P:List Str}{vs:List Ap}{i:Nat}{m:Str->Option Ap},P.Nodup->P[i]?=some x->vs[i]?=some v->kindOf x≠some .local ->
  Qb kindOf (P.zip vs) m x=some v
 | [],_,_,_,_,h,_,_=>by simp at h
 | _::_,[],_,_,_,_,h,_=>by simp at h
 | p::P,w::vs,0,m,nd,h1,h2,hk=>by
  simp at h1 h2;subst h1;subst h2;show Qb kindOf ((p,w)::P.zip vs) m p=_;unfold Qb;rw[Nm λv hv=>(Ev.mp nd).1 (OT hv).1,if_neg hk];simp
 | p::P,w::vs,i+1,m,nd,h1,h2,hk=>by
  show Qb kindOf ((p,w)::P.zip vs) m x=_;unfold Qb;exact Oq (i:=i) (Ev.mp nd).2 (by simpa using h1) (by simpa using h2) hk
def start(N:List Str)(vs:List V):St:=vs.map some++BE (N.length-vs.length) none
def cxOf(CX:CXT)(P:AM)(w:AT)(K:Au)(mg:Str->Option Ap)(base:Heap)(N:List Str)(qual:Str)(scope:D3)(f:Addr)(cd:Ap)(A:BQ)(outer:List Env)(s:AA)(H:Hp)(E:XK):Cx where
 prog:=P
 w:=w
 K:=K
 mg:=mg
 base:=base
 A:=A.deeper (LZ qual scope s.heap.objs.size f cd)
 N:=N
 s₀:=s
 H₀:=H
 env:=LZ qual scope s.heap.objs.size f cd
 outer:=outer
 stack:=LZ qual scope s.heap.objs.size f cd::outer
 ex:=[]
 calm:=true
 fn:=λ_=>true
 pn:=[]
 xe:=λe s'=>wpAny (AL P w) (A.deeper (LZ qual scope s.heap.objs.size f cd)) (leaving (LZ qual scope s.heap.objs.size f cd) e) (λ_ s''=>CX outer H s E e s'') (λe' s''=>CX outer H s E e' s'') s'
theorem Sy{sc:D3}{n:Nat}{x:Str}(h:sc.names.lookup x=some .cell):∃c,(DO n sc.names []).lookup x=some c:=by
 have q:=O3 sc.names n [] (.inl h);exact EK.mp q
theorem Ww{CX:CXT}{P:AM}{w:AT}{K:Au}{mg:Str->Option Ap}{base:Heap}{N ps:List Str}{qual:Str}{scope:D3}{f:Addr}{cd:Ap}{A:BQ}{outer:List Env}{s s1:AA}{H:Hp}{E:XK}{us:List Ap}{vs:List V}
  (S:FnScope N ps scope) (hd:A.handled=none) (e0:Env0 P w K mg base A outer s H) (hl:vs.length=ps.length) (r:Vals vs us)
  (x:InCallC s s.heap.objs.size (P9 (LZ qual scope s.heap.objs.size f cd).kindOf (ps.zip us) λ_=>none) (DO (s.heap.objs.size+1) scope.names []) (Qb (LZ qual scope s.heap.objs.size f cd).kindOf (ps.zip us) λ_=>none) s1) :
  Inv (cxOf CX P w K mg base N qual scope f cd A outer s H E) [] (start N vs) H s1:=by
 have hpl:ps.length<=N.length:=by have:=congrArg FK S.pre;rw[Cc] at this;lia
 obtain ⟨h1,tk,rfl,hk⟩:=x.done;have noA:∀b:Addr,b∉(cxOf CX P w K mg base N qual scope f cd A outer s H E).ex:=λb z=>absurd (show b∈([]:List Addr) from z) (by simp);refine ⟨⟨e0.mod,S.kind,rfl,rfl,AF _,λy z c h1 h2=>?_,λy hy=>?_,λy c _ h=>?_,λ_=>hd,Around.frames_deeper e0.frames,.inr ⟨rfl,rfl⟩,λb z=>absurd z (noA b),e0.bs,e0.bsz,λb _ _=>noA b,λb z=>absurd z (noA b),e0.funs,e0.frf⟩,
  rfl,e0.bare,Un.kept hk,⟨_,x.toInCall.ns,λi y v h1 h2 h3=>?_⟩,λy c h=>⟨_,x.cell y c h⟩,e0.hok.fresh (AF _),λy c h=>?_,λp hp=>absurd (show p∈([]:List (Addr×Obj)) from hp) (by simp),e0.hok.kept hk,?_⟩
 ·exact name_of_addr x.apart (FI h1) (FI h2)
 ·have hy:scope.names.lookup y=some .cell\/scope.names.lookup y=some .free:=hy
  rcases hy with hy | hy
  ·exact Sy hy
  ·exact absurd rfl (S.nofree _ (FI hy))
 ·exact De (x.above y c (FI h))
 ·have hi:i<vs.length:=by
   unfold start at h2;by_cases hi:i<vs.length
   ·exact hi
   ·rw[Cs (by simpa using hi)] at h2
    rw[K6] at h2;split at h2<;>cases h2
  have ha:vs[i]?=some v:=by
   unfold start at h2;rw[A2 (by simpa using hi),BM] at h2;cases e:vs[i]? with
   | none=>rw[e] at h2;cases h2
   | some a=>rw[e] at h2;cases h2;rfl
  obtain ⟨u,hu,rv⟩:=r.get ha;have hp:ps[i]?=some y:=by
   rw[<- S.pre,KS (by lia)];exact h1
  have ndP:ps.Nodup:=by rw[<- S.pre];exact S.nd.sublist (F7 _ _)
  refine ⟨u,rv,?_⟩;rcases S.par y (BH hp) with k | k
  ·exact .inl ⟨k,Nj ndP hp hu k⟩
  ·obtain ⟨c,e⟩:=Sy (n:=s.heap.objs.size+1) k
   refine .inr ⟨.inl k,c,e,?_⟩;have q:=x.cell y c e;rw[Oq ndP hp hu (by show scope.names.lookup y≠_;rw[k];decide)] at q;exact q
 ·exact e0.hok.fresh (De (x.above y c (FI h)))
 ·unfold start
  show _=N.length;rw[By,AB,LN];lia
theorem ACx{CX:CXT}{P:AM}{w:AT}{K:Au}{mg:Str->Option Ap}{base:Heap}{k:Nat}{f:Addr}{name qual:Str}{params:Arguments}{body:List Stmt}{scope:D3}{dV kV doc pm cdv ct oc:Ap}{an od:Option Addr}
  {osl:Array (Option Ap)}{N ps:List Str}{sp:Sp} (lk:K.lookup f=some ⟨oc,od,.func (A7 name qual params body scope dV kV doc pm an cdv ct),osl⟩) (hcd:A1 K cdv qual=true) (S:FnScope N ps scope)
  (len:∀vs H Q E,sp vs H Q E->vs.length=ps.length)
  (hbody:∀(A:BQ) (outer:List Env) (s:AA) (H:Hp) (vs:List V) (Q:VK) (E:XK),Room k (A.deeper (LZ qual scope s.heap.objs.size f cdv))->sp vs H Q E ->
   ∃t,PSs (cxOf CX P w K mg base N qual scope f cdv A outer s H E) body t/\t {nx:=λ_ H'=>Q .non H',rt:=Q} (start N vs) H) :
  FnOk P w K mg base CX (k+1) f (A7 name qual params body scope dV kV doc pm an cdv ct) ps sp:=by
 refine ⟨len,λA outer s H args us vs Q E hr e0 hb r hsp=>?_⟩;have hl:=len _ _ _ _ hsp;have KX:K.In s.heap:=e0.mod.kin.keeps λb o e=>(e0.bs b o e).1;have lim:s.heap.NoLimit:=e0.mod.nolimit.keeps λb o e=>(e0.bs b o e).1;have hkind:∀y∈ps.zip us,scope.names.lookup y.1=some .local\/(scope.names.lookup y.1=some .cell/\((DO (s.heap.objs.size+1) scope.names []).lookup y.1).isSome=true):=λ⟨n,v⟩ hy=>by
  rcases S.par n (OT hy).1 with q | q
  ·exact .inl q
  ·exact .inr ⟨q,O3 _ _ _ (.inl q)⟩
 refine codeAny_call_function hr.depth (KX _ _ lk) rfl S.co S.gen rfl (PySem.W.codeRec_of KX hcd) (hb _ _ _ _ ?_);refine wpAny_newFunctionEnv_cells S.kind hkind λenv he s1 x=>?_;subst he;refine ⟨lim.keeps x.toInCall.keep,codeAny_func ?_⟩;obtain ⟨t,ht,hq⟩:=hbody A outer s H vs Q E (hr.deeper _) hsp;have I:Inv (cxOf CX P w K mg base N qual scope f cdv A outer s H E) [] (start N vs) H s1:=Ww S hr.hd e0 hl r x;refine Ee (ht [] s1 (start N vs) H _ I hq) (λfl s' hs=>?_) λe s' hs=>hs;have fin:∀{σ':St}{H':Hp}{v:V}{u:Ap},Inv (cxOf CX P w K mg base N qual scope f cdv A outer s H E) [] σ' H' s'->RelV v u->Q v H'->CE outer P w H s Q u s' :=
  λ{σ' H' v u} J rv q=>⟨v,H',J.os,J.bare,J.base,J.hok,rv,q⟩
 cases fl with
 | ret u =>
  obtain ⟨v,σ',H',J,rv,q⟩:=hs;exact fin J rv q
 | next =>
  obtain ⟨σ',H',J,q⟩:=hs;exact fin (v:=V.non) (u:=C1) J rfl q
 | brk =>
  obtain ⟨_,_,_,q⟩:=hs;exact Eg q
 | cont =>
  obtain ⟨_,_,_,q⟩:=hs;exact Eg q
section
variable{X:Cx}{x:Str}{p pos:Pos}{e:Expr}{es:List Expr}{t:TA}{id T:String}{r:List V->Hp->VK->Prop}
def tCB(r:List V->Hp->VK->Prop)(t:TA):TE:=λσ H Q=>t σ H λvs H1=>r vs H1 Q
theorem BK(hc:CallR X (.builtin id) r)(hg:Gl X x)(hm:X.mg x=none)(hv:HU x=some (.builtin id))(ha:PA X (e::es) t)(hn:x≠"__name__":=by decide)(hdb:(x==("__debug__" : Str))=false:=by decide)
  (he:Ct (e::es) X.env=(false,eval e X.env)::Ct es X.env:=by rfl) (hpl:(Hm pos (Ct es X.env)).any (·.1)=false:=by rfl):PE X (.Call (.Name x p) (e::es) [] pos) (tCB r t):=by
 intro pins s σ H Q I h;refine EN (Em I hg hm hv ?_ hn hdb);exact L4 (thn (ha pos pins s σ H _ I h) λus s1 ⟨vs,H1,I1,r1,q1⟩=>hc pins s1 σ H1 vs us Q I1 r1 q1) he hpl
theorem Bk(hc:CallR X (.type T) r)(hg:Gl X x)(hm:X.mg x=none)(hv:HU x=some (.type T))(ha:PA X (e::es) t)(hn:x≠"__name__":=by decide)(hdb:(x==("__debug__" : Str))=false:=by decide)
  (he:Ct (e::es) X.env=(false,eval e X.env)::Ct es X.env:=by rfl) (hpl:(Hm pos (Ct es X.env)).any (·.1)=false:=by rfl):PE X (.Call (.Name x p) (e::es) [] pos) (tCB r t):=by
 intro pins s σ H Q I h;refine EN (Em I hg hm hv ?_ hn hdb);exact D0 (thn (ha pos pins s σ H _ I h) λus s1 ⟨vs,H1,I1,r1,q1⟩=>hc pins s1 σ H1 vs us Q I1 r1 q1) he hpl
end
end L2
namespace HT
open PySem PyProof.Rows
def lexLt:List Int->List Int->Bool
 | [],[]=>false
 | [],_::_=>true
 | _::_,[]=>false
 | x::xs,y::ys=>if x=y then lexLt xs ys else decide (x<y)
theorem Bq(x y:Int)(xs ys:List Int):lexLt (x::xs) (y::ys)=if x=y then lexLt xs ys else decide (x<y):=rfl
theorem MN:lexLt [] []=false:=rfl
theorem Lf(y:Int)(ys:List Int):lexLt [] (y::ys)=true:=rfl
theorem Ld(x:Int)(xs:List Int):lexLt (x::xs) []=false:=rfl
theorem Qx(A:BQ)(s:AA)(a:Int)(t:Tok)(c:Int)(u:Tok):∃e,J8 A s (.int a t) (.int c u) e/\(e=true↔a=c) :=
 ⟨(a==c),M3 a t c u,by simp⟩
theorem Qm(A:BQ)(s:AA)(a:Int)(t:Tok)(c:Int)(u:Tok)(prog:AM)(w:AT)(E:Ap->AA->Prop)(Q:Ap->AA->Prop)(h:Q (.bool (decide (a<c))) s) :
  wpAny (AL prog w) A (richCompare .Lt (.int a t) (.int c u)) Q E s :=
 (X0 h:wpAny (AL prog w) A (DA .Lt (.int a t) (.int c u)) Q E s)
section
open PySem.SeqAt
open PySem.AutoSeq1 (wpAny_loadPart')
open PySem.MeetsSeq PySem.MeetsSeq2 PySem.MeetsSeq3
theorem MK(l b:Addr)(items items2:Array Ap)(n n2:Nat)(dd dd2:Option Addr)(sl sl2:Array (Option Ap))(ns ms:List Int)(hi:Ff items.toList ns)(hj:Ff items2.toList ms) :
  Meets (Builtin.«tuple.__lt__» ⟨[.ref l,.ref b],[]⟩)
   (λ_ R s=>s.heap.get? l=some {cls:=.type "tuple",dict:=dd,data:=.seq items n,slots:=sl}/\s.heap.get? b=some {cls:=.type "tuple",dict:=dd2,data:=.seq items2 n2,slots:=sl2} /\
    R (.ok (.ret (.bool (lexLt ns ms)))) s) :=
 .of_wp λprog w A R s h=>by
  obtain ⟨hp,g,d,tk,os⟩:=s;obtain ⟨hl,hb,h⟩:=h;have f2:=Op;have z1:items.size=ns.length:=by rw[<- hi.length];simp
  have z2:items2.size=ms.length:=by rw[<- hj.length];simp
  wp_walk using wpAny_loadPart' hl,wpAny_loadPart' hb,E6 _ (λrest b s'=>b.1=none/\s'=⟨hp,g,d,tk,os⟩/\∃(vs ws:List Ap) (ns' ms':List Int),rest=vs.zip ws /\
   Ff vs ns'/\Ff ws ms'/\ns'.length+items2.size=ms'.length+items.size/\R (.ok (.ret (.bool (lexLt ns' ms')))) ⟨hp,g,d,tk,os⟩) _
  case turn =>
   rintro⟨y,x⟩ rest b s' ⟨hb',rfl,vs,ws,ns',ms',hz,hvi,hwi,hlen,hR⟩;cases hvi with
   | nil=>rw[List.zip_nil_left] at hz;cases hz
   | cons a t hvi' =>
    cases hwi with
    | nil=>rw[List.zip_nil_right] at hz;cases hz
    | cons c u hwi' =>
     rw[RO] at hz;injection hz with hyx hrest
     injection hyx with hy hx
     subst hy hx;rw[Bq] at hR;simp only[Dx] at hlen;obtain ⟨e,he,hiff⟩:=Qx A.in1 ⟨hp,g,d,tk,os⟩ a t c u;refine As (he prog w _ _ ?_);cases e with
     | true =>
      rw[if_pos (hiff.mp rfl)] at hR
      wp_walk
      exact ⟨rfl,rfl,_,_,_,_,hrest,hvi',hwi',by lia,hR⟩
     | false =>
      rw[if_neg (λq=>absurd (hiff.mpr q) Be)] at hR;have hri:=Qm A.in1 ⟨hp,g,d,tk,os⟩ a t c u prog w
      wp_walk using hri
      exact ⟨_,rfl,by simpa using hR⟩
  case fin =>
   rintro⟨b1,b2⟩ s' ⟨hb',rfl,vs,ws,ns',ms',hz,hvi,hwi,hlen,hR⟩;simp only at hb';subst hb';have hv:lexLt ns' ms'=decide (items.size<items2.size):=by
    cases hvi with
    | nil =>
     cases hwi with
     | nil =>
      simp only[G9] at hlen;rw[MN];exact (decide_eq_false (by lia)).symm
     | cons c u hw =>
      simp only[G9,Dx] at hlen;rw[Lf];exact (decide_eq_true (by lia)).symm
    | cons a t hv =>
     cases hwi with
     | nil =>
      simp only[G9,Dx] at hlen;rw[Ld];exact (decide_eq_false (by lia)).symm
     | cons c u hw =>
      rw[RO] at hz;cases hz
   rw[hv] at hR
   wp_walk
   exact ⟨_,rfl,by simpa [LV] using hR⟩
  case h =>
   exact ⟨rfl,rfl,items.toList,items2.toList,ns,ms,rfl,hi,hj,by lia,h⟩
end
section
variable{prog:AM}{w:AT}{A:BQ}{E:Ap->AA->Prop}{s:AA}
theorem Vh{l b:Addr}{items items2:Array Ap}{ns ms:List Int}{Q:Ap->AA->Prop}(hl:OR s.heap l items)(hb:OR s.heap b items2)(hi:Ff items.toList ns)(hj:Ff items2.toList ms)
  (hu:A.units<C2) (h:Q (.bool (lexLt ns ms)) s):wpAny (AL prog w) A (DA .Lt (.ref l) (.ref b)) Q E s:=by
 obtain ⟨⟨cls,dd,data,sl⟩,ho,hc,n,hd⟩:=id hl;obtain ⟨⟨cls2,dd2,data2,sl2⟩,ho2,hc2,n2,hd2⟩:=id hb;simp only at hc hd hc2 hd2;subst hc hd hc2 hd2;exact O4 (op:=.Lt) ⟨_,ho,rfl⟩ ⟨_,ho2,rfl⟩ Ps O5 (OI _ _) (MK l b items items2 n n2 dd dd2 sl sl2 ns ms hi hj)
  ⟨ho,ho2,show G1 (lexLt ns ms)≠L5/\Q (.bool (lexLt ns ms)) s from⟨(λx=>nomatch x),h⟩⟩ hu
def sIx(n d:Nat):Option Int->Nat
 | none=>d
 | some v=>if v<0 then (v+(n:Int)).toNat else min v.toNat n
theorem Qq(n d:Nat):sIx n d none=d:=rfl
theorem Wm(n d k:Nat):sIx n d (some (k:Int))=min k n:=by
 show (if (k:Int)<0 then ((k:Int)+(n:Int)).toNat else min (k:Int).toNat n)=min k n;rw[if_neg (by lia),C9]
theorem ADy(n d:Nat)(hd:d<=n)(o:Option Int):sIx n d o<=n:=by
 cases o with
 | none=>exact hd
 | some v =>
  show (if v<0 then (v+(n:Int)).toNat else min v.toNat n)<=n;by_cases hv:v<0
  ·rw[if_pos hv];lia
  ·rw[if_neg hv];exact Nat.min_le_right _ _
theorem Vv(v:Int)(n d:Nat):(if v<0 then max (v+(n:Int)) 0 else min v (n:Int))=((sIx n d (some v):Nat):Int):=by
 show (if v<0 then max (v+(n:Int)) 0 else min v (n:Int))=(((if v<0 then (v+(n:Int)).toNat else min v.toNat n):Nat):Int);by_cases hv:v<0
 ·simp only[if_pos hv];lia
 ·simp only[if_neg hv];lia
theorem VR(lo hi:Option Int)(n:Nat):KF lo hi 1 (n:Int)=(((sIx n 0 lo:Nat):Int),((sIx n n hi:Nat):Int)):=by
 have h1:¬ ((1:Int)<0):=by lia
 unfold KF;simp only[h1,if_false];refine J9 ?_ ?_
 ·cases lo with
  | none=>rfl
  | some v=>exact Vv v n 0
 ·cases hi with
  | none=>rfl
  | some v=>exact Vv v n n
theorem Vd(i j:Nat):HI (i:Int) (j:Int) 1=j-i:=by
 unfold HI;have h1:(1:Int)>0:=by lia
 simp only[h1,if_true,WS];split<;>lia
theorem Ly{v:Ap}{o:Option Int}{Q:Option Int->AA->Prop}(p:Os v o)(h:Q o s):wpAny (AL prog w) A (US v) Q E s:=by
 cases p with
 | none=>exact UT h
 | int i t=>exact slicePart_int h
theorem JW{sl:Addr}{vl vu:Ap}{lo hi:Option Int}{n:Nat}{Q:Int×Int×Nat->AA->Prop}(hs:s.heap.IsSliceOf sl vl vu .none)(pl:Os vl lo)(pu:Os vu hi)
  (h:Q (((sIx n 0 lo:Nat):Int),1,sIx n n hi-sIx n 0 lo) s):wpAny (AL prog w) A (Nl (.ref sl) (pure (n:Int))) Q E s:=by
 obtain ⟨os,hos,hcs,hds⟩:=id hs;unfold Nl V9;refine As (As (Kt hos hds (x:=vl) rfl (As (Kt hos hds (x:=vu) rfl (As (Kt hos hds (x:=.none) rfl (wpAny_pure ?_)))))));refine As (UT ?_);show wpAny _ _ (if ((1:Int)==0)=true then _ else _) _ _ s;rw[if_neg (by decide)];refine As (Ly pl (As (Ly pu (As (wpAny_pure ?_)))));show wpAny _ _ (match KF lo hi 1 (n:Int) with | (lo,hi)=>pure (lo,(1:Int),HI lo hi 1)) _ _ s;rw[VR lo hi n];show wpAny _ _ (pure (((sIx n 0 lo:Nat):Int),(1:Int),HI ((sIx n 0 lo:Nat):Int) ((sIx n n hi:Nat):Int) 1)) _ _ s;rw[Vd];exact wpAny_pure h
theorem AAi(xs:Array Ap)(i k:Nat):((AZ k).filterMap λ(m:Nat)=>xs[((i:Int)+(m:Int)*1).toNat]?).toArray=((xs.toList.drop i).take k).toArray:=by
 have e:(λ(m:Nat)=>xs[((i:Int)+(m:Int)*1).toNat]?)=λm=>xs[i+m]?:=by
  funext m
  have:((i:Int)+(m:Int)*1).toNat=i+m:=by lia
  rw[this]
 rw[e];have:=pick_run xs i k;rw[List.filterMap_map] at this;have e2:((λx=>xs[x]?) ∘ λx=>i+x)=λm=>xs[i+m]?:=rfl;rw[e2] at this;rw[this]
theorem Ia{t sl:Addr}{items:Array Ap}{vl vu:Ap}{lo hi:Option Int}{Q:Ap->AA->Prop}(ht:OR s.heap t items)(hs:s.heap.IsSliceOf sl vl vu .none)(pl:Os vl lo)(pu:Os vu hi)
  (hw:¬ (sIx items.size 0 lo=0/\sIx items.size items.size hi=items.size))
  (h:Q (.ref s.heap.objs.size) {s with heap:=s.heap.push {cls:=.type "tuple",data:=.seq ((items.toList.drop (sIx items.size 0 lo)).take (sIx items.size items.size hi-sIx items.size 0 lo)).toArray}})
  (hsz:items.size<=sizeLine):wpAny (AL prog w) A (LO (.ref t) (.ref sl)) Q E s:=by
 have htake:sizeOk (.seq ((items.toList.drop (sIx items.size 0 lo)).take (sIx items.size items.size hi-sIx items.size 0 lo)).toArray):=by
  show ((items.toList.drop (sIx items.size 0 lo)).take (sIx items.size items.size hi-sIx items.size 0 lo)).toArray.size<=sizeLine;rw[A9,Cc,GV,AU];lia
 have hj:sIx items.size items.size hi<=items.size:=ADy _ _ (AF _) hi;obtain ⟨os,hos,hcs,hds⟩:=id hs;have hTs:s.TypeIs (.ref sl) "slice":=⟨os,hos,hcs⟩;unfold LO
 try with_reducible refine EU ?_
 first | refine As (wpAny_pure ?_) | skip
 refine As (wpAny_sequenceKey ht.typeIs (by decide) ?_);refine As (wpAny_callSpecial?_slot (name:=HV "__getitem__") ht.typeIs IE
  (DE IE ht.typeIs entry_tuple_getitem ?_ (args_tuple_getitem _ _)))
 show wpAny _ _ (Nn (.ref t) >>= _) _ _ s;refine As (tupleItemsOf_ ht ?_);refine As (KU hTs ?_);rw[if_pos (by decide)];refine As (JW hs pl pu ?_);have hno:¬ ((((sIx items.size 0 lo:Nat):Int)==0&&(1:Int)==1&&(sIx items.size items.size hi-sIx items.size 0 lo)==items.size)=true):=by
  intro q;rw[DF,DF] at q;have q1:((sIx items.size 0 lo:Nat):Int)=0:=eq_of_beq q.1.1;have q2:sIx items.size items.size hi-sIx items.size 0 lo=items.size:=eq_of_beq q.2;exact hw ⟨by lia,by lia⟩
 show wpAny _ _ (if (((sIx items.size 0 lo:Nat):Int)==0&&(1:Int)==1&&(sIx items.size items.size hi-sIx items.size 0 lo)==items.size)=true then _ else _) _ _ s;rw[if_neg hno,AAi]
 first
  | exact As (m:=DU _) (CH (wpAny_pure ⟨_,rfl,wpAny_pure h⟩) htake)
  | exact As (m:=DU _) (CH (As (wpAny_pure (wpAny_pure ⟨_,rfl,wpAny_pure h⟩))) htake)
  | exact As (As (m:=DU _) (CH (wpAny_pure (wpAny_pure ⟨_,rfl,wpAny_pure h⟩)) htake))
  | exact As (As (m:=DU _) (CH (wpAny_pure ⟨_,rfl,wpAny_pure h⟩) htake))
end
end HT
namespace L2
open PySem PySem.Spec PyProof.Rows
abbrev TO:=St->Hp->(Option Int->Hp->Prop)->Prop
def PO(X:Cx)(e:Option Expr)(t:TO):Prop :=
 ∀(pins:List (Addr×Obj)) (s:AA) (σ:St) (H:Hp) (Q:Option Int->Hp->Prop),Inv X pins σ H s->t σ H Q ->
  wpAny (AL X.prog X.w) X.A (evalPart e X.env) (λu s'=>∃o H',Inv X pins σ H' s'/\Os u o/\Q o H') X.xe s
def ABX:TO:=λ_ H Q=>Q none H
def AFI(t:TE):TO:=λσ H Q=>t σ H λx H1=>∃i,x=.int i/\Q (some i) H1
theorem intsAre_of{ns:List Int}:∀{us:List Ap},Vals (ns.map V.int) us->Ff us ns:=by
 induction ns with
 | nil=>intro us r;rw[Oy] at r;cases r;exact .nil
 | cons n ns ih =>
  intro us r;rw[B5] at r;cases r with
  | cons r1 r2 =>
   obtain ⟨t,e⟩:=r1;subst e;exact .cons n t (ih r2)
section
variable{X:Cx}{e:Expr}{te:TE}{lo hi:Option Expr}{tl th:TO}{pos p2:Pos}
theorem Jr:PO X none ABX:=by
 intro pins s σ H Q I h;rw[evalPart_none];exact wpAny_pure ⟨none,H,I,.none,h⟩
theorem Gu(h:PE X e te):PO X (some e) (AFI te):=by
 intro pins s σ H Q I hw;rw[evalPart_some];refine thn (h pins s σ H _ I hw) λu s1 ⟨x,H1,I1,r1,q1⟩=>?_;obtain ⟨i,rfl,q⟩:=q1;obtain ⟨t,rfl⟩:=r1;exact ⟨some i,H1,I1,.int i t,q⟩
def SlR(X:Cx)(r:V->Option Int->Option Int->Hp->VK->Prop):Prop :=
 ∀(pins:List (Addr×Obj)) (s:AA) (σ:St) (H:Hp) (x:V) (v vl vu:Ap) (lo hi:Option Int) (sl:Addr) (Q:VK),Inv X pins σ H s->RelV x v->s.heap.IsSliceOf sl vl vu .none->Os vl lo->Os vu hi->r x lo hi H Q ->
  ∃T id,typeLookup (.type T) "__getitem__" = pure (some (.builtin id))/\s.TypeIs v T/\wpAny (AL X.prog X.w) X.A (LO v (.ref sl)) (EP X pins σ Q) X.xe s
def tSl(r:V->Option Int->Option Int->Hp->VK->Prop)(te:TE)(tl th:TO):TE:=λσ H Q=>te σ H λx H1=>tl σ H1 λl H2=>th σ H2 λu H3=>r x l u H3 Q
theorem GZ{r:V->Option Int->Option Int->Hp->VK->Prop}(hr:SlR X r)(he:PE X e te)(hl:PO X lo tl)(hu:PO X hi th):PE X (.Subscript e (.Slice lo hi none p2) pos) (tSl r te tl th):=by
 intro pins s σ H Q I h;refine TL (thn (he pins s σ H _ I h) λv s1 ⟨x,H1,I1,r1,q1⟩=>?_);refine wpAny_Slice (thn (hl pins s1 σ H1 _ I1 q1) λvl s2 ⟨l,H2,I2,pl,q2⟩=>thn (hu pins s2 σ H2 _ I2 q2) λvu s3 ⟨u,H3,I3,pu,q3⟩=>?_);rw[evalPart_none];refine wpAny_pure ?_;have I4:Inv X pins σ H3 {s3 with heap:=s3.heap.push {cls:=.type "slice",data:=.fields #[vl,vu,.none]}}:=I3.kept (t':=s3.toks) λb ob q=>AD _ q;obtain ⟨T,id,hT,ht,hg⟩:=hr pins {s3 with heap:=s3.heap.push {cls:=.type "slice",data:=.fields #[vl,vu,.none]}} σ H3 x v vl vu l u s3.heap.objs.size Q I4 r1 (X3 ..) pl pu q3;show wpAny (AL X.prog X.w) X.A (Q0 e (.Slice lo hi none p2) v (.ref s3.heap.objs.size)) (EP X pins σ Q) X.xe {s3 with heap:=s3.heap.push {cls:=.type "slice",data:=.fields #[vl,vu,.none]}};exact tail_any (ops:=[.ref s3.heap.objs.size,v]) ht hT hg (by with_unfolding_all rfl)
def cutV(xs:List V)(lo hi:Option Int):List V:=(xs.drop (HT.sIx xs.length 0 lo)).take (HT.sIx xs.length xs.length hi-HT.sIx xs.length 0 lo)
theorem Jj(xs:List V)(lo hi:Option Int):(cutV xs lo hi).length<=xs.length:=by
 unfold cutV;rw[Cc,GV];lia
def rSlT(K:Au):V->Option Int->Option Int->Hp->VK->Prop:=λx lo hi H Q=>∃a xs,x=.ref a/\SqT K H a xs /\
 ¬ (HT.sIx xs.length 0 lo=0/\HT.sIx xs.length xs.length hi=xs.length)/\∀p,H p=none->Q (.ref p) (upd H p (.tup (cutV xs lo hi)))
theorem ADp:SlR X (rSlT X.K):=by
 intro pins s σ H x v vl vu lo hi sl Q I rx hs pl pu h;obtain ⟨a,xs,rfl,hx,hw,q⟩:=h;cases rx;obtain ⟨its,r,ht,hz⟩:=I.tuple hx;have hlen:its.toArray.size=xs.length:=by rw[A9];exact r.length.symm
 refine ⟨"tuple",_,IE.lookup,ht.typeIs,?_⟩;refine HT.Ia ht hs pl pu (by rw[hlen];exact hw) ?_ (by rw[hlen];exact hz);rw[hlen];refine ⟨.ref s.heap.objs.size,_,I.laid (t':=s.toks) (o:=.tup (cutV xs lo hi)) (λb ob q=>AD _ q) (AF _) ?_,rfl,q _ (I.hok.fresh (AF _))⟩;exact ⟨CF (Jj xs lo hi) hz,_,(r.drop (HT.sIx xs.length 0 lo)).take (HT.sIx xs.length xs.length hi-HT.sIx xs.length 0 lo),X4 _ _⟩
end
def ixN(n:Nat)(i:Int):Option Nat:=if 0<=i then (if i<n then some i.toNat else none) else if -(n:Int)<=i then some (i+n).toNat else none
def atI{α:Type}(xs:List α)(i:Int):Option α:=(ixN xs.length i).bind λj=>xs[j]?
theorem ABp{n:Nat}{i:Int}{j:Nat}(h:ixN n i=some j):seqIndex? i n=some j/\j<n/\-(n:Int)<=i/\i<n:=by
 unfold ixN at h;by_cases h0:0<=i
 ·rw[if_pos h0] at h
  by_cases h1:i<n
  ·rw[if_pos h1] at h
   have e:i.toNat=j:=BY h;exact ⟨by rw[seqIndex_of h0 h1,e],by lia,by lia,h1⟩
  ·rw[if_neg h1] at h;cases h
 ·rw[if_neg h0] at h
  by_cases h1:-(n:Int)<=i
  ·rw[if_pos h1] at h
   have e:(i+n).toNat=j:=BY h;exact ⟨by rw[seqIndex_neg (by lia) h1,e],by lia,h1,by lia⟩
  ·rw[if_neg h1] at h;cases h
theorem atI_get{α:Type}{xs:List α}{i:Int}{v:α}(h:atI xs i=some v):∃j,seqIndex? i xs.length=some j/\xs[j]?=some v/\j<xs.length/\-(xs.length:Int)<=i/\i<xs.length:=by
 unfold atI at h;cases e:ixN xs.length i with
 | none=>rw[e] at h;cases h
 | some j =>
  rw[e] at h;obtain ⟨h1,h2,h3,h4⟩:=ABp e;exact ⟨j,h1,h,h2,h3,h4⟩
theorem Bl{α:Type}{xs:List α}{j:Nat}{v:α}(h:xs[j]?=some v):atI xs (j:Int)=some v:=by
 have hj:j<xs.length:=(AJ.mp h).1;have e:ixN xs.length (j:Int)=some j:=by
  unfold ixN;rw[if_pos (by lia),if_pos (by lia)];simp
 unfold atI;rw[e];exact h
def ABi(b:Expr):Prop:=∀o i,O6 b false o i=operate [o,i] (LO o i)
def IxR(X:Cx)(r:R2):Prop :=
 ∀(value slice:Expr) (pins:List (Addr×Obj)) (s:AA) (σ:St) (H:Hp) (x y:V) (v u:Ap) (Q:VK),Inv X pins σ H s->RelV x v->RelV y u->r x y H Q ->
  O6 slice false v u=operate [v,u] (LO v u)->wpAny (AL X.prog X.w) X.A (Q0 value slice v u) (EP X pins σ Q) X.xe s
def MtR(X:Cx)(id:String)(r:V->List V->Hp->VK->Prop):Prop :=
 ∀(pins:List (Addr×Obj)) (s:AA) (σ:St) (H:Hp) (x:V) (xs:List V) (v:Ap) (us:List Ap) (Q:VK),Inv X pins σ H s->RelV x v->Vals xs us->r x xs H Q ->
  wpAny (AL X.prog X.w) X.A (call (.builtin id) (v::us)) (EP X pins σ Q) X.xe s
section
variable{X:Cx}{a b:Expr}{ta tb:TE}{pos:Pos}
theorem Bc{r:R2}(hr:IxR X r)(ha:PE X a ta)(hb:PE X b tb)(hs:ABi b):PE X (.Subscript a b pos) (tOp r ta tb):=by
 intro pins s σ H Q I h;exact TL (binT ha hb I h λv u s2 x y H2 I2 rx ry q=>hr a b pins s2 σ H2 x y v u Q I2 rx ry q (hs _ _))
def rIxL(K:Au):R2:=λx y H Q=>E4 λp xs i v=>A5 (x=.ref p) (y=.int i) (SqL K H p xs) (atI xs i=some v) (Q v H)
def rIxT(K:Au):R2:=λx y H Q=>E4 λp xs i v=>A5 (x=.ref p) (y=.int i) (SqT K H p xs) (atI xs i=some v) (Q v H)
theorem Bm:IxR X (rIxL X.K):=by
 intro value slice pins s σ H x y v u Q I rx ry h hs;obtain ⟨p,xs,i,z,rfl,rfl,hq,he,q⟩:=h;cases rx;obtain ⟨t,rfl⟩:=ry;obtain ⟨its,r,pl,hz⟩:=I.list hq;obtain ⟨j,h1,h2,h3,h4,h5⟩:=atI_get he;obtain ⟨w,ew,rw'⟩:=r.get h2;have hl:=r.length;have hn:=line63;have fin:EP X pins σ Q w s:=⟨z,H,I,rw',q⟩;by_cases h0:0<=i
 ·have hj:i.toNat=j:=by
   rw[seqIndex_of h0 h5] at h1;exact BY h1
  exact item_listR pl.isList h0 (by lia) (by rw[hj];simpa using ew) fin hs
 ·have hj:(i+(its.toArray.size:Int)).toNat=j:=by
   rw[seqIndex_neg (by lia) h4] at h1;rw[A9,<- hl];exact BY h1
  exact O7 (x:=w) pl.isList.typeIs SE.lookup
   (wpAny_getItem_list_neg (Q:=λr s'=>r=w/\EP X pins σ Q r s') pl.isList (by lia) (by rw[A9]<;>lia) (by lia) (by rw[hj];simpa using ew) ⟨rfl,fin⟩) hs
theorem Dn:IxR X (rIxT X.K):=by
 intro value slice pins s σ H x y v u Q I rx ry h hs;obtain ⟨p,xs,i,z,rfl,rfl,hq,he,q⟩:=h;cases rx;obtain ⟨t,rfl⟩:=ry;obtain ⟨its,r,pl,hz⟩:=I.tuple hq;obtain ⟨j,h1,h2,h3,h4,h5⟩:=atI_get he;obtain ⟨w,ew,rw'⟩:=r.get h2;have hl:=r.length;have hn:=line63;have fin:EP X pins σ Q w s:=⟨z,H,I,rw',q⟩;exact O7 (x:=w) pl.typeIs slot_tuple_getitem.lookup
  (getItem_tuple (j:=j) (Q:=λr s'=>r=w/\EP X pins σ Q r s') pl (by lia) (by lia) (by rw[A9,<- hl];exact h1) (by simpa using ew) ⟨rfl,fin⟩) hs
theorem QZ(lo hi:Option Int)(n:Nat):(Kx lo hi none n).1=((HT.sIx n 0 lo:Nat):Int)/\(Kx lo hi none n).2.1=((HT.sIx n n hi:Nat):Int)/\(Kx lo hi none n).2.2=1:=by
 refine ⟨?_,?_,rfl⟩
 ·cases lo with
  | none=>simp[Kx,HT.sIx]
  | some i =>
   simp only[Kx,HT.sIx,Tb,show (1:Int)>0 by decide,if_true];by_cases h:i<0
   ·simp only[h,if_true]<;>lia
   ·simp only[h,if_false]<;>lia
 ·cases hi with
  | none=>simp[Kx,HT.sIx]
  | some i =>
   simp only[Kx,HT.sIx,Tb,show (1:Int)>0 by decide,if_true];by_cases h:i<0
   ·simp only[h,if_true]<;>lia
   ·simp only[h,if_false]<;>lia
theorem Mh(its:List Ap)(lo hi:Option Int):slicePick its.toArray lo hi none=((its.drop (HT.sIx its.length 0 lo)).take (HT.sIx its.length its.length hi-HT.sIx its.length 0 lo)).toArray:=by
 obtain ⟨h1,h2,h3⟩:=QZ lo hi its.toArray.size;unfold slicePick;rw[h1,h2,h3];simp only[sliceRange_one,pick_run,A9]<;>rfl
def rSlL(K:Au):V->Option Int->Option Int->Hp->VK->Prop:=λx lo hi H Q=>E2 λa xs=>A3 (x=.ref a) (SqL K H a xs) (∀p,H p=none->Q (.ref p) (upd H p (.lst (cutV xs lo hi))))
theorem Ju:SlR X (rSlL X.K):=by
 intro pins s σ H x v vl vu lo hi sl Q I rx hs pl pu h;obtain ⟨a,xs,rfl,hx,q⟩:=h;cases rx;obtain ⟨its,r,ht,hz⟩:=I.list hx;have hlen:=r.length;refine ⟨"list",_,SE.lookup,ht.isList.typeIs,?_⟩;refine wpAny_getItem_list_slice ht.isList hs pl pu .none (by simp) ?_ (by rw[A9]<;>lia);rw[Mh,<- hlen];refine ⟨.ref s.heap.objs.size,_,I.laid (t':=s.toks) (o:=.lst (cutV xs lo hi)) (λb ob q=>AD _ q) (AF _) ?_,rfl,q _ (I.hok.fresh (AF _))⟩;exact ⟨CF (Jj xs lo hi) hz,_,0,(r.drop (HT.sIx xs.length 0 lo)).take (HT.sIx xs.length xs.length hi-HT.sIx xs.length 0 lo),AN _ rfl⟩
def flatV:V->Bool
 | .non=>true
 | .bl _=>true
 | .int _=>true
 | .str _=>true
 | _=>false
def eqV:V->V->Bool
 | .non,.non=>true
 | .bl a,.bl b=>a==b
 | .bl a,.int b=>(if a then 1 else 0)==b
 | .int a,.bl b=>a==(if b then 1 else 0)
 | .int a,.int b=>a==b
 | .str a,.str b=>a==b
 | _,_=>false
theorem AEP{A:BQ}{s:AA}{y x:V}{u v:Ap}(ry:RelV y u)(rx:RelV x v)(fy:flatV y=true)(fx:flatV x=true):J8 A s u v (eqV y x):=by
 cases y with
 | non =>
  cases ry;cases x with
  | non=>cases rx;exact TN _
  | bl b=>cases rx;exact SeqAt.EqAt.none_bool b
  | int b=>obtain ⟨t,rfl⟩:=rx;exact SeqAt.EqAt.none_int b t
  | str b=>obtain ⟨t,rfl⟩:=rx;exact SeqAt.EqAt.none_str b t
  | _=>exact absurd (show false=true from fx) Be
 | bl a =>
  cases ry;cases x with
  | non=>cases rx;exact SeqAt.EqAt.bool_none a
  | bl b=>cases rx;exact Qr a b
  | int b=>obtain ⟨t,rfl⟩:=rx;exact SeqAt.EqAt.bool_int a b t
  | str b=>obtain ⟨t,rfl⟩:=rx;exact SeqAt.EqAt.bool_str a b t
  | _=>exact absurd (show false=true from fx) Be
 | int a =>
  obtain ⟨t',rfl⟩:=ry;cases x with
  | non=>cases rx;exact SeqAt.EqAt.int_none a t'
  | bl b=>cases rx;exact SeqAt.EqAt.int_bool a t' b
  | int b=>obtain ⟨t,rfl⟩:=rx;exact M3 a t' b t
  | str b=>obtain ⟨t,rfl⟩:=rx;exact Re a t' b t
  | _=>exact absurd (show false=true from fx) Be
 | str a =>
  obtain ⟨t',rfl⟩:=ry;cases x with
  | non=>cases rx;exact SeqAt.EqAt.str_none a t'
  | bl b=>cases rx;exact SeqAt.EqAt.str_bool a t' b
  | int b=>obtain ⟨t,rfl⟩:=rx;exact Rl a t' b t
  | str b=>obtain ⟨t,rfl⟩:=rx;exact SeqAt.EqAt.str_str a t' b t
  | _=>exact absurd (show false=true from fx) Be
 | _=>exact absurd (show false=true from fy) Be
def eqU(x:V)(u:Ap):Bool:=match u with
 | .none=>eqV .non x
 | .bool b=>eqV (.bl b) x
 | .int i _=>eqV (.int i) x
 | .str z _=>eqV (.str z) x
 | _=>false
theorem AAd{x y:V}{u:Ap}(r:RelV y u)(f:flatV y=true):eqU x u=eqV y x:=by
 cases y with
 | non=>cases r;rfl
 | bl b=>cases r;rfl
 | int i=>obtain ⟨t,rfl⟩:=r;rfl
 | str z=>obtain ⟨t,rfl⟩:=r;rfl
 | _=>exact absurd (show false=true from f) Be
theorem Iv{x:V}:∀{xs:List V}{us:List Ap},Vals xs us->xs.all flatV=true->us.any (eqU x)=xs.any λy=>eqV y x
 | _,_,.nil,_=>rfl
 | y::xs,u::us,.cons r t,f=>by
  rw[VA,DF] at f;rw[II,II,AAd r f.1,Iv t f.2]
theorem Gb{A:BQ}{s:AA}{x:V}{v:Ap}(rx:RelV x v)(fx:flatV x=true):∀{xs:List V}{us:List Ap},Vals xs us->xs.all flatV=true->∀u∈us,J8 A s u v (eqU x u)
 | _,_,.nil,_=>λu hu=>by cases hu
 | y::xs,u::us,.cons r t,f=>λu' hu=>by
  rw[VA,DF] at f;rcases AX.mp hu with rfl | hu
  ·rw[AAd r f.1];exact AEP r rx f.1 fx
  ·exact Gb rx fx t f.2 u' hu
def inV(x:V)(xs:List V):Bool:=xs.any λy=>eqV y x
def rIn(K:Au)(neg:Bool):R2:=λx y H Q=>E2 λp xs=>A5 (y=.ref p) ((SqL K H p xs\/SqT K H p xs)) (flatV x=true) (xs.all flatV=true) (Q (.bl (if neg then !inV x xs else inV x xs)) H)
theorem Oo:OpR X (DA .In) (rIn X.K false):=by
 intro pins s σ H x y v u Q I rx ry h;obtain ⟨p,xs,rfl,hq,fx,fs,q⟩:=h;cases ry;rcases hq with hq | hq
 ·obtain ⟨its,r,pl,hz⟩:=I.list hq
  refine TR (eqU x) pl.isList (λw hw=>Gb rx fx r fs w (by simpa using hw)) ⟨.bl _,H,I,rfl,?_⟩;rw[show its.toArray.any (eqU x)=its.any (eqU x) by simp,Iv r fs];exact q
 ·obtain ⟨its,r,pl,hz⟩:=I.tuple hq
  refine Th (eqU x) pl (λw hw=>Gb rx fx r fs w (by simpa using hw)) ⟨.bl _,H,I,rfl,?_⟩;rw[show its.toArray.any (eqU x)=its.any (eqU x) by simp,Iv r fs];exact q
theorem Pq:OpR X (DA .NotIn) (rIn X.K true):=by
 intro pins s σ H x y v u Q I rx ry h;obtain ⟨p,xs,rfl,hq,fx,fs,q⟩:=h;cases ry;rcases hq with hq | hq
 ·obtain ⟨its,r,pl,hz⟩:=I.list hq
  refine RR (eqU x) pl.isList (λw hw=>Gb rx fx r fs w (by simpa using hw)) ⟨.bl _,H,I,rfl,?_⟩;rw[show its.toArray.any (eqU x)=its.any (eqU x) by simp,Iv r fs];exact q
 ·obtain ⟨its,r,pl,hz⟩:=I.tuple hq
  refine Q6 (eqU x) pl (λw hw=>Gb rx fx r fs w (by simpa using hw)) ⟨.bl _,H,I,rfl,?_⟩;rw[show its.toArray.any (eqU x)=its.any (eqU x) by simp,Iv r fs];exact q
theorem BZ:CallR X (.builtin "len") (λxs H Q=>∃p ys,xs=[.ref p]/\(SqL X.K H p ys\/SqT X.K H p ys)/\Q (.int ys.length) H):=by
 intro pins s σ H xs us Q I r h;obtain ⟨p,ys,rfl,hq,q⟩:=h;obtain ⟨u,rfl,rx⟩:=vals1 r;cases rx;have hn:=line63;rcases hq with hq | hq
 ·obtain ⟨its,r',pl,hz⟩:=I.list hq
  have hlen:=r'.length;exact Calls.call_len_list pl.isList (by simp only[A9]<;>lia) ⟨.int ys.length,H,I.tok _,⟨s.toks+1,by rw[A9,hlen]⟩,q⟩
 ·obtain ⟨its,r',pl,hz⟩:=I.tuple hq
  have hlen:=r'.length;exact len_tuple pl (by simp only[A9]<;>lia) ⟨.int ys.length,H,I.tok _,⟨s.toks+1,by rw[A9,hlen]⟩,q⟩
theorem Fb:CallR X (.type "list") (λxs H Q=>∃p ys,xs=[.ref p]/\(SqL X.K H p ys\/SqT X.K H p ys)/\∀l,H l=none->Q (.ref l) (upd H l (.lst ys))):=by
 intro pins s σ H xs us Q I r h;obtain ⟨p,ys,rfl,hq,q⟩:=h;obtain ⟨u,rfl,rx⟩:=vals1 r;cases rx;have fin:∀(its:List Ap),Vals ys its->ys.length<=sizeLine->∀(h':Heap) (c':Nat),(∀b o',s.heap.get? b=some o'->h'.get? b=some o') ->
   h'.get? s.heap.objs.size=some {cls:=.type "list",dict:=none,data:=.seq its.toArray c',slots:=#[]}->EP X pins σ Q (.ref s.heap.objs.size) {s with heap:=h'}:=λits r' hz h' c' kp e =>
  ⟨.ref s.heap.objs.size,_,I.laid (t':=s.toks) kp (AF _) (show ObjOk X.prog X.w _ h' _ (.lst ys) from⟨hz,its,c',r',e⟩),rfl,q _ (I.hok.fresh (AF _))⟩
 rcases hq with hq | hq
 ·obtain ⟨its,r',pl,hz⟩:=I.list hq
  have hlen:=r'.length;obtain ⟨o,ho,hc,n,hd⟩:=pl.isList;exact call_list_seq p (.inl rfl) ho hc hd (λh' c' kp e=>fin its r' hz h' c' kp e) (by simp only[A9]<;>lia)
 ·obtain ⟨its,r',pl,hz⟩:=I.tuple hq
  have hlen:=r'.length;obtain ⟨o,ho,hc,n,hd⟩:=pl;exact call_list_seq p (.inr rfl) ho hc hd (λh' c' kp e=>fin its r' hz h' c' kp e) (by simp only[A9]<;>lia)
theorem Ce:CallR X (.type "tuple") (λxs H Q=>∃p ys,xs=[.ref p]/\((SqL X.K H p ys/\∀l,H l=none->Q (.ref l) (upd H l (.tup ys)))\/(SqT X.K H p ys/\Q (.ref p) H))):=by
 intro pins s σ H xs us Q I r h;obtain ⟨p,ys,rfl,h⟩:=h;obtain ⟨u,rfl,rx⟩:=vals1 r;cases rx;rcases h with⟨hq,q⟩ | ⟨hq,q⟩
 ·obtain ⟨its,r',pl,hz⟩:=I.list hq
  have hlen:=r'.length;refine call_tuple_list pl.isList (λh' kp=>?_) (by simp only[A9]<;>lia);have I1:Inv X pins σ H {s with heap:=h'}:=I.kept (t':=s.toks) kp;have I2:Inv X pins σ (upd H h'.objs.size (.tup ys)) {s with heap:=h'.push {cls:=.type "tuple",data:=.seq its.toArray}} :=
   I1.laid (t':=s.toks) (λb o e=>AD _ e) (AF _) (show ObjOk X.prog X.w _ _ _ (.tup ys) from⟨hz,its,r',X4 _ _⟩)
  exact ⟨.ref h'.objs.size,_,I2,rfl,q _ (I1.hok.fresh (AF _))⟩
 ·obtain ⟨its,r',pl,hz⟩:=I.tuple hq
  exact call_tuple_same pl ⟨.ref p,H,I,rfl,q⟩
def tyV(K:Au)(T:String)(x:V)(H:Hp):Prop:=match x with
 | .str _=>T = "str"
 | .int _=>T = "int"
 | .ref p=>(T = "list"/\∃xs,SqL K H p xs)\/(T = "tuple"/\∃o,K.lookup p=some o/\o.cls=.type "tuple"/\o.dict=none) \/
   (T = "dict"/\((∃kvs,H p=some (.dK kvs))\/∃kvs,H p=some (.dT kvs)))\/(T = "set"/\∃S n,H p=some (.set S n))
 | _=>False
theorem ADm{pins:List (Addr×Obj)}{σ:St}{H:Hp}{s:AA}{T:String}{x:V}{v:Ap}(I:Inv X pins σ H s)(r:RelV x v)(ty:tyV X.K T x H) :
  s.TypeIs v T/\∀a,v=.ref a->∃ob,s.heap.get? a=some ob/\ob.dict=none:=by
 cases x with
 | str z =>
  obtain ⟨t,rfl⟩:=r;cases (show T = "str" from ty);exact ⟨typeIs_str s z t,λ_ e=>nomatch e⟩
 | int i =>
  obtain ⟨t,rfl⟩:=r;cases (show T = "int" from ty);exact ⟨NR s i t,λ_ e=>nomatch e⟩
 | ref p =>
  cases r;rcases ty with⟨rfl,xs,hq⟩ | ⟨rfl,o,hk,hc,hd⟩ | ⟨rfl,hk⟩ | ⟨rfl,S,n,hk⟩
  ·obtain ⟨its,_,pl,_⟩:=I.list hq
   refine ⟨pl.isList.typeIs,λa e=>?_⟩;cases e;obtain ⟨o,n,e,c,hd,_⟩:=pl;exact ⟨o,e,hd⟩
  ·refine ⟨⟨o,I.kIn p o hk,hc⟩,λa e=>?_⟩
   cases e;exact ⟨o,I.kIn _ o hk,hd⟩
  ·have z:∃o,s.heap.get? p=some o/\o.ExactDict:=by
    rcases hk with⟨kvs,hk⟩ | ⟨kvs,hk⟩
    ·obtain ⟨_,_,_,_,o,_,_,e,ex,_⟩:=I.hok p _ hk
     exact ⟨o,e,ex⟩
    ·obtain ⟨_,_,_,_,o,_,_,e,ex,_⟩:=I.hok p _ hk
     exact ⟨o,e,ex⟩
   obtain ⟨o,e,ex⟩:=z;refine ⟨⟨o,e,ex.1⟩,λa e2=>?_⟩;cases e2;exact ⟨o,e,ex.2.1⟩
  ·obtain ⟨o,_,_,_,e,ex,_⟩:=I.hok p _ hk
   refine ⟨⟨o,e,ex.1⟩,λa e2=>?_⟩;cases e2;exact ⟨o,e,ex.2.1⟩
 | _=>exact Eg ty
def tBM(K:Au)(T:String)(r:V->List V->Hp->VK->Prop)(to:TE)(t:TA):TE:=λσ H Q=>to σ H λx H1=>tyV K T x H1/\t σ H1 λxs H2=>r x xs H2 Q
variable{o e:Expr}{es:List Expr}{to:TE}{t:TA}{name:Str}{apos cpos:Pos}{T id:String}{r:V->List V->Hp->VK->Prop}
theorem Mw(pa:PlainAttrs T)(slot:Slot T name id)(hty:typeOf (.builtin id)=pure (.type "method_descriptor"))(hm:MtR X id r)(ho:PE X o to)(ha:PA X (e::es) t)
  (hbase:Nc o name X.env (eval o X.env)=eval o X.env:=by rfl)
  (hfew:((Hm cpos (Ct (e::es) X.env)).all (λx=>!x.1)&&(KP cpos (HQ [] X.env)).all (λx=>x.1.isSome)
   && decide ((e::es).length+([]:List N5).length+(if ([]:List N5).isEmpty then 0 else 1)<30))=true:=by rfl)
  (hline:(apos.endLine==cpos.line)=true:=by rfl) (hs:Ct (e::es) X.env=(false,eval e X.env)::Ct es X.env:=by rfl) (hplain:(Hm cpos (Ct es X.env)).any (·.1)=false:=by rfl) :
  PE X (.Call (.Attribute o name apos) (e::es) [] cpos) (tBM X.K T r to t):=by
 intro pins s σ H Q I h;refine wpAny_Call_method_late hbase hfew hline rfl (thn (ho pins s σ H _ I h) λv s1 ⟨x,H1,I1,r1,ty,q1⟩=>?_);obtain ⟨h1,h2⟩:=ADm I1 r1 ty;refine ⟨T,id,pa,slot,hty,h1,h2,?_⟩;have hA:=ha cpos pins s1 σ H1 _ I1 q1;rw[hs] at hA ⊢;refine O8 (by show (false||(Hm cpos (Ct es X.env)).any (·.1))=false;rw[hplain]<;>rfl) (QA ?_);exact thn hA λus s2 ⟨vs,H2,I2,r2,q2⟩=>hm pins s2 σ H2 x vs v us Q I2 r1 r2 q2
end
def MtM(X:Cx)(id:String)(r:V->List V->Hp->VK->Prop):Prop :=
 ∀(pins:List (Addr×Obj)) (s:AA) (σ:St) (H:Hp) (x:V) (xs:List V) (v:Ap) (us:List Ap) (Q:VK),Inv X pins σ H s->RelV x v->Vals xs us->r x xs H Q ->
  wpAny (AL X.prog X.w) X.A (call (.builtin id) (v::us)) (EP X pins σ Q) X.xe s
theorem Vals.one:∀{x:V}{us:List Ap},Vals [x] us->∃u,us=[u]/\RelV x u
 | _,_,.cons r .nil=>⟨_,rfl,r⟩
theorem Vals.two:∀{x y:V}{us:List Ap},Vals [x,y] us->∃u v,us=[u,v]/\RelV x u/\RelV y v
 | _,_,_,.cons r (.cons q .nil)=>⟨_,_,rfl,r,q⟩
theorem Vals.rep{xs:List V}{us:List Ap}(h:Vals xs us):∀k:Nat,Vals (BE k xs).flatten (BE k us).flatten
 | 0=>.nil
 | k+1=>by
  rw[EF,EF,Hn,Hn];exact Vals.append h (Vals.rep h k)
theorem foldl_rep(its:List Ap):∀(k:Nat) (acc:List Ap),
  QE (λx1 x2=>x1++x2) acc.toArray (BE k its.toArray)=(acc++(BE k its).flatten).toArray
 | 0,acc=>by simp
 | k+1,acc=>by
  have e:acc.toArray++its.toArray=(acc++its).toArray:=by simp
  have e2:(acc++its)++(BE k its).flatten=acc++(BE (k+1) its).flatten:=by
   rw[EF,Hn,C0]
  rw[<- e2,<- foldl_rep its k (acc++its),<- e,EF,L6]
section
variable{X:Cx}{pins:List (Addr×Obj)}{σ:St}{H:Hp}{s:AA}{l b:Addr}{xs ys zs:List V}
theorem Inv.lset{its its':List Ap}{n:Nat}{f:Array Ap->Array Ap}{t':Nat}(I:Inv X pins σ H s)(hH:H l=some (.lst xs))
  (e:s.heap.get? l=some {cls:=.type "list",data:=.seq its.toArray n}) (hf:f its.toArray=its'.toArray) (hv:Vals ys its') (hz:ys.length<=sizeLine) :
  Inv X pins σ (upd H l (.lst ys)) {s with heap:=s.heap.update l (EH f),toks:=t'}:=by
 have q:=PySem.IsL.update e f;rw[hf] at q;refine I.write (x:=l) (e:=l) (by rw[hH];exact trivial) (.inl rfl) (λb' u hb hu=>(FL s.heap (EH f) (DM hb)).trans hu) ⟨_,q⟩ ?_;exact ⟨hz,its',_,hv,q⟩
theorem Inv.lnew{its:List Ap}{t':Nat}(I:Inv X pins σ H s)(hv:Vals ys its)(hz:ys.length<=sizeLine) :
  Inv X pins σ (upd H s.heap.objs.size (.lst ys)) {s with heap:=s.heap.push {cls:=.type "list",data:=.seq its.toArray},toks:=t'} :=
 I.laid (λ_ _ q=>AD _ q) (AF _) ⟨hz,its,0,hv,AN _ rfl⟩
theorem Inv.fresh(I:Inv X pins σ H s):H s.heap.objs.size=none:=I.hok.fresh (AF _)
theorem Inv.lstM(I:Inv X pins σ H s)(hH:H l=some (.lst xs)):xs.length<=sizeLine/\∃(its:List Ap) (n:Nat),Vals xs its/\xs.length=its.length/\s.heap.get? l=some {cls:=.type "list",data:=.seq its.toArray n}:=by
 obtain ⟨z,its,n,r,e⟩:=I.hok l _ hH;exact ⟨z,its,n,r,r.length,e⟩
theorem Zf{n:Nat}(h:n<=sizeLine):KW n=false:=by
 unfold KW;exact decide_eq_false (by lia)
end
section
variable{X:Cx}
def ABa:V->List V->Hp->VK->Prop:=λx vs H Q=>∃l xs y,x=.ref l/\vs=[y]/\H l=some (.lst xs)/\xs.length<sizeLine/\Q .non (upd H l (.lst (xs++[y])))
theorem Cz:MtM X "list.append" ABa:=by
 intro pins s σ H x vs v us Q I rx rv h;obtain ⟨l,xs,y,rfl,rfl,hH,hz,q⟩:=h;cases rx;obtain ⟨u,rfl,ru⟩:=rv.one;obtain ⟨z,its,n,r,hl,e⟩:=I.lstM hH;refine L7 F.slot_list_append ⟨_,e,rfl⟩ F.entry_list_append (F.args_list_append_2 _ _) (PySem.list_append l its.toArray n u (by rw[A9];lia)) ⟨e,?_⟩;refine ⟨.non,_,I.lset (its':=its++[u]) hH e (by simp) (r.append (.cons ru .nil)) ?_,rfl,q⟩;rw[By,DC];lia
def rCat:R2:=λx y H Q=>E4 λl b xs zs=>A6 (x=.ref l) (y=.ref b) (H l=some (.lst xs)) (H b=some (.lst zs)) (xs.length+zs.length<=sizeLine) (∀p,H p=none->Q (.ref p) (upd H p (.lst (xs++zs))))
theorem Uz:OpR X (IS .Add) rCat:=by
 intro pins s σ H x y v u Q I rx ry h;obtain ⟨l,b,xs,zs,rfl,rfl,hH,hB,hz,q⟩:=h;cases rx;cases ry;obtain ⟨z,its,n,r,hl,e⟩:=I.lstM hH;obtain ⟨z2,its2,n2,r2,hl2,e2⟩:=I.lstM hB;refine PySem.P.add_list e e2 ?_ (by rw[A9,A9];lia);have ea:its.toArray++its2.toArray=(its++its2).toArray:=by simp
 rw[ea];exact ⟨.ref _,_,I.lnew (t':=s.toks) (r.append r2) (by rw[By];lia),rfl,q _ I.fresh⟩
def rRep:R2:=λx y H Q=>∃l k xs,x=.ref l/\y=.int k/\H l=some (.lst xs)/\-(2 ^ 63)<=k/\k<2 ^ 63/\xs.length*k.toNat<=sizeLine /\
 ∀p,H p=none->Q (.ref p) (upd H p (.lst (BE k.toNat xs).flatten))
theorem len_rep{α:Type}(xs:List α)(k:Nat):(BE k xs).flatten.length=k*xs.length:=by
 induction k with
 | zero=>simp
 | succ k ih=>rw[EF,Hn,By,ih,Nat.succ_mul,Nat.add_comm]
theorem ADh:OpR X (IS .Mult) rRep:=by
 intro pins s σ H x y v u Q I rx ry h;obtain ⟨l,k,xs,rfl,rfl,hH,h1,h2,hz,q⟩:=h;cases rx;obtain ⟨t,rfl⟩:=ry;obtain ⟨z,its,n,r,hl,e⟩:=I.lstM hH;have hlen:its.toArray.size*k.toNat<=sizeLine:=by rw[A9,<- hl];exact hz
 have hcap:¬ its.toArray.size*k.toNat>(2 ^ 63-1) / 8:=by
  have:(sizeLine:Nat)<=(2 ^ 63-1) / 8:=by decide
  lia
 have hfit:¬ (!VC k)=true:=by
  rw[fitsIndex_both h1 h2];exact Be
 have hlong:¬ KW (its.toArray.size*k.toNat)=true:=by
  rw[Zf hlen];exact Be
 have hnew:QE (λx1 x2=>x1++x2) #[] (BE (if its.toArray.isEmpty=true then 0 else k.toNat) its.toArray)=(BE k.toNat its).flatten.toArray:=by
  have f0:∀m:Nat,QE (λx1 x2=>x1++x2) #[] (BE m its.toArray)=(BE m its).flatten.toArray:=λm=>by
   have:=foldl_rep its m [];rw[L8] at this;exact this
  rw[f0];cases its with
  | nil=>simp
  | cons a r'=>rw[if_neg (by simp)]
 refine NS (T:="list") (U:="int") (by decide) ⟨_,e,rfl⟩ (λs'=>NR s' k t) noFill_list_mul F.fills_int_mul PU repeat_list F.slot_int_index.lookup
  (L7 PU (NR s k t) F.entry_int_rmul (F.args_int_rmul_2 _ _) (int___rmul___int_list k t l its.toArray n)
   ⟨e,rfl,⟨_,e,rfl⟩,L7 F.slot_list_mul ⟨_,e,rfl⟩ F.entry_list_mul (F.args_list_mul_2 _ _) (AutoListH.list___mul___list_int_3 l its.toArray n k t hfit hcap hlong) ⟨e,?_⟩⟩)
 rw[hnew];exact ⟨.ref _,_,I.lnew (t':=s.toks) (r.rep k.toNat) (by rw[len_rep,WU];exact hz),rfl,q _ I.fresh⟩
end
end L2
namespace Att
open PySem PySem.W PySem.Calls PyProof.Rows
theorem Jq{P:WV}{h:Heap}:∀(ns:List Int) (vs:List Ap),WellAll P h vs (ns.map X5)->Ff vs ns:=by
 intro ns
 induction ns with
 | nil =>
  intro vs w;rw[Oy] at w;cases w;exact .nil
 | cons n ns ih =>
  intro vs w;rw[B5] at w;cases w with
  | cons a b =>
   cases a;exact .cons _ _ (ih _ b)
theorem Xd{l:OpenLaw}{n:Nat}(hn:l.most=some n){P:WV}{h:Heap}{args:List WData}{vals:List Ap}
  (hpre:l.row.toRowW.claim.pre args=true) (hwl:WellAll P h vals args) :
  ∃a vs ns,vals=[AS a]/\args=[WData.list (ns.map X5)]/\h.get? a=some {cls:=.type "list",data:=.seq vs.toArray}/\Ff vs ns/\ns.length<=n:=by
 have hsh:WShape.hasAll [] args [.list .int]=true:=(pre_splitW hpre).1;have hc:l.pre.holds [] {args:=args}=true:=(pre_splitW hpre).2;obtain ⟨d,r,rfl,h1,h2⟩:=hasAllW_cons hsh;obtain rfl:=hasAllW_nil h2;obtain ⟨xs,rfl,h3⟩:=hasW_list h1;obtain ⟨ns,rfl⟩:=items_int h3;have hlen:ns.length<=n:=by
  unfold OpenLaw.pre at hc;have h4:(WTm.not (.lt (.lit (.int (n:Int))) (.len (.arg 0)))).holds [] {args:=[.list (ns.map .int)]}=true:=by
   have h4:=(holds_andW hc).1;rw[hn] at h4;exact h4
  have h5:=condW_of h4 (w_not (w_lt w_lit (w_len_list (w_arg rfl))));rw[AB] at h5;refine Nat.le_of_not_lt λq=>?_;have q':(n:Int)<((ns.length:Nat):Int):=by lia
  first
   | (rw[decide_eq_true q'] at h5;exact absurd h5 (by decide))
   | (simp at h5;lia)
 cases hwl with
 | cons w1 w2 =>
  cases w2;cases w1 with
  | list ho hall=>exact ⟨_,_,ns,rfl,rfl,ho,Jq ns _ hall,hlen⟩
theorem Yq(l:OpenLaw)(args:List WData):l.row.toRowW.claim.post args (.bool true) args=true :=
 postW_of (r:=l.row.toRowW) (X:=(true==true))
  (show XY [] (.bool true) .bool=true by first | rfl | decide | simp[XY,WShape.arms,WShape.armsAll])
  (show (WTm.eq .res (.lit (.bool true))).value [] {args:=args,res:=some (.bool true),after:=args}=some (.bool (true==true)) from w_eq_bool (w_res rfl) w_lit) rfl
theorem RX{l:OpenLaw}{n:Nat}{q:AM}{loose:List Str}{XP:(Str->Option Ap)->Heap->Prop}{YP:AT->Heap->Prop}{d:DefRec}
  (hn:l.most=some n) (hdf:d.params.defaults=[])
  (call:∀(w:AT) (s₀ s₁:AA) (mg mb:Str->Option Ap) (fa:Addr) (o:Obj) (pm cd doc:Ap) (a:Addr) (vs:List Ap) (ns:List Int),
   Ground q loose [] XP w s₀ mg mb s₁.heap->YP w s₁.heap ->
   s₁.heap.get? fa=some o->o.data=.func (docDef d.name d.params d.body d.scope pm cd doc)->s₁.heap.CodeRec cd d.name->mg d.name=some (.ref fa) ->
   s₁.heap.get? a=some {cls:=.type "list",data:=.seq vs.toArray}->Ff vs ns->ns.length<=n->s₁.gens=#[] ->
   codeAny (AL l.prog w) N6 (.call (.ref fa) ⟨[.ref a],[]⟩) (λr s'=>r=.ok (.ret (.bool true))/\OldK s₁.heap s'.heap/\s'.os=s₁.os/\K5 s'.gens) s₁) :
  WalkO q loose XP YP l.row.toRowW d [] (λf vs=>TU f vs):=by
 intro w s₀ s₁ mg mb G Y fa o pm cd doc dV kV ho hd hcd hD hmg hg args vals as hpre hlay hrd hwl hlo;obtain rfl:dV=.none:=Dflts.none hD hdf;obtain rfl:kV=.none:=Dflts.noKw hD;obtain ⟨a,vs,ns,rfl,rfl,hobj,hints,hlen⟩:=Xd hn hpre hwl;refine enter_call (EJ (call w s₀ s₁ mg mb fa o pm cd doc a vs ns G Y ho (fd_plain hd) hcd hmg hobj hints hlen hg) λr s' hq=>?_);obtain ⟨rfl,h2,h3,h4⟩:=hq;exact ⟨.inl ⟨.bool true,.bool true,[],rfl,λ_=>rfl,.bool true,Yq l _,λ_=>⟨K9,λ_ hm=>(nomatch hm)⟩⟩,h2,h3,h4⟩
end Att
namespace L2
open PySem PySem.Spec PyProof.Rows
theorem NZ:∀{vs:List Ap}{ns:List Int},Ff vs ns->Vals (ns.map V.int) vs
 | _,_,.nil=>.nil
 | _,_,.cons n t h=>.cons ⟨t,rfl⟩ (NZ h)
def Only(H:Hp):Prop:=∀b,H b=none\/∃o xs,H b=some (.frz o (.lst xs))
theorem Zx{P:AM}{w:AT}{K:Au}{mg mb:Str->Option Ap}{CX:CXT}{k:Nat}{fa a:Addr}{fd:BV}{x:Str}{sp:Sp}{s₁:AA}{vs:List Ap}{ns:List Int}
  (KX:K.In s₁.heap) (hns:s₁.heap.Ns A8 mg) (hb:s₁.heap.Ns TD mb) (hbb:∀x:Str,x≠"__name__"->mb x=HU x) (hlim:s₁.heap.NoLimit) (hg:s₁.gens=#[])
  (ha:s₁.heap.get? a=some {cls:=.type "list",data:=.seq vs.toArray}) (hi:Ff vs ns) (hl:ns.length<=sizeLine) (hr:Room k N6)
  (F:∀base:Heap,K.In base->base.Ns A8 mg->FnOk P w K mg base CX k fa fd [x] sp) (hbind:∀(s:AA) (u:Ap),N4 s fd ⟨[u],[]⟩ [(x,u)])
  (hsp:∀H:Hp,Only H->SqL K H a (ns.map V.int)->sp [.ref a] H (λv _=>v=.bl true) λ_ _ _=>False)
  (hCX:∀H e s',CX [] H s₁ (λ_ _ _=>False) e s'->False) :
  codeAny (AL P w) N6 (.call (.ref fa) ⟨[.ref a],[]⟩) (λr s'=>r=.ok (.ret (.bool true))/\OldK s₁.heap s'.heap/\s'.os=s₁.os/\K5 s'.gens) s₁:=by
 have rv:=NZ hi;have lenV:=hi.length;have core:∀H:Hp,Only H->SqL K H a (ns.map V.int)->HOk P w H s₁.heap->(∀b,H b≠none->b=a)->(H a≠none->K.lookup a=none) ->
   codeAny (AL P w) N6 (.call (.ref fa) ⟨[.ref a],[]⟩) (λr s'=>r=.ok (.ret (.bool true))/\OldK s₁.heap s'.heap/\s'.os=s₁.os/\K5 s'.gens) s₁:=by
  intro H hO hS hok hA hK;have base_of:∀{b:Addr}{o:Obj},s₁.heap.get? b=some o->H b=none->(hidT s₁.heap H).get? b=some o:=λe n=>AAp e n;have noA:∀{b:Addr}{o:Obj}{es:Array M4}{ep:Nat},s₁.heap.get? b=some o->o.data=.dict es ep->H b=none:=λ{b o es ep} e d=>by
   cases q:H b with
   | none=>rfl
   | some u =>
    have e':b=a:=hA b (by rw[q];simp);subst e';rw[ha] at e;cases e;have d':WZ vs.toArray _=Data.dict es ep:=d;cases d'
  have nsK:∀{b:Addr}{m:Str->Option Ap},s₁.heap.Ns b m->(hidT s₁.heap H).Ns b m:=λ{b m} ⟨o,es,ep,e,d,r⟩=>⟨o,es,ep,base_of e (noA e d),d,r⟩;have hKb:K.In (hidT s₁.heap H):=λb o e=>base_of (KX b o e) (by
   cases q:H b with
   | none=>rfl
   | some u =>
    have e':b=a:=hA b (by rw[q];simp);subst e';rw[hK (by rw[q];simp)] at e;cases e)
  have hM:Mod K mg (hidT s₁.heap H):=⟨hKb,nsK hns,⟨mb,nsK hb,hbb⟩,let ⟨mc,h1,h2⟩:=hlim;⟨mc,nsK h1,h2⟩⟩;have e0:Env0 P w K mg (hidT s₁.heap H) N6 [] s₁ H:=⟨rfl,hM,λb o e=>ABm e,KO (Yo _ _),trivial,λb hb=>absurd (show b∈([]:List Addr) from hb) (by simp),hok,.of_eq hg⟩;refine EJ ((F _ hKb (nsK hns)).run N6 [] s₁ H ⟨[.ref a],[]⟩ [.ref a] [.ref a] _ _ hr e0 (hbind s₁ (.ref a)) (.cons rfl .nil) (hsp H hO hS)) λr s' h=>?_;cases r with
  | error e=>exact (hCX H e s' h).elim
  | ok fl =>
   cases fl with
   | next=>exact Eg h
   | brk=>exact Eg h
   | cont=>exact Eg h
   | ret u =>
    obtain ⟨v,H',os,bare,un,hok',r',q⟩:=h;have q':v=.bl true:=q;subst q';obtain rfl:u=G1 true:=r';refine ⟨rfl,OldK.of_keep λb o e=>?_,os,bare⟩;cases q:H b with
    | none=>exact un.keep b o e q (by intro z;exact absurd (show b∈([]:List Addr) from z) (by simp)) (by simp)
    | some u =>
     rcases hO b with z | ⟨ob,xs,z⟩
     ·rw[q] at z;cases z
     ·have z2:=un.frzs b ob _ z
      obtain ⟨e1,_⟩:=hok b _ z;obtain ⟨e2,_⟩:=hok' b _ z2;rw[e] at e1;cases e1;exact e2
 cases hk:K.lookup a with
 | some o =>
  have e:=KX a o hk;rw[ha] at e;cases e;refine core (λ_=>none) (λ_=>.inl rfl) (.inr ⟨_,vs.toArray,_,hk,rfl,rfl,rfl,by rw[A9,lenV];exact hl,by simpa using rv⟩) (λb u z=>by have z':(none:Option HO)=some u:=z;cases z') (λb z=>absurd rfl z) λz=>absurd rfl z
 | none =>
  refine core (λb=>if b=a then some (.frz {cls:=.type "list",data:=.seq vs.toArray} (.lst (ns.map V.int))) else none) (λb=>?_) (.inl (.inr ⟨{cls:=.type "list",data:=.seq vs.toArray},if_pos rfl⟩)) (λb u z=>?_) (λb z=>?_) λ_=>hk
  ·by_cases hb:b=a
   ·exact .inr ⟨_,_,if_pos hb⟩
   ·exact .inl (if_neg hb)
  ·by_cases hb:b=a
   ·have z':=(if_pos hb).symm.trans z
    cases z';subst hb;exact ⟨ha,by rw[AB];exact hl,vs,_,rv,ha⟩
   ·have z':=(if_neg hb).symm.trans z
    cases z'
  ·by_cases hb:b=a
   ·exact hb
   ·exact absurd (if_neg hb) z
theorem ABq{l:OU}{n k:Nat}{q:AM}{loose:List Str}{XP:(Str->Option Ap)->Heap->Prop}{YP:AT->Heap->Prop}{d:DefRec}{K:WV->Au}{CX:AT->CXT}{sp:AT->Sp}{x:Str}
  (hn:l.most=some n) (hn2:n<=sizeLine) (hdf:d.params.defaults=[]) (hr:Room k N6)
  (hY:∀(w:AT) (h:Heap),YP w h->(K w.params).In h)
  (F:∀(w:AT) (mg:Str->Option Ap) (fa:Addr) (h:Heap),(K w.params).In h->h.Ns A8 mg->mg d.name=some (.ref fa) ->
   ∃fd:BV,(∀(s:AA) (u:Ap),N4 s fd ⟨[u],[]⟩ [(x,u)]) /\
    ∀base:Heap,(K w.params).In base->base.Ns A8 mg->FnOk l.prog w (K w.params) mg base (CX w) k fa fd [x] (sp w))
  (hsp:∀(w:AT) (H:Hp) (a:Addr) (ns:List Int),ns.length<=n->Only H->SqL (K w.params) H a (ns.map V.int)->sp w [.ref a] H (λv _=>v=.bl true) λ_ _ _=>False)
  (hCX:∀(w:AT) (H:Hp) (s:AA) (e:Ap) (s':AA),CX w [] H s (λ_ _ _=>False) e s'->False) :
  VE q loose XP YP l.row.toRowW d [] (λf vs=>TU f vs):=by
 refine Att.RX hn hdf λw s₀ s₁ mg mb fa o pm cd doc a vs ns G Y ho hd hcd hmg hobj hints hlen hg=>?_;have KX:=hY w _ Y;obtain ⟨fd,hb,hF⟩:=F w mg fa _ KX G.T.g hmg;exact Zx KX G.T.g G.T.b G.T.builtins G.T.nolimit hg hobj hints (CF hlen hn2) hr hF hb (λH hO hS=>hsp w H a ns hlen hO hS) λH e s'=>hCX w H s₁ e s'
def inClass(s:Stmt)(j:Nat):Stmt:=match s with
 | .ClassDef _ _ _ body _ _ _ _ _ _ _=>body.getD j (.Pass ⟨0,0,0,0⟩)
 | _=>.Pass ⟨0,0,0,0⟩
def Ao(s:Stmt):Arguments:=match s with
 | .FunctionDef _ a _ _ _ _ _ _ _ _=>a
 | _=>{posonlyargs:=[],args:=[],vararg:=none,kwonlyargs:=[],kw_defaults:=[],kwarg:=none,defaults:=[]}
def Ak(s:Stmt):List Stmt:=match s with
 | .FunctionDef _ _ b _ _ _ _ _ _ _=>b
 | _=>[]
def Ac(s:Stmt):D3:=match s with
 | .FunctionDef _ _ _ _ _ _ sc _ _ _=>sc
 | _=>{kind:=.function,names:=[],isGenerator:=false,isCoroutine:=false}
abbrev CX0:CXT:=λ_ _ _ _ _ _=>False
abbrev E0:XK:=λ_ _ _=>False
theorem pass0{X:Cx}:Passes CX0 X E0:=λ_ _ _ _ _ _ _ h=>h.elim
structure Fun(K:Au)(x qual:Str)(st:Stmt)(f:Addr)(fd:BV):Prop where
 ex:∃(oc:Ap) (od:Option Addr) (kV doc pm:Ap) (an:Option Addr) (cdv ct:Ap) (osl:Array (Option Ap)),
  fd=A7 x qual (Ao st) (Ak st) (Ac st) .none kV doc pm an cdv ct/\K.lookup f=some ⟨oc,od,.func fd,osl⟩/\A1 K cdv qual=true
 kp:AI K (.ref f)=true
section
variable{P:AM}{w:AT}{K:Au}{mg:Str->Option Ap}{base:Heap}
theorem Fun.ok{x qual:Str}{st:Stmt}{f:Addr}{fd:BV}{N ps:List Str}{k:Nat}{sp:Sp}(F:Fun K x qual st f fd)(S:FnScope N ps (Ac st))(len:∀vs H Q E,sp vs H Q E->vs.length=ps.length)
  (hbody:∀(cdv:Ap) (A:BQ) (outer:List Env) (s:AA) (H:Hp) (vs:List V) (Q:VK) (E:XK),Room k (A.deeper (LZ qual (Ac st) s.heap.objs.size f cdv))->sp vs H Q E ->
   ∃t,PSs (cxOf CX0 P w K mg base N qual (Ac st) f cdv A outer s H E).nox (Ak st) t/\t {nx:=λ_ H'=>Q .non H',rt:=Q} (start N vs) H):FnOk P w K mg base CX0 (k+1) f fd ps sp:=by
 obtain ⟨oc,od,kV,doc,pm,an,cdv,ct,osl,rfl,lk,hcd⟩:=F.ex;refine ACx lk hcd S len λA outer s H vs Q E hr hsp=>?_;obtain ⟨t,h,q⟩:=hbody cdv A outer s H vs Q E hr hsp;exact ⟨t,h.nox,q⟩
theorem Fun.binds{x qual:Str}{st:Stmt}{f:Addr}{fd:BV}{ps:List Str}(F:Fun K x qual st f fd)
  (h:∀(kV doc pm:Ap) (an:Option Addr) (cdv ct:Ap) (us:List Ap),us.length=ps.length->Ta (A7 x qual (Ao st) (Ak st) (Ac st) .none kV doc pm an cdv ct) ⟨us,[]⟩=pure (ps.zip us)):Binds K fd ps []:=by
 obtain ⟨oc,od,kV,doc,pm,an,cdv,ct,osl,rfl,lk,hcd⟩:=F.ex;exact .all (h kV doc pm an cdv ct)
theorem BJ{x qual:Str}{st:Stmt}{f:Addr}{oc:Ap}{od an:Option Addr}{osl:Array (Option Ap)}{kV doc pm cdv ct:Ap}(l:K.lookup f=some ⟨oc,od,.func (A7 x qual (Ao st) (Ak st) (Ac st) .none kV doc pm an cdv ct),osl⟩)
  (c:A1 K cdv qual=true) (k:AI K (.ref f)=true):Fun K x qual st f (A7 x qual (Ao st) (Ak st) (Ac st) .none kV doc pm an cdv ct):=⟨⟨oc,od,kV,doc,pm,an,cdv,ct,osl,rfl,l,c⟩,k⟩
end
theorem Ay{n:Nat}(h:n<=1000):n<sizeLine:=G4 h (by decide)
section
variable{X:Cx}
theorem pv(i:Nat){x:Str}{pos:Pos}(hN:X.N[i]?=some x:=by rfl)(hv:Vis X.env.scope x:=by first | exact BF rfl | exact JO (BF rfl) | exact JO (JO rfl))(hd:(x==("__debug__" : Str))=false:=by decide)
  (hcd:(x==("__classdict__" : Str))=false:=by decide):PE X (.Name x pos) (AFM i):=AEM hN hv hd hcd
end
theorem iteF{A B:Prop}(h:B):if false=true then A else B:=by
 rw[if_neg Be];exact h
theorem iteT{A B:Prop}(h:A):if true=true then A else B:=by
 rw[if_pos rfl];exact h
theorem ite2{c A B:Prop}[Decidable c](h1:c->A)(h2:¬ c->B):if c then A else B:=by
 by_cases h:c
 ·rw[if_pos h]
  exact h1 h
 ·rw[if_neg h]
  exact h2 h
def Same(H H':Hp):Prop:=∀b o,H b=some o->H' b=some o
theorem Same.refl(H:Hp):Same H H:=λ_ _ h=>h
theorem Same.trans{H H1 H2:Hp}(a:Same H H1)(b:Same H1 H2):Same H H2:=λc o h=>b c o (a c o h)
theorem Same.free{H H':Hp}(e:Same H H'){l:Addr}(h:H' l=XT):H l=XT:=by
 cases q:H l with
 | none=>rfl
 | some o =>
  rw[e l o q] at h;cases h
theorem Same.seq{K:Au}{H H':Hp}{a:Addr}{xs:List V}(e:Same H H')(h:SqL K H a xs):SqL K H' a xs:=by
 rcases h with (h | ⟨o,h⟩) | h
 ·exact .inl (.inl (e _ _ h))
 ·exact .inl (.inr ⟨o,e _ _ h⟩)
 ·exact .inr h
end L2
section
namespace L2
open PySem PySem.Spec PyProof.Rows
def cloOf(cells:List (Str×Addr)):List (Str×ER)->List (Str×Addr)->List (Str×Addr)
 | [],cs=>cs
 | (n,k)::r,cs=>cloOf cells r (if k == .free then match cells.lookup n with | some c=>(n,c)::cs | none=>cs else cs)
theorem Jc{cells:List (Str×Addr)}:∀{names:List (Str×ER)}{cs:List (Str×Addr)},(∀x c,cs.lookup x=some c->cells.lookup x=some c)->∀x c,(cloOf cells names cs).lookup x=some c->cells.lookup x=some c
 | [],_,h=>h
 | (n,k)::r,cs,h=>by
  unfold cloOf;refine Jc (names:=r) ?_;intro x c e;by_cases hk:(k==BN)=true
  ·rw[if_pos hk] at e
   cases q:cells.lookup n with
   | none=>rw[q] at e;exact h x c e
   | some d =>
    rw[q] at e;rw[CC] at e;cases hx:x==n with
    | true =>
     rw[hx] at e;have hxn:x=n:=eq_of_beq hx;subst hxn;rw[q];exact e
    | false=>rw[hx] at e;exact h x c e
  ·rw[if_neg hk] at e;exact h x c e
theorem cloOf_mono{cells:List (Str×Addr)}{x:Str}:∀{names:List (Str×ER)}{cs:List (Str×Addr)},(cs.lookup x).isSome=true->((cloOf cells names cs).lookup x).isSome=true
 | [],_,h=>h
 | (n,k)::r,cs,h=>by
  unfold cloOf;refine cloOf_mono (names:=r) ?_;by_cases hk:(k==BN)=true
  ·rw[if_pos hk]
   cases q:cells.lookup n with
   | none=>exact h
   | some d =>
    show (EM x ((n,d)::cs)).isSome=true;rw[CC];cases hx:x==n with
    | true=>rfl
    | false=>exact h
  ·rw[if_neg hk];exact h
theorem JT{cells:List (Str×Addr)}{x:Str}(hc:(cells.lookup x).isSome=true):∀{names:List (Str×ER)}{cs:List (Str×Addr)},(x,BN)∈names->((cloOf cells names cs).lookup x).isSome=true
 | [],_,h=>by cases h
 | (n,k)::r,cs,h=>by
  unfold cloOf;rcases AX.mp h with e | h
  ·cases e
   refine cloOf_mono ?_;rw[if_pos (show (BN==BN)=true from rfl)];obtain ⟨d,q⟩:=EK.mp hc;rw[q];show (EM x ((x,d)::cs)).isSome=true;rw[CC,beq_self_eq_true];rfl
  ·exact JT hc h
theorem Ux{env:Env}:∀(names:List (Str×ER)) (cs:List (Str×Addr)),(∀y∈names,y.2=.free->(env.cells.lookup y.1).isSome=true) ->
  (forIn names cs λ(x:Str×ER) (r:List (Str×Addr))=>match x with
   | (name,kind)=>if (kind == .free)=true then do let c <- cellOf env name;pure (C3 ((name,c)::r)) else pure (C3 r):Sem (List (Str×Addr)))=pure (cloOf env.cells names cs)
 | [],cs,_=>rfl
 | (n,k)::r,cs,h=>by
  have hr:∀y∈r,y.2=.free->(env.cells.lookup y.1).isSome=true:=λy hy=>h y (AH _ hy);rw[List.forIn_cons];unfold cloOf;by_cases hk:(k==BN)=true
  ·have hf:k=.free:=by simpa using hk
   obtain ⟨d,q⟩:=EK.mp (h (n,k) AG hf);have q':env.cells.lookup n=some d:=q;have hcell:cellOf env n=pure d:=by unfold cellOf;rw[q']
   simp only[hk,if_true,hcell,pure_bind,q'];exact Ux r _ hr
  ·simp only[hk,if_false,pure_bind,AV]
   exact Ux r _ hr
theorem Uy{scope:D3}{env:Env}(h:∀y∈scope.names,y.2=.free->(env.cells.lookup y.1).isSome=true):closureFor scope env=pure (cloOf env.cells scope.names []):=by
 unfold closureFor;have e:=Ux (env:=env) scope.names [] h;simp only[bind_pure];exact e
theorem Cq{env:Env}:∀{names:List (Str×ER)}{x:Str},names.lookup x=some .free ->
  (names.map λ(n,k)=>if (k==BN&&env.scope.kind == .function&&env.kindOf n==some .cell) then (n,CD) else (n,k)).lookup x=some .cell \/
  (names.map λ(n,k)=>if (k==BN&&env.scope.kind == .function&&env.kindOf n==some .cell) then (n,CD) else (n,k)).lookup x=some .free
 | [],_,h=>by simp at h
 | (n,k)::r,x,h=>by
  have ih:=@Cq env r x;rw[B5];show EM x ((if (k==BN&&env.scope.kind == .function&&env.kindOf n==some .cell)=true then (n,CD) else (n,k))::_)=_\/EM x ((if (k==BN&&env.scope.kind == .function&&env.kindOf n==some .cell)=true then (n,CD) else (n,k))::_)=_;cases hx:x==n with
  | true =>
   rw[CC,hx] at h;have hk:k=.free:=by simpa using h
   by_cases hc:(k==BN&&env.scope.kind == .function&&env.kindOf n==some .cell)=true
   ·rw[if_pos hc];left;rw[CC,hx]
   ·rw[if_neg hc];right;rw[CC,hx,hk]
  | false =>
   rw[CC,hx] at h;by_cases hc:(k==BN&&env.scope.kind == .function&&env.kindOf n==some .cell)=true
   ·rw[if_pos hc];rw[CC,hx];exact ih h
   ·rw[if_neg hc];rw[CC,hx];exact ih h
theorem Jm{env:Env}{x:Str}:∀{names:List (Str×ER)},(∀y∈names,y.2≠.cell) ->
  (
   (names.map λ(n,k)=>if (k==BN&&env.scope.kind == .function&&env.kindOf n==some .cell) then (n,CD) else (n,k)).lookup x=some .cell \/
   (names.map λ(n,k)=>if (k==BN&&env.scope.kind == .function&&env.kindOf n==some .cell) then (n,CD) else (n,k)).lookup x=some .free)->(x,BN)∈names
 | [],_,h=>by simp at h
 | (n,k)::r,hc,h=>by
  have ih:=@Jm env x r λy hy=>hc y (AH _ hy);rw[B5] at h;have h':EM x ((if (k==BN&&env.scope.kind == .function&&env.kindOf n==some .cell)=true then (n,CD) else (n,k))::_)=_\/EM x ((if (k==BN&&env.scope.kind == .function&&env.kindOf n==some .cell)=true then (n,CD) else (n,k))::_)=_:=h;by_cases hb:(k==BN&&env.scope.kind == .function&&env.kindOf n==some .cell)=true
  ·rw[if_pos hb] at h'
   have hk:k=.free:=by simp at hb;exact hb.1.1
   rw[CC] at h';cases hx:x==n with
   | true =>
    have:x=n:=eq_of_beq hx;subst this;subst hk;exact AG
   | false=>rw[hx] at h';exact AH _ (ih h')
  ·rw[if_neg hb] at h'
   rw[CC] at h';cases hx:x==n with
   | true =>
    rw[hx] at h';have:x=n:=eq_of_beq hx;subst this;rcases h' with h' | h'
    ·exact absurd (BY h') (hc (x,k) AG)
    ·have hk:k=.free:=BY h'
     subst hk;exact AG
   | false=>rw[hx] at h';exact AH _ (ih h')
def compOk(osc sc:D3):Bool :=
 (decide (sc.kind=.function))&&sc.names.all (λy=>decide (y.2≠.cell))&&sc.names.all (λy=>decide (y.2=.local->sc.names.lookup y.1=some .local)) &&
  sc.names.all (λy=>decide (y.2=.free->osc.names.lookup y.1=some .cell\/osc.names.lookup y.1=some .free))
structure CompOk(osc sc:D3):Prop where
 kind:sc.kind=.function
 nocell:∀y∈sc.names,y.2≠.cell
 loc:∀y∈sc.names,y.2=.local->sc.names.lookup y.1=some .local
 free:∀y∈sc.names,y.2=.free->osc.names.lookup y.1=some .cell\/osc.names.lookup y.1=some .free
theorem CompOk.of{osc sc:D3}(h:compOk osc sc=true):CompOk osc sc:=by
 unfold compOk at h;rw[DF,DF,DF] at h;obtain ⟨⟨⟨h1,h2⟩,h3⟩,h4⟩:=h;exact ⟨of_decide_eq_true h1,λy hy=>of_decide_eq_true (DH.mp h2 y hy),λy hy=>of_decide_eq_true (DH.mp h3 y hy),λy hy=>of_decide_eq_true (DH.mp h4 y hy)⟩
abbrev cloX(X:Cx)(scope:D3):List (Str×Addr):=cloOf X.env.cells scope.names []
def cxComp(X:Cx)(N':List Str)(scope:D3)(fp:List Addr)(s:AA)(H:Hp):Cx where
 prog:=X.prog
 w:=X.w
 K:=X.K
 mg:=X.mg
 base:=X.base
 A:=X.A
 N:=N'
 s₀:=s
 H₀:=H
 env:=OA scope (cloX X scope) s.heap.objs.size X.env
 outer:=X.stack
 stack:=X.stack
 ex:=fp
 fn:=λ_=>false
 calm:=X.calm
 pn:=[]
 xe:=λ_ _=>False
def FreeAt(X:Cx)(sc:D3):List Str->List Nat->Prop
 | [],[]=>True
 | x::fr,j::ix=>(X.N[j]?=some x/\sc.names.lookup x=some .free)/\FreeAt X sc fr ix
 | _,_=>False
def start2(σ:St)(own:List Str)(ix:List Nat):St:=BE own.length none++ix.map λj=>(σ[j]?).join
theorem Ln{X:Cx}{sc:D3}{σ:St}{own:List Str}:∀{fr:List Str}{ix:List Nat},FreeAt X sc fr ix->(start2 σ own ix).length=(own++fr).length:=by
 intro fr ix h;have:fr.length=ix.length:=by
  induction fr generalizing ix with
  | nil=>cases ix with
   | nil=>rfl
   | cons _ _=>exact h.elim
  | cons x fr ihf=>cases ix with
   | nil=>exact h.elim
   | cons j ix=>simp[ihf h.2]
 simp[start2,this]
theorem Lr{X:Cx}{sc:D3}{σ:St}{x:Str}{v:V}:∀{fr:List Str}{ix:List Nat}{i:Nat},FreeAt X sc fr ix->fr[i]?=some x->(ix.map λj=>(σ[j]?).join)[i]?=some (some v) ->
  ∃j:Nat,X.N[j]?=some x/\σ[j]?=some (some v)/\sc.names.lookup x=some .free
 | [],_,_,_,h,_=>by simp at h
 | _::_,[],_,h,_,_=>h.elim
 | y::fr,j::ix,0,h,h1,h2=>by
  have e1:y=x:=by simpa using h1
  subst e1;have e2:(σ[j]?).join=some v:=by simpa using h2
  refine ⟨j,h.1.1,?_,h.1.2⟩;cases q:σ[j]? with
  | none=>rw[q] at e2;cases e2
  | some o=>rw[q] at e2;cases o with
   | none=>cases e2
   | some z =>
         have:z=v:=by simpa using e2
         rw[this]
 | y::fr,j::ix,i+1,h,h1,h2=>Lr (fr:=fr) (ix:=ix) (i:=i) h.2 (by simpa using h1) (by simpa using h2)
theorem Kv{X:Cx}{sc:D3}{σ:St}{own fr:List Str}{ix:List Nat}{i:Nat}{x:Str}{v:V}(h:FreeAt X sc fr ix)(h1:(own++fr)[i]?=some x)(h2:(start2 σ own ix)[i]?=some (some v)) :
  ∃j:Nat,X.N[j]?=some x/\σ[j]?=some (some v)/\sc.names.lookup x=some .free:=by
 by_cases hi:i<own.length
 ·unfold start2 at h2
  rw[A2 (by simpa using hi),K6,if_pos hi] at h2;cases h2
 ·unfold start2 at h2
  rw[Cs (by simpa using hi)] at h2;rw[Cs (by simpa using hi)] at h1;exact Lr h h1 (by simpa using h2)
def PIfs(X:Cx)(ifs:List Expr)(t:TT):Prop :=
 ∀(pins:List (Addr×Obj)) (s:AA) (σ:St) (H:Hp) (Q:Bool->Hp->Prop),Inv X pins σ H s->t σ H Q ->
  wpAny (AL X.prog X.w) X.A (forIn ifs true λc r=>if r=true then do let ok <- TJ c X.env (eval c X.env);pure (C3 ok) else pure (C3 r)) (TP X pins σ Q) X.xe s
def ADV:TT:=λ_ H Q=>Q true H
theorem Ci{X:Cx}:PIfs X [] ADV:=λ_ _ _ H _ I h=>wpAny_tests_nil ⟨H,I,h⟩
theorem Dj{X:Cx}{c:Expr}{t:TT}(h:PT X c t):PIfs X [c] t:=λpins s σ H Q I hw=>wpAny_tests_one (h pins s σ H Q I hw)
theorem Dl{prog:AM}{w:AT}{A:BQ}{R:RH->AA->Prop}{s:AA}{elt target iter:Expr}{ifs:List Expr}{scope:D3}{pos:Pos}{it acc:Ap}{env:Env}(I:Nat->AA->Prop)
  (turn:∀n s,I n s->wpAny (AL prog w) A (LD it) (λr s₁=>match r with
   | none=>R (.ok .next) s₁
   | some v=>wpAny (AL prog w) A (LY target it v) (λ_ s₁'=>wpAny (AL prog w) A (LX target env v) (λ_ s₂ =>
     wpAny (AL prog w) A (forIn ifs true λc r=>if r=true then do let ok <- TJ c env (eval c env);pure (C3 ok) else pure (C3 r)) (λok s₃ =>
      if ok=true then wpAny (AL prog w) A (eval elt env) (λx s₄ =>
       wpAny (AL prog w) A (call (.builtin "list.append") [acc,x]) (λ_ s₅=>∃m,m<n/\I m s₅) (λ_ _=>False) s₄) (λ_ _=>False) s₃
      else ∃m,m<n/\I m s₃) (λ_ _=>False) s₂) (λ_ _=>False) s₁') (λ_ _=>False) s₁) (λ_ _=>False) s)
  (n:Nat) (h:I n s) :
  codeAny (AL prog w) A (.compLoop (.ListComp elt [⟨target,iter,ifs,0⟩] scope pos) 0 it acc env) R s:=by
 refine codeAny_loop rfl I (λn s hI=>?_) n h;show wpAny _ A ((compTurn (.ListComp elt [⟨target,iter,ifs,0⟩] scope pos) 0 it acc env).onRaise (λx=>do noteFrame x env;theTreesLotGoes x)) _ _ s;refine wpAny_noted ?_;rw[compTurn_list];refine As (Nd (As (Ee (turn n s hI) (λr s₁ h₁=>?_) λ_ _ h'=>h'.elim)));cases r with
 | none=>exact wpAny_pure h₁
 | some v =>
  refine As (Ee h₁ (λ_ s₁' h₁'=>?_) λ_ _ h'=>h'.elim);refine As (Ee h₁' (λ_ s₂ h₂=>As (Ee h₂ (λok s₃ h₃=>?_) λ_ _ h'=>h'.elim)) λ_ _ h'=>h'.elim);cases ok with
  | false=>exact wpAny_pure ⟨rfl,h₃⟩
  | true =>
   exact As (As (Ee h₃ (λx s₄ h₄=>As (Ee h₄ (λ_ s₅ h₅=>wpAny_pure (wpAny_pure ⟨rfl,h₅⟩)) λ_ _ h'=>h'.elim)) λ_ _ h'=>h'.elim))
def Behind(X:Cx)(pins:List (Addr×Obj))(σ:St)(R:Hp->Prop)(C:Addr)(s':AA):Prop :=
 ∃(H':Hp) (m:Str->Option Ap),Inv X pins σ H' s'/\s'.heap.Ns C m/\FpOk X pins H' C/\R H'
theorem Inv.sameBut{X:Cx}{pins:List (Addr×Obj)}{σ:St}{H:Hp}{s:AA}{h':Heap}{C:Addr}(I:Inv X pins σ H s)(f:FpOk X pins H C)(sb:ET C s.heap h'):Inv X pins σ H {s with heap:=h'}:=by
 obtain ⟨f0,f1,f2,f3,f4,f5⟩:=f;exact I.turned (t':=s.toks) (λb o hb e=>(sb.2 b hb).trans e) f0 f1 f3 f4 f5
def Ek(J:It)(D:Addr)(g:TG)(tc:TT)(te:TE)(R:Hp->Prop)(τ:St)(H:Hp):Prop :=
 ∃W:Nat->Nat->St->Hp->Prop,(∃m,W 0 m τ H)/\∀i m τ H,W i m τ H ->
  (J.stop i H/\R H)\/(J.go i H/\∃N:St->Hp->Prop,(∀τ' H',N τ' H'->∃m',m'<m/\W (i+1) m' τ' H')/\∀x H',J.yld i H x H'->g x τ H' λτ2 H2=>tc τ2 H2 λb H3 =>
   if b=true then te τ2 H3 λv H4=>∃ys,H4 D=some (.lst ys)/\ys.length<sizeLine/\N τ2 (upd H4 D (.lst (ys++[v]))) else N τ2 H3)
section
variable{X:Cx}{pins:List (Addr×Obj)}{σ:St}{H:Hp}{s:AA}{tg elt iter:Expr}{ifs:List Expr}{scope:D3}{pos:Pos}{own fr:List Str}{ix:List Nat}{g:TG}{tc:TT}{te:TE}{it:Addr}{fp:List Addr}
 {tn:Nat->Heap->Prop}{J:It}
theorem Ua{R:Hp->Prop}{D:Addr}{h₁:Heap}{ob:Obj}{m0:Str->Option Ap}{tk:Nat}(hc:X.calm=true)(ok:CompOk X.env.scope scope)(hfr:FreeAt X scope fr ix)
  (hg:PG (cxComp X (own++fr) scope fp s H) tg g) (hi:PIfs (cxComp X (own++fr) scope fp s H) ifs tc) (he:PE (cxComp X (own++fr) scope fp s H) elt te)
  (I3:Inv X pins σ H s) (T:Turn X.prog X.w X.K tg J fp it tn) (st3:tn 0 s.heap) (f3:∀b∈fp,FpOk X pins H b)
  (hns:h₁.Ns s.heap.objs.size m0) (hsb:ET s.heap.objs.size (s.heap.push ob) h₁) (hq:Ek J D g tc te R (start2 σ own ix) H) :
  codeAny (AL X.prog X.w) X.A (.compStart (.ListComp elt [⟨tg,iter,ifs,0⟩] scope pos) 0 (.ref it) (.ref D) (OA scope (cloX X scope) s.heap.objs.size X.env))
   (λr s'=>r=.ok .next/\Behind X pins σ R s.heap.objs.size s') {s with heap:=h₁,toks:=tk}:=by
 have old:∀b o,s.heap.get? b=some o->h₁.get? b=some o:=λb o e=>hsb.extBut b o (BU (AY e)) (AD _ e);have sub:∀x c,(cloX X scope).lookup x=some c->X.env.cells.lookup x=some c:=Jc (λx c e=>by simp at e);have outerK:∀x,(x,BN)∈scope.names->X.env.kindOf x=some .cell\/X.env.kindOf x=some .free:=λx hx=>ok.free (x,.free) hx rfl;have has:∀x,(x,BN)∈scope.names->∃c,(cloX X scope).lookup x=some c:=λx hx=>by
  obtain ⟨c,hcl⟩:=I3.ok.has x (outerK x hx);exact EK.mp (JT (by rw[hcl];rfl) hx)
 have lt3:∀b∈fp,b<s.heap.objs.size:=λb hb=>by
  obtain ⟨o,ho,_⟩:=T.obj 0 _ st3 b hb;exact AY ho
 have nostk:∀b∈fp,b∉frs X.stack:=λb hb hs=>by
  rcases AX.mp (I3.stkSub b hs) with z | z
  ·exact (f3 b hb).2.1 z
  ·exact (f3 b hb).2.2.1 z
 have ncell:∀b∈fp,∀x c,(cloX X scope).lookup x=some c->c≠b:=λb hb x c h=>(f3 b hb).2.2.2.2.1 x c (sub x c h);have I4:Inv (cxComp X (own++fr) scope fp s H) [] (start2 σ own ix) H {s with heap:=h₁,toks:=tk}:=by
  refine ⟨⟨I3.ok.mod,ok.kind,I3.ok.glob,I3.ok.blt,AF _,?inj,?has,?cab,I3.ok.hd,I3.ok.frames,.inl rfl,?exf,I3.bs,CF I3.ok.bsz I3.sz,?noex,nostk,I3.stack,I3.stkFree⟩,
   rfl,I3.bare,Un.kept old,⟨m0,hns,?loc⟩,?cell,I3.hok.fresh (AF _),?freeC,?pin,I3.hok.kept old,?len⟩
  case inj=>exact λx y c h1 h2=>I3.ok.inj x y c (sub x c h1) (sub y c h2)
  case has=>exact λx hx=>has x (Jm ok.nocell hx)
  case cab=>exact λx c h=>by cases h
  case exf=>exact λb hb=>⟨BU (lt3 b hb),ncell b hb⟩
  case noex =>
   intro b o e hb;rcases (f3 b hb).2.2.2.1 with z | z
   ·exact I3.ok.noex b o e z
   ·exact absurd (Cf (Cf (AY e) I3.ok.bsz) z) (D6 _)
  case loc =>
   intro i x v e1 e2 e3;obtain ⟨j,a1,a2,a3⟩:=Kv hfr e1 e2;have mem:(x,BN)∈scope.names:=FI a3;obtain ⟨m,hn,hl⟩:=I3.loc;have ok1:=outerK x mem;obtain ⟨u,r,l⟩:=hl j x v a1 a2 (ok1.elim (λz=>.inr (.inl z)) λz=>.inr (.inr z));rcases l with⟨k,_⟩ | ⟨k,c,hcl,o,ho,hd⟩
   ·rcases ok1 with z | z
    ·rw[k] at z;cases z
    ·rw[k] at z;cases z
   ·obtain ⟨c',hc'⟩:=has x mem
    have e:=sub x c' hc';rw[hcl] at e;cases e;exact ⟨u,r,.inr ⟨Cq a3,c,hc',o,old _ _ ho,hd⟩⟩
  case cell =>
   intro x c h;obtain ⟨v,o,ho,hd⟩:=I3.cell x c (sub x c h);exact ⟨v,o,old _ _ ho,hd⟩
  case freeC=>exact λx c h=>I3.freeC x c (sub x c h)
  case pin=>exact λp hp=>absurd (show p∈([]:List (Addr×Obj)) from hp) (by simp)
  case len=>exact Ln hfr
 have st4:tn 0 h₁:=T.keep 0 _ _ st3 λb _ o e=>old b o e;have stat:∀{H':Hp},(∀b∈fp,H' b=none)->∀b∈fp,FpOk (cxComp X (own++fr) scope fp s H) [] H' b:=λ{H'} hn b hb =>
  ⟨hn b hb,BU (lt3 b hb),nostk b hb,.inl hb,ncell b hb,λp hp=>absurd (show p∈([]:List (Addr×Obj)) from hp) (by simp)⟩
 obtain ⟨W,⟨m1,w0⟩,turn⟩:=hq;have loop:codeAny (AL X.prog X.w) X.A (.compLoop (.ListComp elt [⟨tg,iter,ifs,0⟩] scope pos) 0 (.ref it) (.ref D) (OA scope (cloX X scope) s.heap.objs.size X.env))
   (λr s'=>r=.ok .next/\Behind X pins σ R s.heap.objs.size s') {s with heap:=h₁,toks:=tk}:=by
  refine Dl (λn s'=>∃i τ H',Inv (cxComp X (own++fr) scope fp s H) [] τ H' s'/\tn i s'.heap/\(∀b∈fp,H' b=none)/\W i n τ H') ?_ m1 ⟨0,_,H,I4,st4,λb hb=>(f3 b hb).1,w0⟩;rintro n s5 ⟨i,τ5,H5,I5,st5,fr5,w5⟩;rcases turn i n τ5 H5 w5 with⟨stop,qn⟩ | ⟨go,N,hN,step⟩
  ·refine thn (T.done (cxComp X (own++fr) scope fp s H) rfl rfl rfl hc i [] s5 τ5 H5 _ I5 (stat fr5) st5 stop) λr s6 ⟨hr,I6⟩=>?_
   subst hr;obtain ⟨m6,hn6,_⟩:=I6.loc;exact ⟨rfl,H5,m6,I3.call' (ch:=fp) I6.os I6.base I6.hok I6.bare (λb hb=>⟨(f3 b hb).2.2.2.1,(f3 b hb).2.1,(f3 b hb).2.2.2.2.1,(f3 b hb).2.2.2.2.2⟩),hn6,I3.fpOk (AF _) I6.free,qn⟩
  ·refine thn (T.item (cxComp X (own++fr) scope fp s H) rfl rfl rfl hc i [] s5 τ5 H5 _ I5 (stat fr5) st5 go) λr s6 ⟨u,hr,h6⟩=>?_
   subst hr;refine thn h6 λ_ s7 ⟨x,H7,I7,r7,y7,st7,fr7⟩=>?_;have I7':=I7.pinned (stat fr7) (T.obj _ _ st7);have again:∀{τ8:St}{H8:Hp}{s8:AA},Inv (cxComp X (own++fr) scope fp s H) ([]++pinsAt fp s7.heap) τ8 H8 s8->N τ8 H8 ->
     ∃m,m<n/\∃i τ H',Inv (cxComp X (own++fr) scope fp s H) [] τ H' s8/\tn i s8.heap/\(∀b∈fp,H' b=none)/\W i m τ H':=λ{τ8 H8 s8} I8 n8=>by
    obtain ⟨m',hm,w8⟩:=hN τ8 H8 n8;refine ⟨m',hm,i+1,τ8,H8,I8.unpinned,T.keep _ _ _ st7 λb hb o e=>(I8.pin (b,o) (BS _ (BS _ (DW hb e)))).1,λb hb=>?_,w8⟩;obtain ⟨o,e,d⟩:=T.obj _ _ st7 b hb;exact (I8.pin (b,o) (BS _ (BS _ (DW hb e)))).2.1
   refine thn (hg _ s7 τ5 H7 x u _ I7' r7 (step x H7 y7)) λ_ s8 ⟨τ8,H8,I8,q8⟩=>?_;refine thn (hi _ s8 τ8 H8 _ I8 q8) λb s9 ⟨H9,I9,q9⟩=>?_;cases b with
   | false=>exact again I9 q9
   | true =>
    refine thn (he _ s9 τ8 H9 _ I9 q9) λuv s10 ⟨v,H10,I10,r10,ys,hD,hz,q10⟩=>?_;refine thn (Cz (X:=cxComp X (own++fr) scope fp s H) _ s10 τ8 H10 (.ref D) [v] (.ref D) [uv] (λ_ H'=>N τ8 H') I10 rfl (.cons r10 .nil) ⟨D,ys,v,rfl,rfl,hD,hz,q10⟩) λ_ s11 ⟨_,H11,I11,_,q11⟩=>?_;exact again I11 q11
 exact O9 loop (T.self X.A 0 _ _ _ st4 loop)
theorem TV{R:V->Hp->Prop}(hc:X.calm=true)(ok:CompOk X.env.scope scope)(hfr:FreeAt X scope fr ix)
  (hg:∀fp s H,PG (cxComp X (own++fr) scope fp s H) tg g) (hi:∀fp s H,PIfs (cxComp X (own++fr) scope fp s H) ifs tc) (he:∀fp s H,PE (cxComp X (own++fr) scope fp s H) elt te)
  (I2:Inv X pins σ H s) (T:Turn X.prog X.w X.K tg J fp it tn) (st2:tn 0 s.heap) (f2:∀b∈fp,FpOk X pins H b)
  (hq:∀D,H D=none->Ek J D g tc te (R (.ref D)) (start2 σ own ix) (upd H D (.lst []))) {E:Ap->AA->Prop} :
  wpAny (AL X.prog X.w) X.A (N7 []) (λacc s₃=>wpAny (AL X.prog X.w) X.A (MM scope X.env.globals (cloX X scope) [] X.env.qual none .none (some X.env)) (λcenv s₄ =>
   codeAny (AL X.prog X.w) X.A (.compStart (.ListComp elt [⟨tg,iter,ifs,0⟩] scope pos) 0 (.ref it) acc {cenv with scope:=relabel scope X.env})
    (λr s'=>r=.ok .next/\∃v,RelV v acc/\Behind X pins σ (R v) cenv.locals s') s₄) E s₃) E s:=by
 refine CH (wpAny_newFunctionEnv ok.nocell (by intro y hy;simp at hy) (λh₁ hns₁ hsb₁=>?_) ok.kind);have hD:H s.heap.objs.size=none:=I2.hok.fresh (AF _);have I3:Inv X pins σ (upd H s.heap.objs.size (.lst [])) {s with heap:=s.heap.push {cls:=.type "list",dict:=none,data:=.seq ([]:List Ap).toArray}} :=
  I2.laid (t':=s.toks) (λb u e=>AD _ e) (AF _) ⟨Bi _,[],0,.nil,AN _ rfl⟩
 have st3:tn 0 (s.heap.push {cls:=.type "list",dict:=none,data:=.seq ([]:List Ap).toArray}):=T.keep 0 _ _ st2 λb _ o e=>AD _ e;have f3:∀b∈fp,FpOk X pins (upd H s.heap.objs.size (.lst [])) b:=λb hb=>by
  obtain ⟨f0,fr⟩:=f2 b hb;obtain ⟨o,ho,_⟩:=T.obj 0 _ st2 b hb;exact ⟨by rw[Ag (BU (AY ho))];exact f0,fr⟩
 refine EJ (Ua (R:=R (.ref s.heap.objs.size)) (D:=s.heap.objs.size) hc ok hfr (hg _ _ _) (hi _ _ _) (he _ _ _) I3 T st3 f3 hns₁ hsb₁ (hq _ hD)) λr s' ⟨e,b⟩=>⟨e,V.ref s.heap.objs.size,rfl,b⟩
def Vk(own:List Str)(ix:List Nat)(wi:TI)(g:TG)(tc:TT)(te:TE):TE:=λσ H Q=>wi σ H λJ H1=>∀D,H1 D=none->Ek J D g tc te (Q (.ref D)) (start2 σ own ix) (upd H1 D (.lst []))
end
section
variable{X:Cx}{tg elt iter:Expr}{ifs:List Expr}{scope:D3}{pos:Pos}{g:TG}{tc:TT}{te:TE}{wi:TI}
theorem Mv{pins:List (Addr×Obj)}{σ:St}{H:Hp}{s:AA}(I:Inv X pins σ H s)(ok:CompOk X.env.scope scope):∀y∈scope.names,y.2=.free->(X.env.cells.lookup y.1).isSome=true:=λy hy hf=>by
 obtain ⟨c,h⟩:=I.ok.has y.1 (ok.free y hy hf);rw[h];rfl
theorem Ca(osc:D3)(own fr:List Str)(ix:List Nat)(hc:X.calm=true)(ho:X.env.scope=osc)(hok:compOk osc scope=true)(hfr:FreeAt X scope fr ix)(hit:PI X tg iter wi)
  (hg:∀fp s H,PG (cxComp X (own++fr) scope fp s H) tg g) (hi:∀fp s H,PIfs (cxComp X (own++fr) scope fp s H) ifs tc) (he:∀fp s H,PE (cxComp X (own++fr) scope fp s H) elt te)
  (hs:∀x,JE iter X.env x=pure x:=by intro _;rfl):PE X (.ListComp elt [⟨tg,iter,ifs,0⟩] scope pos) (Vk own ix wi g tc te):=by
 intro pins s σ H Q I h;have ok:=CompOk.of (ho ▸ hok);rw[eval_ListComp];refine K0 (use:=none) rfl hs (Uy (Mv I ok)) ok.kind ok.loc (thn (hit pins s σ H _ I h) λxv s₁ h₁=>thn h₁ λitv s₂ h₂=>?_);obtain ⟨it,fp,tn,J,H2,rfl,I2,T,st2,f2,hq⟩:=h₂;refine thn (TV (R:=Q) hc ok hfr hg hi he I2 T st2 f2 hq) λacc s₃ h₃=>thn h₃ λcenv s₄ h₄=>EJ h₄ λr s' ⟨hr,v,rv,H',m,I',hn,fpo,q⟩=>?_;subst hr;exact ⟨m,hn,λh' sb=>⟨v,H',I'.sameBut fpo sb,rv,q⟩⟩
set_option tactic.hygienic true in
theorem QC{i:Nat}{x:Str}{pos' spos:Pos}(osc:D3)(own fr:List Str)(ix:List Nat)(hN:X.N.Nodup)(hx:X.N[i]?=some x)(hl:Loc X.env.scope x)(hc:X.calm=true)(ho:X.env.scope=osc)(hok:compOk osc scope=true)(hfr:FreeAt X scope fr ix)(hit:PI X tg iter wi)
  (hg:∀fp s H,PG (cxComp X (own++fr) scope fp s H) tg g) (hi:∀fp s H,PIfs (cxComp X (own++fr) scope fp s H) ifs tc) (he:∀fp s H,PE (cxComp X (own++fr) scope fp s H) elt te)
  (hsw:KM (.ListComp elt [⟨tg,iter,ifs,0⟩] scope pos) (some (.Name x pos')) spos.line X.env=pure true:=by rfl) (hs:∀x,JE iter X.env x=pure x:=by intro _;rfl)
  (hf:X.fn x=true\/X.env.scope.names.lookup x=some .local:=by first | exact .inl rfl | exact .inr rfl | assumption) :
  PS X (.Assign [.Name x pos'] (.ListComp elt [⟨tg,iter,ifs,0⟩] scope pos) spos) (Yz (Vk own ix wi g tc te) (gName i)):=by
 intro pins s σ H D I h;have ok:=CompOk.of (ho ▸ hok);rw[Pt _ _ _ _ hsw];refine As (Nd (As ?_));show wpAny _ X.A (do let _ <- comprehension (.ListComp elt [⟨tg,iter,ifs,0⟩] scope pos) scope X.env _ (N7 []) false (eval iter X.env) (some (LX (.Name x pos') X.env))) _ _ s;refine As (Ee (K0 (use:=some (LX (.Name x pos') X.env)) (Q:=λ_ s'=>SP X pins D .next s') rfl hs (Uy (Mv I ok)) ok.kind ok.loc
  (thn (hit pins s σ H _ I h) λxv s₁ h₁=>thn h₁ λitv s₂ h₂=>?_)) (λ_ s' hq=>wpAny_pure (wpAny_pure hq)) λ_ _ e=>e)
 obtain ⟨it,fp,tn,J,H2,rfl,I2,T,st2,f2,hq⟩:=h₂;refine thn (TV (R:=λv H'=>D.nx (σ.set i (some v)) H') hc ok hfr hg hi he I2 T st2 f2 hq) λacc s₃ h₃=>thn h₃ λcenv s₄ h₄=>EJ h₄ λr s' ⟨hr,v,rv,H',m,I',hn,fpo,q⟩=>?_;subst hr;show wpAny _ X.A (LX (.Name x pos') X.env acc) _ _ s';refine NH (JZ I' hN hx hl rv (λs'' I'' hch=>?_) hf);obtain ⟨a,sb,ha⟩:=hch;have hCa:cenv.locals≠a:=by
  rcases ha with z | z
  ·rw[z];exact fpo.2.1
  ·exact λe=>fpo.2.2.2.2.1 x a z e.symm
 exact ⟨m,hn.sameBut sb hCa,λh' sb'=>⟨_,H',I''.sameBut fpo sb',q⟩⟩
end
section
variable{prog:AM}{w:AT}{A:BQ}{E:Ap->AA->Prop}{s:AA}
theorem Io{it l:Addr}{i:Nat}{items}{x:Ap}{Q:Ap->AA->Prop}(hit:s.heap.IsTupleIter it l i)
  (hl:s.heap.IsTuple l items) (hx:items[i]?=some x)
  (hQ:∀h',h'.IsTupleIter it l (i+1)->ET it s.heap h'->Q x {s with heap:=h'}) :
  wpAny (AL prog w) A (HK (.ref it)) Q E s:=by
 obtain ⟨o,ho,hc,hd⟩:=id hit;obtain ⟨ol,hol,_,nl,hdl⟩:=hl;unfold HK;refine As (wpAny_callSpecial?_slot (name:=HV "__next__") hit.typeIs He
  (DE He hit.typeIs M5 ?_ (MO _)))
 show wpAny _ _ (field (.ref it) 0 >>= _) _ _ s;refine As (Kt ho hd (x:=.ref l) rfl ?_);show wpAny _ _ (if (AS l==C1)=true then _ else _) _ _ s;rw[if_neg (show ¬ ((AS l==C1)=true) from Be)];show wpAny _ _ (field (.ref it) 1 >>= _) _ _ s;refine As (Kt ho hd (x:=.int i 0) rfl ?_);show wpAny _ _ (OV (.ref l) >>= _) _ _ s;refine As (JP hol hdl ?_);simp only[C9,hx];refine As (HR ho hd (by simp) (wpAny_pure ⟨x,rfl,wpAny_pure (hQ _ ?_ (DZ ..))⟩));exact ⟨_,EX _ ho (JS (E7 hd _)),(Lc ..).trans hc,by
  rw[E7 hd];simp[FY]⟩
theorem Ja{it l:Addr}{i:Nat}{items}{Q:Ap->AA->Prop}(hh:A.handled=none)
  (hit:s.heap.IsTupleIter it l i) (hl:s.heap.IsTuple l items) (hx:items[i]?=none)
  (hE:∀h' e,SY it s.heap h'->(∃o,h'.get? e=some o/\o.cls=.type "StopIteration")->E (.ref e) {s with heap:=h'}) :
  wpAny (AL prog w) A (HK (.ref it)) Q E s:=by
 obtain ⟨o,ho,hc,hd⟩:=id hit;obtain ⟨ol,hol,_,nl,hdl⟩:=hl;unfold HK;refine As (wpAny_callSpecial?_slot (name:=HV "__next__") hit.typeIs He
  (DE He hit.typeIs M5 ?_ (MO _)))
 show wpAny _ _ (field (.ref it) 0 >>= _) _ _ s;refine As (Kt ho hd (x:=.ref l) rfl ?_);show wpAny _ _ (if (AS l==C1)=true then _ else _) _ _ s;rw[if_neg (show ¬ ((AS l==C1)=true) from Be)];show wpAny _ _ (field (.ref it) 1 >>= _) _ _ s;refine As (Kt ho hd (x:=.int i 0) rfl ?_);show wpAny _ _ (OV (.ref l) >>= _) _ _ s;refine As (JP hol hdl ?_);simp only[C9,hx];refine As (HL (As (HR ho hd (by simp) ?_)));show wpAny _ _ (RU (.type "StopIteration") [] >>= _) _ _ _;refine As ?_;simp only[RU,W0];refine As (CH ?_ (by size_fits));refine As (m:=JU _ _) (LG (a:=C1) (by first | rfl | (simp only[JU];rfl)) ?_);refine CH ?_ (by size_fits);simp only[Tk];refine As (Q1 ?_)
 first | rw[show A.in1.handled=none from hh] | rw[hh]
 refine As (wpAny_pure (SZ ?_));exact hE _ _ (((DZ ..).extBut.push _).push _) ⟨_,AN _ rfl,rfl⟩
end
theorem Rv{prog:AM}{w:AT}{A:BQ}(hh:A.handled=none)(it l:Addr)(hne:l≠it)(items:Array Ap) :
  Draws prog w A it [it,l] items.size (λi v=>items[i]?=some v) (λi h=>h.IsTupleIter it l i/\h.IsTuple l items) where
 live:=λ_ _ st=>let ⟨o,ho,_⟩:=st.1;⟨o,ho⟩
 frame:=λ_ _ _ st hk=>⟨st.1.at λo e=>hk it (by simp) o e,st.2.at λo e=>hk l (by simp) o e⟩
 item:=λi s Q E hi st hQ=>by
  refine Io st.1 st.2 (x:=items[i]) (by simp[hi]) λh' hit' hs'=>?_;exact hQ _ h' s.toks (by simp[hi]) ⟨hit',st.2.extBut hs'.extBut hne⟩ hs'
 done:=λs Q E st hE=>Ja hh st.1 st.2 (by simp) hE
section
open AutoSeq1 (wpAny_loadPart')
set_option tactic.hygienic true in
theorem Gf(l:Addr)(items:Array Ap)(n:Nat)(dct:Option Addr)(sl:Array (Option Ap)) :
  Meets (Builtin.«enumerate.__new__» ⟨[.type "enumerate",.ref l],[]⟩) (λ_ R s=>s.heap.get? l=some {cls:=.type "tuple",dict:=dct,data:=.seq items n,slots:=sl} /\
   R (.ok (.ret (.ref (s.heap.push {cls:=.type "tuple_iterator",data:=.fields #[.ref l,.int 0 0]}).objs.size)))
    {s with heap:=(s.heap.push {cls:=.type "tuple_iterator",data:=.fields #[.ref l,.int 0 0]}).push {cls:=.type "enumerate",data:=.fields #[.none,.bool false,.ref s.heap.objs.size,FY 0,.none,.none]}}) :=
 .of_wp λprog w A R s h=>by
  obtain ⟨hp,g,d,tk,os⟩:=s;obtain ⟨hl,h⟩:=h;have hsub:=sub_enumerate;have hL:Heap.IsTuple (Shared.heap ⟨hp,g,d,tk,os⟩) l items:=⟨_,hl,rfl,n,rfl⟩
  wp_walk using wpAny_loadPart' hl
  refine wpAny_stack_any λst=>wpAny_pure ?_;split
  ·rename_i c _ _ _ _ _
   cases (c==EQ "enumerate")
   ·wp_walk using wpAny_loadPart' hl,G3 hL
    exact ⟨_,rfl,h⟩
   ·wp_walk using wpAny_loadPart' hl,G3 hL
    exact ⟨_,rfl,h⟩
  ·wp_walk using wpAny_loadPart' hl,G3 hL
   exact ⟨_,rfl,h⟩
end
theorem Fx{prog:AM}{w:AT}{A:BQ}{E:Ap->AA->Prop}{s:AA}{l:Addr}{items:Array Ap}{Q:Ap->AA->Prop}(hL:s.heap.IsTuple l items)
  (h:∀h',TW h' (s.heap.objs.size+1) s.heap.objs.size 0 .none->h'.IsTupleIter s.heap.objs.size l 0->h'.objs.size=s.heap.objs.size+2 ->
   (∀b o,s.heap.get? b=some o->h'.get? b=some o)->Q (.ref (s.heap.objs.size+1)) {s with heap:=h'}) :
  wpAny (AL prog w) A (call (.type "enumerate") [.ref l]) Q E s:=by
 obtain ⟨⟨c,dct,dt,sl⟩,hl,hc,n,hd⟩:=hL
 replace hc:c=.type "tuple":=hc
 replace hd:dt=.seq items n:=hd
 subst hc hd;refine callType_new F.called_enumerate (by decide) (F.typeCall_enumerate_1 _) (F.newCall_enumerate_1 _) (λobj=>F.args_object_init_2 obj _) F.entry_enumerate_new
  (Gf l items n dct sl) ⟨hl,?_⟩
 have hz:(s.heap.push {cls:=.type "tuple_iterator",data:=.fields #[.ref l,.int 0 0]}).objs.size=s.heap.objs.size+1:=DB ..;show _/\_;rw[hz];have he:TW ((s.heap.push {cls:=.type "tuple_iterator",data:=.fields #[.ref l,.int 0 0]}).push
   {cls:=.type "enumerate",data:=.fields #[.none,.bool false,.ref s.heap.objs.size,FY 0,.none,.none]}) (s.heap.objs.size+1) s.heap.objs.size 0 .none:=by
  have:=AN (s.heap.push {cls:=.type "tuple_iterator",data:=.fields #[.ref l,.int 0 0]})
   (o:={cls:=.type "enumerate",data:=.fields #[.none,.bool false,.ref s.heap.objs.size,FY 0,.none,.none]}) rfl
  rw[hz] at this;exact this
 refine ⟨⟨_,he,rfl⟩,h _ he ⟨_,AD _ (AN _ rfl),rfl,rfl⟩ (by rw[DB,hz]) λb o x=>AD _ (AD _ x)⟩
section
variable{X:Cx}{pins:List (Addr×Obj)}{σ:St}{H:Hp}{s:AA}{h':Heap}
theorem Inv.walked{t':Nat}{wr:List Addr}(I:Inv X pins σ H s)(k:∀b o,b∉wr->s.heap.get? b=some o->h'.get? b=some o)(hf:∀b∈wr,FpOk X pins H b):Inv X pins σ H {s with heap:=h',toks:=t'}:=by
 have nit:∀b u,H b=some u->b∉wr:=λb u e z=>by rw[(hf b z).1] at e;cases e
 refine I.step (g':=s.gens) (d':=s.drawn) (ch:=wr) (λb hb=>?_) (λb o _ _ hc e _=>k b o hc e) (λb o _ _ hc e _=>⟨o.slots,k b o hc e⟩) (λ_ _ _ _ n=>n)
  (λb o hc e=>⟨o,k b o hc e⟩) (λ_ _ e=>e) (λ_ _ _ e=>e) (λb ps e=>⟨#[],by rw[e];simp⟩) (λm hm=>?_) (λb u e=>?_) I.bare
 ·obtain ⟨f0,f1,f2,f3,f4,f5⟩:=hf b hb
  exact ⟨f3,f1,f4,f5⟩
 ·obtain ⟨o,es,ep,ho,r⟩:=hm
  exact ⟨o,es,ep,k _ o (λz=>(hf _ z).2.1 rfl) ho,r⟩
 ·refine (I.hok b u e).stay (λc v hc q=>k c v ?_ q) (λ_ q=>q) λ_ _ q=>q
  rcases hc with z | z
  ·rw[z];exact nit b u e
  ·exact nit c _ z
theorem Inv.track{a:Addr}{o:HO}(I:Inv X pins σ H s)(f:FpOk X pins H a)(new:ObjOk X.prog X.w (upd H a o) s.heap a o):Inv X pins σ (upd H a o) s:=by
 obtain ⟨f0,f1,f2,f3,f4,f5⟩:=f;have ne:∀b u,H b=some u->b≠a:=λb u e z=>by rw[z,f0] at e;cases e
 obtain ⟨hh,g,d,t,os⟩:=s;refine I.step (h':=hh) (g':=g) (d':=d) (t':=t) (ch:=[a]) (λb hb=>?_) (λb o _ _ _ e _=>e) (λb o _ _ _ e _=>⟨o.slots,e⟩) (λb o hc _ n=>?_) (λb o _ e=>⟨o,e⟩)
  (λb xs e=>?_) (λb u xs e=>?_) (λb ps e=>⟨#[],?_⟩) (λm hm=>hm) (λb u e=>?_) I.bare
 ·have e:b=a:=by simpa using hb
  subst e;exact ⟨f3,f1,f4,f5⟩
 ·rw[Ag (λz=>hc (by simp[z]))];exact n
 ·rw[Ag (ne b _ e)];exact e
 ·rw[Ag (ne b _ e)];exact e
 ·rw[Ag (ne b _ e),e];simp
 ·by_cases hb:b=a
  ·subst hb;rw[Ab] at e;cases e;exact new
  ·rw[Ag hb] at e
   exact (I.hok b u e).stay (λ_ _ _ q=>q) (λc q=>by rw[Ag (ne c _ q)];exact q) λc xs q=>by rw[Ag (ne c _ q)];exact q
end
def Ien(S:Hp->List V->Prop):It :=
 ⟨λi H=>∃xs x,S H xs/\xs[i]?=some x,λi H v H'=>∃T x,v=.ref T/\H T=none/\H'=upd H T (.tup [.int i,x])/\∀xs,S H xs->xs[i]?=some x,λi H=>∃xs,S H xs/\xs.length=i⟩
theorem YB{P:AM}{w:AT}{K:Au}{elts:List Expr}{k:Nat}{tp:Pos}{S:Hp->List V->Prop}{e it l:Addr}{St0:Nat->Heap->Prop}
  (hei:e≠it)
  (obj:∀i h,St0 i h->∃o,h.get? it=some o/\∀v,o.data≠.cell v)
  (keep:∀i h h',St0 i h->(∀o,h.get? it=some o->h'.get? it=some o)->St0 i h')
  (drw:∀(X:Cx),X.prog=P->X.w=w->X.K=K->X.calm=true->∀(i:Nat) (pins:List (Addr×Obj)) (s:AA) (σ:St) (H:Hp) (xs:List V),Inv X pins σ H s->St0 i s.heap->(∃old,TW s.heap e it i old)->S H xs ->
   ∃(its:List Ap) (fp:List Addr) (St:Nat->Heap->Prop),Vals xs its/\Draws P w X.A.in1 it fp its.toArray.size (λi v=>its.toArray[i]?=some v) St/\St i s.heap/\e∉fp/\it∈fp/\(∀j h,St j h->St0 j h))
  (inj:∀(X:Cx),X.K=K->∀(pins:List (Addr×Obj)) (s:AA) (σ:St) (H:Hp) (xs ys:List V),Inv X pins σ H s->S H xs->S H ys->xs=ys) :
  Turn P w K (.Tuple elts k tp) (Ien S) [e,it] e (λi h=>(∃old,TW h e it i old)/\St0 i h) where
 mem:=by simp
 obj:=λi h st b hb=>by
  obtain ⟨⟨old,he⟩,hs⟩:=st;rcases AX.mp hb with rfl | hb
  ·exact ⟨_,he,λv z=>by
    have z':SU _=U6 v:=z;cases z'⟩
  ·have e1:b=it:=by simpa using hb
   subst e1;exact obj i h hs
 keep:=λi h h' st k=>⟨let ⟨old,he⟩:=st.1;⟨old,k e (by simp) _ he⟩,keep i h h' st.2 λo q=>k it (by simp) o q⟩
 item:=by
  intro X hP hw hK hc i pins s σ H E I hf st hg;obtain ⟨xs,x,hq,hx⟩:=hg;obtain ⟨its,fp,St,rv,Dr,hst,hef,hif,hback⟩:=drw X hP hw hK hc i pins s σ H xs I st.2 st.1 hq;subst hP hw;obtain ⟨u,hu,ru⟩:=rv.get hx;have hi:i<its.toArray.size:=by rw[A9];exact (AJ.mp hu).1
  have hu':its.toArray[i]?=some u:=by simpa using hu
  have WT:=SF Dr e hei hef hif;refine WT.item i s _ _ hi ⟨st.1,hst⟩ λT vals h' tk hPt hsz hT hmid hk=>⟨.ref T,rfl,?_⟩;obtain ⟨t,y,hy,rfl⟩:=hPt;have hTw:T∉[e,it]:=WT.apart i T _ hmid;rw[hu'] at hy;have hy':u=y:=BY hy;subst hy';have hwr:∀b∈[e,it],FpOk X pins H b:=hf;have I1:Inv X pins σ H {s with heap:=h',toks:=tk}:=I.walked hk hwr;have hTn:H T=none:=I.hok.fresh hsz;have I2:Inv X pins σ (upd H T (.tup [.int i,x])) {s with heap:=h',toks:=tk}:=by
   refine I1.track (I.fpOk hsz hTn) ⟨by show 2<=sizeLine;decide,[.int i t,u],.cons ⟨t,rfl⟩ (.cons ru .nil),?_⟩;exact hT
  have hwr2:∀b∈[e,it],FpOk X pins (upd H T (.tup [.int i,x])) b:=λb hb=>by
   obtain ⟨f0,fr⟩:=hf b hb;have ne:b≠T:=λz=>hTw (by rw[<- z];exact hb);exact ⟨by rw[Ag ne];exact f0,fr⟩
  refine WT.go elts k tp i T _ _ _ hmid λh'' hst'' hk''=>?_;refine ⟨.ref T,_,I2.walked (t':=tk) hk'' hwr2,rfl,⟨T,x,rfl,hTn,rfl,λys hy=>by rw[inj X hK pins s σ H ys xs I hy hq];exact hx⟩,⟨hst''.1,hback _ _ hst''.2⟩,λb hb=>(hwr2 b hb).1⟩
 done:=by
  intro X hP hw hK hc i pins s σ H E I hf st hg;obtain ⟨xs,hq,hx⟩:=hg;obtain ⟨its,fp,St,rv,Dr,hst,hef,hif,hback⟩:=drw X hP hw hK hc i pins s σ H xs I st.2 st.1 hq;subst hP hw;have hl:=rv.length;have hi:i=its.toArray.size:=by rw[A9];lia
  subst hi;exact (SF Dr e hei hef hif).done s _ _ ⟨st.1,hst⟩ λh' tk hk=>⟨rfl,I.walked hk hf⟩
 self:=λA i s Q E st h=>by
  obtain ⟨⟨old,he⟩,_⟩:=st;exact SG he h
theorem AAy{h:Heap}{a b:Addr}{o u:Obj}(ha:h.get? a=some o)(hb:h.get? b=some u)(hc:o.cls≠u.cls):a≠b:=λe=>by
 subst e;rw[ha] at hb;cases hb;exact hc rfl
theorem Ul{P:AM}{w:AT}{K:Au}{elts:List Expr}{k:Nat}{tp:Pos}{e it a:Addr}(hei:e≠it) :
  Turn P w K (.Tuple elts k tp) (Ien λH xs=>SqT K H a xs) [e,it] e (λi h=>(∃old,TW h e it i old)/\h.IsTupleIter it a i):=by
 refine YB (l:=a) hei (λi h st=>?_) (λi h h' st k=>st.at k) (λX hP hw hK hc i pins s σ H xs I st he hq=>?_) (λX hK pins s σ H xs ys I h1 h2=>?_)
 ·obtain ⟨o,e,c,d⟩:=st
  exact ⟨o,e,λv z=>by rw[d] at z;cases z⟩
 ·subst hP hw hK
  obtain ⟨its,rv,p,hz⟩:=I.tuple hq;obtain ⟨old,he⟩:=he;obtain ⟨ol,hol,hcl,_⟩:=id p;obtain ⟨oi,hoi,hci,_⟩:=id st;have h1:a≠it:=AAy hol hoi (by rw[hcl,hci];decide);have h2:e≠a:=AAy he hol (by rw[hcl];show EQ "enumerate"≠EQ "tuple";decide);exact ⟨its,[it,a],_,rv,Rv (A:=X.A.in1) (I.ok.hd hc) it a h1 its.toArray,⟨st,p⟩,by simp[hei,h2],by simp,λj h z=>z.1⟩
 ·subst hK
  exact I.tuple_inj h1 h2
section
variable{X:Cx}{elts:List Expr}{k:Nat}{tp:Pos}
def AFh(K:Au)(ta:TA):TI:=λσ H R=>ta σ H λvs H1=>∃a,vs=[.ref a]/\(∃xs,SqT K H1 a xs)/\R (Ien λH xs=>SqT K H a xs) H1
theorem Ke{l:Expr}{ta:TA}{p pos:Pos}(hg:Gl X "enumerate")(hm:X.mg "enumerate" = none)(ha:PA X [l] ta)(hs:Ct [l] X.env=[(false,eval l X.env)]:=by rfl) :
  PI X (.Tuple elts k tp) (.Call (.Name "enumerate" p) [l] [] pos) (AFh X.K ta):=by
 intro pins s σ H R I h;refine VY (Em I hg hm boot_enumerate (D0 (thn (ha pos pins s σ H _ I h) λus s1 ⟨vs,H1,I1,r1,q1⟩=>?_) hs rfl));obtain ⟨a,rfl,⟨xs,hq⟩,q⟩:=q1;obtain ⟨u,rfl,ru⟩:=r1.one;cases ru;obtain ⟨its,rv,pl,hz⟩:=I1.tuple hq;refine Fx pl λh' he hit hsz hk=>SG he ?_;have I2:Inv X pins σ H1 {s1 with heap:=h'}:=I1.kept (t':=s1.toks) hk;refine ⟨s1.heap.objs.size+1,[s1.heap.objs.size+1,s1.heap.objs.size],_,_,H1,rfl,I2,Ul (Nat.succ_ne_self _),⟨⟨_,he⟩,hit⟩,λb hb=>?_,q⟩;have e:s1.heap.objs.size<=b:=by
  rcases AX.mp hb with rfl | hb
  ·exact LF _
  ·rw[Cn.mp hb];exact AF _
 exact I1.fpOk e (I1.hok.fresh e)
end
theorem Iu{J:It}{D:Addr}{g:TG}{tc:TT}{te:TE}{R:Hp->Prop}{τ:St}{H:Hp}(n:Nat)(Pv:Nat->St->Hp->Prop)(h0:Pv 0 τ H)(hgo:∀i τ H,i<n->Pv i τ H->J.go i H)(hstop:∀τ H,Pv n τ H->J.stop n H)
  (hs:∀i τ H x H',i<n->Pv i τ H->J.yld i H x H'->g x τ H' λτ2 H2=>tc τ2 H2 λb H3=>if b=true then te τ2 H3 λv H4=>∃ys,H4 D=some (.lst ys)/\ys.length<sizeLine/\Pv (i+1) τ2 (upd H4 D (.lst (ys++[v]))) else Pv (i+1) τ2 H3)
  (hd:∀τ H,Pv n τ H->R H):Ek J D g tc te R τ H:=by
 refine ⟨λi m τ H=>m=n-i/\i<=n/\Pv i τ H,⟨n,by simp,Bi _,h0⟩,?_⟩;rintro i m τ H ⟨rfl,hi,p⟩;by_cases hlt:i<n
 ·exact .inr ⟨hgo i τ H hlt p,Pv (i+1),λτ' H' p'=>⟨n-(i+1),by lia,rfl,hlt,p'⟩,λx H' y=>hs i τ H x H' hlt p y⟩
 ·have e:i=n:=by lia
  subst e;exact .inl ⟨hstop τ H p,hd τ H p⟩
section
variable{prog:AM}{w:AT}{A:BQ}{E:Ap->AA->Prop}{s:AA}
theorem Mf{l:Addr}{vs:List Ap}{Q:List Ap->AA->Prop}(hl:s.heap.IsTuple l vs.toArray)
  (h:Q vs {s with heap:=(s.heap.push (EE "list" #[] 0)).update s.heap.objs.size (EH (·++vs.toArray))}) (hsz:vs.length<=sizeLine:=by size_fits) :
  wpAny (AL prog w) A (Pw (.ref l)) Q E s:=by
 obtain ⟨o,ho,hc,n,hd⟩:=id hl;unfold Pw;refine As (MQ (EW entry_proto_collect' ?_));show wpAny _ _ (do again (.builtin "list.__iadd__" ⟨[<- N7 [],.ref l],[]⟩)) _ _ s;refine As (No (wpAny_pure ⟨RY _ (by decide +kernel),EW entry_list_iadd' ?_⟩));show wpAny _ _ (EO (.ref s.heap.objs.size) (.ref l) (.ref s.heap.objs.size)) _ _ {s with heap:=s.heap.push (EE "list" #[] 0)};unfold EO;have ho':(s.heap.push (EE "list" #[] 0)).get? l=some o:=AD _ ho;refine As (KU (T:="tuple") ⟨o,ho',hc⟩ ?_);have ht:(EQ "tuple" == EQ "tuple")=true:=by rfl
 rw[if_pos (by rw[ht];simp)];refine As (R6 ho' hd ?_);refine As (R6 (xs:=#[]) (n:=0) (AN _ rfl) rfl ?_);rw[if_neg (by simp)];refine As (Nw (xs:=#[]) (n:=0) (AN _ rfl) rfl ?_ (Bi _) (by show (#[]++vs.toArray).size<=sizeLine+1;simp only[Array.size_append,A9,G9];lia));refine wpAny_pure ?_;show wpAny (AL prog w) A (do
   let o <- load s.heap.objs.size
   match o.data with
   | .seq xs _=>pure xs.toList
   | _=>unsupported "internal:collect") Q E {s with heap:=(s.heap.push (EE "list" #[] 0)).update s.heap.objs.size (EH (·++vs.toArray))}
 refine As (P7 (get?_update_seq (AN _ rfl) _) ?_);show wpAny _ _ (pure ((#[]:Array Ap)++vs.toArray).toList) Q E _;rw[show ((#[]:Array Ap)++vs.toArray).toList=vs by simp];exact wpAny_pure h
theorem QB{l:Addr}{vs:List Ap}{ns:List Int}{Q:Ap->AA->Prop}(hl:s.heap.IsTuple l vs.toArray)(hI:Ff vs ns)(h64:vs.length<64)
  (h:∀(out:Array Ap) (ns':List Int),Ff out.toList ns'->ns'.Perm ns->ns'.Pairwise (·<=·)->Q (.ref (s.heap.objs.size+1)) {s with heap:=sortedAll s.heap vs out}) :
  wpAny (AL prog w) A (call (.builtin "sorted") [.ref l]) Q E s:=by
 refine KG kind_sorted plain_sorted entry_sorted (args_sorted1 _) ?_;unfold Tl;refine As (m:=checkCount "sorted" 1 1 _) (wpAny_pure ?_);refine As (Mf hl ?_ (by
                       have:(64:Nat)<=sizeLine:=by decide
                       lia))
 refine As (No ?_);have hsz:((s.heap.push (EE "list" #[] 0)).update s.heap.objs.size (EH (·++vs.toArray))).objs.size=s.heap.objs.size+1:=by
  rw[Heap.size_update,size_push']
 have hoL:(((s.heap.push (EE "list" #[] 0)).update s.heap.objs.size (EH (·++vs.toArray))).push (EE "list" vs.toArray 0)).get? (s.heap.objs.size+1)=some (EE "list" vs.toArray 0):=by
  rw[<- hsz];exact AN _ rfl
 show wpAny _ _ _ _ _ {s with heap:=((s.heap.push (EE "list" #[] 0)).update s.heap.objs.size (EH (·++vs.toArray))).push (EE "list" vs.toArray 0)};rw[hsz];refine As (EU (DE UU ⟨_,hoL,rfl⟩ TZ (list_sort_tree hoL hI h64 λout ns' a1 a2 a3=>⟨_,rfl,?_⟩) (UV _)));exact wpAny_pure ⟨_,rfl,h out ns' a1 a2 a3⟩
end
section
variable{X:Cx}
def ABo(K:Au):List V->Hp->VK->Prop:=λxs H Q=>∃(p:Addr) (ns:List Int),xs=[.ref p]/\(SqL K H p (ns.map V.int)\/SqT K H p (ns.map V.int))/\ns.length<64/\∀(l:Addr) (ms:List Int),H l=none->ms.Perm ns->ms.Pairwise (·<=·)->Q (.ref l) (upd H l (.lst (ms.map V.int)))
theorem Ij:∀{us:List Ap}{ns:List Int},Ff us ns->Vals (ns.map V.int) us
 | _,_,.nil=>.nil
 | _,_,.cons n t r=>.cons ⟨t,rfl⟩ (Ij r)
theorem Rg:CallR X (.builtin "sorted") (ABo X.K):=by
 intro pins s σ H xs us Q I r h;obtain ⟨p,ns,rfl,hq,h64,q⟩:=h;obtain ⟨u,rfl,ru⟩:=r.one;cases ru;have fin:∀(its:List Ap) (out:Array Ap) (ms:List Int),Ff out.toList ms->ms.Perm ns->ms.Pairwise (·<=·)->EP X pins σ Q (.ref (s.heap.objs.size+1)) {s with heap:=sortedAll s.heap its out}:=λits out ms a1 a2 a3=>by
  obtain ⟨e,he⟩:=sortedAll_at s.heap its out;have hn:H (s.heap.objs.size+1)=none:=I.hok.fresh (LF _);have hv:=Ij a1;have hms:ms.length=ns.length:=a2.length_eq;refine ⟨.ref (s.heap.objs.size+1),_,I.laid (a:=s.heap.objs.size+1) (o:=.lst (ms.map V.int)) (t':=s.toks) (λb o=>sortedAll_old) (LF _) ⟨?_,out.toList,e,hv,?_⟩,rfl,q _ ms hn a2 a3⟩
  ·rw[AB,hms]
   exact CF (De h64) (by decide)
  ·rw[QH]
   exact he
 rcases hq with hq | hq
 ·obtain ⟨its,rv,pl,hz⟩:=I.list hq
  have hl:=rv.length;rw[AB] at hl;exact sorted_ints pl.isList (intsAre_of rv) (by lia) λout ms a1 a2 a3=>fin its out ms a1 a2 a3
 ·obtain ⟨its,rv,pl,hz⟩:=I.tuple hq
  have hl:=rv.length;rw[AB] at hl;exact QB pl (intsAre_of rv) (by lia) λout ms a1 a2 a3=>fin its out ms a1 a2 a3
theorem XF:CallR X (.builtin "isinstance") (λxs H Q=>∃p ys,xs=[.ref p,.ty "tuple"]/\SqT X.K H p ys/\Q (.bl true) H):=by
 intro pins s σ H xs us Q I r h;obtain ⟨p,ys,rfl,hq,q⟩:=h;obtain ⟨u,v,rfl,ru,rv⟩:=r.two;cases ru;cases rv;obtain ⟨its,_,⟨o,ho,hc,_⟩,_⟩:=I.tuple hq;exact IsiPair.tuple_tuple ho hc ⟨.bl true,H,I,rfl,q⟩
theorem Za(hc:X.calm=true):CallR X (.builtin "min") (λxs H Q=>∃p a b,xs=[.ref p]/\SqT X.K H p [.int a,.int b]/\Q (.int (if b<a then b else a)) H):=by
 intro pins s σ H xs us Q I r h;obtain ⟨p,a,b,rfl,hq,q⟩:=h;obtain ⟨u0,rfl,ru⟩:=r.one;cases ru;obtain ⟨its,rv,pl,hz⟩:=I.tuple hq;obtain ⟨u1,u2,rfl,⟨t,rfl⟩,⟨u,rfl⟩⟩:=rv.two;have hT:s.heap.IsTuple p (ES #[(a,t),(b,u)]):=by
  have e:(ES #[(a,t),(b,u)])=[EV a t,EV b u].toArray:=by simp[ES]
  rw[e];exact pl
 have hlt:p<s.heap.objs.size:=by obtain ⟨_,e,_⟩:=hT;exact AY e
 refine call_min_walk (G3 hT ?_);refine ⟨_,[_,p],[_],_,_,_,_,rfl,XU (A:=X.A.in1) (I.ok.hd hc) _ p (BU hlt) (ES #[(a,t),(b,u)]),
  ⟨⟨_,AN _ rfl,rfl,rfl⟩,hT.push _⟩,λc hc=>?_,by simp[ES],CmpOf.ints_lt (FM #[(a,t),(b,u)]) (λ_ _=>Pc),λv h' tk hP hk=>?_⟩
 ·show c<(s.heap.push _).objs.size
  rw[DB];rcases AX.mp hc with rfl | hc
  ·exact EB _
  ·rcases AX.mp hc with rfl | hc
   ·exact FC hlt
   ·cases hc
 ·have hold:∀c o,s.heap.get? c=some o->h'.get? c=some o:=λc o e=>by
   refine hk c o (λhm=>?_) (AD _ e);rcases AX.mp hm with e1 | hm
   ·have:=AY e;rw[e1] at this;exact D6 _ this
   ·cases hm
  have hv:v=if b<a then EV b u else EV a t:=by
   have hP':(ES #[(a,t),(b,u)])[JY (λi j=>decide (FM #[(a,t),(b,u)] i<FM #[(a,t),(b,u)] j)) 1]?=some v:=by
    have hsz2:(ES #[(a,t),(b,u)]).size-1=1:=by simp[ES]
    rw[<- hsz2];exact hP
   by_cases hba:b<a
   ·have e:JY (λi j=>decide (FM #[(a,t),(b,u)] i<FM #[(a,t),(b,u)] j)) 1=1:=by simp[JY,FM,hba]
    rw[e] at hP';simpa [ES,hba] using hP'.symm
   ·have e:JY (λi j=>decide (FM #[(a,t),(b,u)] i<FM #[(a,t),(b,u)] j)) 1=0:=by simp[JY,FM,hba]
    rw[e] at hP';simpa [ES,hba] using hP'.symm
  refine ⟨_,H,I.kept hold,?_,q⟩;rw[hv];by_cases hj:b<a
  ·rw[if_pos hj,if_pos hj];exact ⟨_,rfl⟩
  ·rw[if_neg hj,if_neg hj];exact ⟨_,rfl⟩
theorem Zm(hc:X.calm=true):CallR X (.builtin "max") (λxs H Q=>∃p a b,xs=[.ref p]/\SqT X.K H p [.int a,.int b]/\Q (.int (if b>a then b else a)) H):=by
 intro pins s σ H xs us Q I r h;obtain ⟨p,a,b,rfl,hq,q⟩:=h;obtain ⟨u0,rfl,ru⟩:=r.one;cases ru;obtain ⟨its,rv,pl,hz⟩:=I.tuple hq;obtain ⟨u1,u2,rfl,⟨t,rfl⟩,⟨u,rfl⟩⟩:=rv.two;have hT:s.heap.IsTuple p (ES #[(a,t),(b,u)]):=by
  have e:(ES #[(a,t),(b,u)])=[EV a t,EV b u].toArray:=by simp[ES]
  rw[e];exact pl
 have hlt:p<s.heap.objs.size:=by obtain ⟨_,e,_⟩:=hT;exact AY e
 refine call_max_walk (G3 hT ?_);refine ⟨_,[_,p],[_],_,_,_,_,rfl,XU (A:=X.A.in1) (I.ok.hd hc) _ p (BU hlt) (ES #[(a,t),(b,u)]),
  ⟨⟨_,AN _ rfl,rfl,rfl⟩,hT.push _⟩,λc hc=>?_,by simp[ES],CmpOf.ints_gt (FM #[(a,t),(b,u)]) (λ_ _=>Pc),λv h' tk hP hk=>?_⟩
 ·show c<(s.heap.push _).objs.size
  rw[DB];rcases AX.mp hc with rfl | hc
  ·exact EB _
  ·rcases AX.mp hc with rfl | hc
   ·exact FC hlt
   ·cases hc
 ·have hold:∀c o,s.heap.get? c=some o->h'.get? c=some o:=λc o e=>by
   refine hk c o (λhm=>?_) (AD _ e);rcases AX.mp hm with e1 | hm
   ·have:=AY e;rw[e1] at this;exact D6 _ this
   ·cases hm
  have hv:v=if b>a then EV b u else EV a t:=by
   have hP':(ES #[(a,t),(b,u)])[JY (λi j=>decide (FM #[(a,t),(b,u)] i>FM #[(a,t),(b,u)] j)) 1]?=some v:=by
    have hsz2:(ES #[(a,t),(b,u)]).size-1=1:=by simp[ES]
    rw[<- hsz2];exact hP
   by_cases hba:b>a
   ·have e:JY (λi j=>decide (FM #[(a,t),(b,u)] i>FM #[(a,t),(b,u)] j)) 1=1:=by simp[JY,FM,hba]
    rw[e] at hP';simpa [ES,hba] using hP'.symm
   ·have e:JY (λi j=>decide (FM #[(a,t),(b,u)] i>FM #[(a,t),(b,u)] j)) 1=0:=by simp[JY,FM,hba]
    rw[e] at hP';simpa [ES,hba] using hP'.symm
  refine ⟨_,H,I.kept hold,?_,q⟩;rw[hv];by_cases hj:b>a
  ·rw[if_pos hj,if_pos hj];exact ⟨_,rfl⟩
  ·rw[if_neg hj,if_neg hj];exact ⟨_,rfl⟩
end
abbrev Rep(α:Type):=Hp->α->V->Prop
def rInt:Rep Int:=λ_ i v=>v=.int i
def rTup(K:Au){α:Type}(R:Rep α):Rep (List α):=λH as v=>∃p xs,v=.ref p/\SqT K H p xs/\Cb (R H) as xs
def rLst(K:Au){α:Type}(R:Rep α):Rep (List α):=λH as v=>∃p xs,v=.ref p/\SqL K H p xs/\Cb (R H) as xs
theorem Paired.get{α β:Type}{F:α->β->Prop}:∀{l₁:List α}{l₂:List β}{i:Nat}{b:β},Cb F l₁ l₂->l₂[i]?=some b->∃a,l₁[i]?=some a/\F a b
 | _,_,_,_,.nil,e=>by simp at e
 | _,_,0,_,.cons r _,e=>by simp at e;subst e;exact ⟨_,rfl,r⟩
 | _,_,i+1,b,.cons _ t,e=>by
  obtain ⟨a,h1,h2⟩:=Paired.get (i:=i) (b:=b) t (by simpa using e);exact ⟨a,by simpa using h1,h2⟩
theorem Paired.getL{α β:Type}{F:α->β->Prop}:∀{l₁:List α}{l₂:List β}{i:Nat}{a:α},Cb F l₁ l₂->l₁[i]?=some a->∃b,l₂[i]?=some b/\F a b
 | _,_,_,_,.nil,e=>by simp at e
 | _,_,0,_,.cons r _,e=>by simp at e;subst e;exact ⟨_,rfl,r⟩
 | _,_,i+1,a,.cons _ t,e=>by
  obtain ⟨b,h1,h2⟩:=Paired.getL (i:=i) (a:=a) t (by simpa using e);exact ⟨b,by simpa using h1,h2⟩
theorem Paired.app{α β:Type}{F:α->β->Prop}:∀{l₁ m₁:List α}{l₂ m₂:List β},Cb F l₁ l₂->Cb F m₁ m₂->Cb F (l₁++m₁) (l₂++m₂)
 | _,_,_,_,.nil,s=>s
 | _,_,_,_,.cons r t,s=>.cons r (Paired.app t s)
theorem Paired.one{α β:Type}{F:α->β->Prop}{a:α}{b:β}(h:F a b):Cb F [a] [b]:=.cons h .nil
theorem Paired.uniq{α β:Type}{F:α->β->Prop}(fn:∀a a' b,F a b->F a' b->a=a'):∀{l₁ l₁':List α}{l₂:List β},Cb F l₁ l₂->Cb F l₁' l₂->l₁=l₁'
 | _,_,_,.nil,.nil=>rfl
 | _,_,_,.cons r t,.cons r' t'=>by rw[fn _ _ _ r r',Paired.uniq fn t t']
theorem paired_ints{H:Hp}:∀(ns:List Int),Cb (rInt H) ns (ns.map V.int)
 | []=>.nil
 | _::r=>.cons rfl (paired_ints r)
theorem GQ{H:Hp}:∀{ns:List Int}{xs:List V},Cb (rInt H) ns xs->xs=ns.map V.int
 | _,_,.nil=>rfl
 | _,_,.cons r t=>by rw[B5,<- GQ t];exact congrArg (·::_) r
structure Dat(X:Cx){α:Type}[DecidableEq α](n:Nat)(R:Rep α):Prop where
 eq:∀(pins:List (Addr×Obj)) (s:AA) (σ:St) (H:Hp) (A:BQ) (a b:α) (x y:V) (u v:Ap),Inv X pins σ H s->A.units+n<C2->R H a x->R H b y->RelV x u->RelV y v->J8 A s u v (decide (a=b))
 fn:∀(pins:List (Addr×Obj)) (s:AA) (σ:St) (H:Hp) (a b:α) (x:V),Inv X pins σ H s->R H a x->R H b x->a=b
section
variable{X:Cx}{α:Type}[DecidableEq α]{n:Nat}{R:Rep α}
theorem DQ:Dat X 0 rInt where
 eq:=λpins s σ H A a b x y u v I hu ha hb ru rv=>by
  cases ha;cases hb;obtain ⟨t,rfl⟩:=ru;obtain ⟨t',rfl⟩:=rv;have e:=M3 (A:=A) (s:=s) a t b t';rw[PD] at e;exact e
 fn:=λpins s σ H a b x I ha hb=>by
  cases ha;exact (V.int.inj hb)
theorem KQ{as bs:List α}{m k:Nat}(h1:as.length=m)(h2:bs.length=k):((AZ (min m k)).all (λj=>decide (as[j]?=bs[j]?))&&m==k)=decide (as=bs):=by
 subst h1;subst h2;by_cases e:as=bs
 ·subst e
  simp
 ·rw[decide_eq_false e]
  cases q:((AZ (min as.length bs.length)).all (λj=>decide (as[j]?=bs[j]?))&&as.length==bs.length) with
  | false=>rfl
  | true =>
   rw[DF] at q;obtain ⟨q1,q2⟩:=q;have hl:as.length=bs.length:=by simpa using q2
   refine absurd (F8 λj=>?_) e;by_cases hj:j<as.length
   ·exact of_decide_eq_true (DH.mp q1 j (BC.mpr (by lia)))
   ·rw[D1 (by lia),D1 (by lia)]
theorem Qy{as bs:List α}{m:Nat}(h1:as.length=m)(h2:bs.length=m):((AZ m).all (λj=>decide (as[j]?=bs[j]?)))=decide (as=bs):=by
 have e:=KQ h1 h2;rw[Nat.min_self,beq_self_eq_true,Bool.and_true] at e;exact e
theorem Dat.place(D:Dat X n R){pins:List (Addr×Obj)}{s:AA}{σ:St}{H:Hp}{A:BQ}(I:Inv X pins σ H s)(hu:A.units+n<C2){as bs:List α}{xs ys:List V}{its jts:List Ap}
  (pa:Cb (R H) as xs) (pb:Cb (R H) bs ys) (ra:Vals xs its) (rb:Vals ys jts):∀(j:Nat) (h1:j<its.toArray.size) (h2:j<jts.toArray.size),J8 A s its.toArray[j] jts.toArray[j] (decide (as[j]?=bs[j]?)):=by
 intro j h1 h2;rw[A9] at h1 h2;have hx:j<xs.length:=by rw[ra.length];exact h1
 have hy:j<ys.length:=by rw[rb.length];exact h2
 have ex:xs[j]?=some xs[j]:=AK hx;have ey:ys[j]?=some ys[j]:=AK hy;obtain ⟨u,hu1,ru⟩:=ra.get ex;obtain ⟨v,hv1,rv⟩:=rb.get ey;obtain ⟨a,ha,qa⟩:=Paired.get pa ex;obtain ⟨b,hb,qb⟩:=Paired.get pb ey;have e1:its.toArray[j]=u:=by
  rw[QI];rw[AK h1] at hu1;exact BY hu1
 have e2:jts.toArray[j]=v:=by
  rw[QI];rw[AK h2] at hv1;exact BY hv1
 rw[e1,e2,ha,hb];have e3:decide (some a=some b)=decide (a=b):=by simp
 rw[e3];exact D.eq pins s σ H A a b _ _ u v I hu qa qb ru rv
theorem Gq(D:Dat X n R):Dat X (n+1) (rTup X.K R) where
 eq:=λpins s σ H A as bs x y u v I hu ha hb ru rv=>by
  obtain ⟨p,xs,rfl,hp,pa⟩:=ha;obtain ⟨q,ys,rfl,hq,pb⟩:=hb;cases ru;cases rv;by_cases e:p=q
  ·subst e
   have exy:=I.tuple_inj hp hq;subst exy;have eab:as=bs:=Paired.uniq (λa a' b h1 h2=>D.fn pins s σ H a a' b I h1 h2) pa pb;subst eab;rw[decide_eq_true rfl];exact TN _
  ·obtain ⟨its,ra,ta,_⟩:=I.tuple hp
   obtain ⟨jts,rb,tb,_⟩:=I.tuple hq;have l1:as.length=its.toArray.size:=by rw[A9,<- ra.length];exact B4 pa
   have l2:bs.length=jts.toArray.size:=by rw[A9,<- rb.length];exact B4 pb
   have r:=SeqAt.RcAt.tuples (A:=A) (s:=s) (e:=λj=>decide (as[j]?=bs[j]?)) ta tb (by lia) (D.place (A:=A.in1) I (by show A.units+1+n<C2;lia) pa pb ra rb);rw[KQ l1 l2] at r;exact .of_refs e r
 fn:=λpins s σ H as bs x I ha hb=>by
  obtain ⟨p,xs,rfl,hp,pa⟩:=ha;obtain ⟨q,ys,e,hq,pb⟩:=hb;cases e;have exy:=I.tuple_inj hp hq;subst exy;exact Paired.uniq (λa a' b h1 h2=>D.fn pins s σ H a a' b I h1 h2) pa pb
theorem SQ(D:Dat X n R){pins:List (Addr×Obj)}{s:AA}{σ:St}{H:Hp}{A:BQ}(I:Inv X pins σ H s)(hu:A.units+(n+1)<C2){p q:Addr}{as bs:List α}{xs ys:List V}
  (hp:SqL X.K H p xs) (hq:SqL X.K H q ys) (pa:Cb (R H) as xs) (pb:Cb (R H) bs ys):SeqAt.RcAt A s (.ref p) (.ref q) (decide (as=bs))/\SeqAt.RcNeAt A s (.ref p) (.ref q) (!decide (as=bs)):=by
 obtain ⟨its,ra,ta,_⟩:=I.list hp;obtain ⟨jts,rb,tb,_⟩:=I.list hq;have l1:as.length=its.toArray.size:=by rw[A9,<- ra.length];exact B4 pa
 have l2:bs.length=jts.toArray.size:=by rw[A9,<- rb.length];exact B4 pb
 by_cases hs:its.toArray.size=jts.toArray.size
 ·have r:=SeqAt.RcAt.lists (A:=A) (s:=s) (e:=λj=>decide (as[j]?=bs[j]?)) ta.isList tb.isList hs (by lia) (D.place (A:=A.in1) I (by show A.units+1+n<C2;lia) pa pb ra rb)
  have r':=X6 (A:=A) (s:=s) (e:=λj=>decide (as[j]?=bs[j]?)) ta.isList tb.isList hs (by lia) (D.place (A:=A.in1) I (by show A.units+1+n<C2;lia) pa pb ra rb);rw[Qy l1 (l2.trans hs.symm)] at r r';exact ⟨r,r'⟩
 ·have hb:(its.toArray.size != jts.toArray.size)=true:=by simpa using hs
  have e:as≠bs:=λe=>hs (by rw[<- l1,<- l2,e]);rw[decide_eq_false e];exact ⟨SeqAt.RcAt.lists_lengths ta.isList tb.isList hb (by lia),VI ta.isList tb.isList hb (by lia)⟩
def rEqL(K:Au){α:Type}[DecidableEq α](R:Rep α):R2:=λx y H Q=>∃as bs,rLst K R H as x/\rLst K R H bs y/\Q (.bl (decide (as=bs))) H
def rNeL(K:Au){α:Type}[DecidableEq α](R:Rep α):R2:=λx y H Q=>∃as bs,rLst K R H as x/\rLst K R H bs y/\Q (.bl (!decide (as=bs))) H
theorem QK(D:Dat X n R)(hu:X.A.units+(n+1)<C2):OpR X (DA .Eq) (rEqL X.K R):=by
 intro pins s σ H x y v u Q I rx ry h;obtain ⟨as,bs,⟨p,xs,rfl,hp,pa⟩,⟨q,ys,rfl,hq,pb⟩,h⟩:=h;cases rx;cases ry;exact (SQ D I hu hp hq pa pb).1 X.prog X.w _ _ ⟨.bl _,H,I,rfl,h⟩
theorem Pu(D:Dat X n R)(hu:X.A.units+(n+1)<C2):OpR X (DA .NotEq) (rNeL X.K R):=by
 intro pins s σ H x y v u Q I rx ry h;obtain ⟨as,bs,⟨p,xs,rfl,hp,pa⟩,⟨q,ys,rfl,hq,pb⟩,h⟩:=h;cases rx;cases ry;exact (SQ D I hu hp hq pa pb).2 X.prog X.w _ _ ⟨.bl _,H,I,rfl,h⟩
open Classical in
noncomputable def isDat(R:Rep α)(H:Hp)(a:α)(u:Ap):Bool:=decide (∃z,RelV z u/\R H a z)
theorem Rt(D:Dat X n R){pins:List (Addr×Obj)}{s:AA}{σ:St}{H:Hp}(I:Inv X pins σ H s){a b:α}{z:V}{u:Ap}(rz:RelV z u)(hb:R H b z):isDat R H a u=decide (b=a):=by
 unfold isDat;by_cases e:b=a
 ·subst e
  rw[decide_eq_true rfl];exact @decide_eq_true _ (OK _) ⟨z,rz,hb⟩
 ·rw[decide_eq_false e]
  refine @decide_eq_false _ (OK _) ?_;rintro⟨z',rz',h'⟩;have ez:z'=z:=rz'.inj rz;subst ez;exact e (D.fn pins s σ H b a z' I hb h')
set_option tactic.hygienic true in
theorem Ih(D:Dat X n R){pins:List (Addr×Obj)}{s:AA}{σ:St}{H:Hp}(I:Inv X pins σ H s){a:α}:∀{as:List α}{xs:List V}{its:List Ap},Cb (R H) as xs->Vals xs its->its.any (isDat R H a)=decide (a∈as)
 | _,_,_,.nil,.nil=>by simp
 | _,_,_,.cons (l₁:=as) r t,.cons rv tv=>by
  rw[II,Rt D I rv r,Ih D I t tv]
  rename_i b _ _ _ _
  by_cases e:b=a
  ·subst e;simp
  ·have e':¬ a=b:=λz=>e z.symm
   simp[e,e']
theorem Il(D:Dat X n R){pins:List (Addr×Obj)}{s:AA}{σ:St}{H:Hp}{A:BQ}(I:Inv X pins σ H s)(hu:A.units+n<C2){a:α}{x:V}{v:Ap}(rx:RelV x v)(ha:R H a x) :
  ∀{as:List α}{xs:List V}{its:List Ap},Cb (R H) as xs->Vals xs its->∀u∈its,J8 A s u v (isDat R H a u)
 | _,_,_,.nil,.nil=>λu hm=>by cases hm
 | _,_,_,.cons r t,.cons rv tv=>λu hm=>by
  rcases AX.mp hm with rfl | hm
  ·rw[Rt D I rv r]
   exact D.eq pins s σ H A _ a _ x _ v I hu r ha rv rx
  ·exact Il D I hu rx ha t tv u hm
def rInL(K:Au){α:Type}[DecidableEq α](R:Rep α)(neg:Bool):R2:=λx y H Q=>∃a as,R H a x/\(rLst K R H as y\/rTup K R H as y)/\Q (.bl (if neg then !decide (a∈as) else decide (a∈as))) H
theorem AEW(D:Dat X n R)(hu:X.A.units+(n+1)<C2):OpR X (DA .In) (rInL X.K R false):=by
 intro pins s σ H x y v u Q I rx ry h;obtain ⟨a,as,ha,hs,h⟩:=h;have hu1:X.A.in1.units+n<C2:=by show X.A.units+1+n<C2;lia
 rcases hs with⟨p,xs,rfl,hp,pa⟩ | ⟨p,xs,rfl,hp,pa⟩
 ·cases ry
  obtain ⟨its,r,pl,_⟩:=I.list hp;refine TR (isDat R H a) pl.isList (λw hw=>Il D I hu1 rx ha pa r w (by simpa using hw)) ⟨.bl _,H,I,rfl,?_⟩;rw[show its.toArray.any (isDat R H a)=its.any (isDat R H a) by simp,Ih D I pa r];exact h
 ·cases ry
  obtain ⟨its,r,pl,_⟩:=I.tuple hp;refine Th (isDat R H a) pl (λw hw=>Il D I hu1 rx ha pa r w (by simpa using hw)) ⟨.bl _,H,I,rfl,?_⟩;rw[show its.toArray.any (isDat R H a)=its.any (isDat R H a) by simp,Ih D I pa r];exact h
theorem Mq(D:Dat X n R)(hu:X.A.units+(n+1)<C2):OpR X (DA .NotIn) (rInL X.K R true):=by
 intro pins s σ H x y v u Q I rx ry h;obtain ⟨a,as,ha,hs,h⟩:=h;have hu1:X.A.in1.units+n<C2:=by show X.A.units+1+n<C2;lia
 rcases hs with⟨p,xs,rfl,hp,pa⟩ | ⟨p,xs,rfl,hp,pa⟩
 ·cases ry
  obtain ⟨its,r,pl,_⟩:=I.list hp;refine RR (isDat R H a) pl.isList (λw hw=>Il D I hu1 rx ha pa r w (by simpa using hw)) ⟨.bl _,H,I,rfl,?_⟩;rw[show its.toArray.any (isDat R H a)=its.any (isDat R H a) by simp,Ih D I pa r];exact h
 ·cases ry
  obtain ⟨its,r,pl,_⟩:=I.tuple hp;refine Q6 (isDat R H a) pl (λw hw=>Il D I hu1 rx ha pa r w (by simpa using hw)) ⟨.bl _,H,I,rfl,?_⟩;rw[show its.toArray.any (isDat R H a)=its.any (isDat R H a) by simp,Ih D I pa r];exact h
end
def TSm(H H':Hp):Prop:=∀b u,H b=some u->(∃xs,u=.tup xs\/∃o,u=.frz o (.tup xs))->H' b=some u
theorem TSm.trans{H H1 H2:Hp}(a:TSm H H1)(b:TSm H1 H2):TSm H H2:=λc u h t=>b c u (a c u h t) t
theorem Same.ts{H H':Hp}(e:Same H H'):TSm H H':=λb u h _=>e b u h
theorem TSm.lst{H:Hp}{l:Addr}{xs:List V}{o:HO}(h:H l=some (.lst xs)):TSm H (upd H l o):=λb u hb t=>by
 rw[Ag ?_]
 ·exact hb
 ·rintro rfl
  rw[h] at hb;cases hb;obtain ⟨ys,e | ⟨o,e⟩⟩:=t
  ·cases e
  ·cases e
theorem TSm.new{H:Hp}{p:Addr}{o:HO}(h:H p=none):TSm H (upd H p o):=λb u hb _=>by rw[Ag (Af hb h)];exact hb
theorem TSm.seq{K:Au}{H H':Hp}{a:Addr}{xs:List V}(e:TSm H H')(h:SqT K H a xs):SqT K H' a xs:=by
 rcases h with (h | ⟨o,h⟩) | h
 ·exact .inl (.inl (e _ _ h ⟨xs,.inl rfl⟩))
 ·exact .inl (.inr ⟨o,e _ _ h ⟨xs,.inr ⟨o,rfl⟩⟩⟩)
 ·exact .inr h
theorem Paired.imp{α β:Type}{F G:α->β->Prop}(f:∀a b,F a b->G a b):∀{l₁:List α}{l₂:List β},Cb F l₁ l₂->Cb G l₁ l₂
 | _,_,.nil=>.nil
 | _,_,.cons r t=>.cons (f _ _ r) (Paired.imp f t)
def TRep{α:Type}(R:Rep α):Prop:=∀H H' a x,TSm H H'->R H a x->R H' a x
theorem Az:TRep rInt:=λ_ _ _ _ _ h=>h
theorem Aq{K:Au}{α:Type}{R:Rep α}(t:TRep R):TRep (rTup K R):=λH H' as x e h=>by
 obtain ⟨p,xs,rfl,hp,pa⟩:=h;exact ⟨p,xs,rfl,e.seq hp,Paired.imp (λa b=>t H H' a b e) pa⟩
theorem Same.new{H:Hp}{p:Addr}(h:H p=none)(o:HO):Same H (upd H p o):=λb u q=>by rw[Ag (Af q h)];exact q
abbrev rPair(K:Au):Rep (List Int):=rTup K rInt
theorem FQ{K:Au}{H:Hp}{p:Addr}{ns:List Int}(h:H p=some (.tup (ns.map V.int))):rPair K H ns (.ref p):=⟨p,_,rfl,SqT.of h,paired_ints ns⟩
theorem Cy{K:Au}{H:Hp}{ns:List Int}{x:V}(h:rPair K H ns x):∃p,x=.ref p/\SqT K H p (ns.map V.int):=by
 obtain ⟨p,xs,rfl,hp,pa⟩:=h;rw[GQ pa] at hp;exact ⟨p,rfl,hp⟩
def rSeq(K:Au):Rep (List Int):=λH t x=>rLst K rInt H t x\/rPair K H t x
theorem ABM{K:Au}{H:Hp}{ns:List Int}{x:V}(h:rSeq K H ns x):∃p,x=.ref p/\(SqL K H p (ns.map V.int)\/SqT K H p (ns.map V.int)):=by
 rcases h with⟨p,xs,rfl,hp,pa⟩ | h
 ·rw[GQ pa] at hp
  exact ⟨p,rfl,.inl hp⟩
 ·obtain ⟨p,e,hp⟩:=Cy h
  exact ⟨p,e,.inr hp⟩
section
variable{K:Au}{a D:Addr}{xs:List V}{g:TG}{tc:TT}{te:TE}{R:Hp->Prop}{τ:St}{H:Hp}
abbrev putD(D:Addr)(N:St->Hp->Prop)(te:TE)(τ2:St):Bool->Hp->Prop:=λb H3=>if b=true then te τ2 H3 λv H4=>∃ys,H4 D=some (.lst ys)/\ys.length<sizeLine/\N τ2 (upd H4 D (.lst (ys++[v]))) else N τ2 H3
theorem yesD{N:St->Hp->Prop}(h:te τ H λv H4=>∃ys,H4 D=some (.lst ys)/\ys.length<sizeLine/\N τ (upd H4 D (.lst (ys++[v])))):ADV τ H (putD D N te τ):=by
 show putD D N te τ true H;unfold putD;rw[if_pos rfl];exact h
theorem yesN{N:St->Hp->Prop}{i:Nat}{x:V}(h:te (τ.set i (some x)) H λv H4=>∃ys,H4 D=some (.lst ys)/\ys.length<sizeLine/\N (τ.set i (some x)) (upd H4 D (.lst (ys++[v])))):gName i x τ H λτ2 H2=>ADV τ2 H2 (putD D N te τ2):=yesD h
theorem Cj(Pv:Nat->St->Hp->Prop)(h0:Pv 0 τ H)(hl:∀i τ H,i<=xs.length->Pv i τ H->SqL K H a xs)
  (hs:∀i x τ H,xs[i]?=some x->Pv i τ H->g x τ H λτ2 H2=>tc τ2 H2 (putD D (Pv (i+1)) te τ2)) (hd:∀τ H,Pv xs.length τ H->R H):Ek (Itl K a) D g tc te R τ H:=by
 refine Iu xs.length Pv h0 (λi τ H hi p=>⟨xs,xs[i],hl i τ H (De hi) p,by simp[hi]⟩) (λτ H p=>⟨xs,hl _ τ H (AF _) p,AF _⟩) (λi τ H x H' hi p y=>?_) hd;obtain ⟨e,y⟩:=y;subst e;exact hs i x τ _ (y xs (hl i τ _ (De hi) p)) p
theorem YQ(Pv:Nat->St->Hp->Prop)(h0:Pv 0 τ H)(hl:∀i τ H,i<=xs.length->Pv i τ H->SqT K H a xs)
  (hs:∀i x τ H,xs[i]?=some x->Pv i τ H->g x τ H λτ2 H2=>tc τ2 H2 (putD D (Pv (i+1)) te τ2)) (hd:∀τ H,Pv xs.length τ H->R H):Ek (Itt K a) D g tc te R τ H:=by
 refine Iu xs.length Pv h0 (λi τ H hi p=>⟨xs,xs[i],hl i τ H (De hi) p,by simp[hi]⟩) (λτ H p=>⟨xs,hl _ τ H (AF _) p,AF _⟩) (λi τ H x H' hi p y=>?_) hd;obtain ⟨e,y⟩:=y;subst e;exact hs i x τ _ (y xs (hl i τ _ (De hi) p)) p
theorem Cg{lo:Int}{n:Nat}(Pv:Nat->St->Hp->Prop)(h0:Pv 0 τ H)
  (hs:∀i τ H,i<n->Pv i τ H->g (.int (lo+i)) τ H λτ2 H2=>tc τ2 H2 (putD D (Pv (i+1)) te τ2)) (hd:∀τ H,Pv n τ H->R H):Ek (Itr lo n) D g tc te R τ H:=by
 refine Iu n Pv h0 (λi τ H hi p=>hi) (λτ H p=>AF _) (λi τ H x H' hi p y=>?_) hd;obtain ⟨e,y⟩:=y;subst e y;exact hs i τ _ hi p
theorem HW{S:Hp->List V->Prop}(Pv:Nat->St->Hp->Prop)(h0:Pv 0 τ H)(hl:∀i τ H,i<=xs.length->Pv i τ H->S H xs)
  (hs:∀i x τ H T,xs[i]?=some x->H T=none->Pv i τ H->g (.ref T) τ (upd H T (.tup [.int i,x])) λτ2 H2=>tc τ2 H2 (putD D (Pv (i+1)) te τ2)) (hd:∀τ H,Pv xs.length τ H->R H):Ek (Ien S) D g tc te R τ H:=by
 refine Iu xs.length Pv h0 (λi τ H hi p=>⟨xs,xs[i],hl i τ H (De hi) p,by simp[hi]⟩) (λτ H p=>⟨xs,hl _ τ H (AF _) p,rfl⟩) (λi τ H x H' hi p y=>?_) hd;obtain ⟨T,z,rfl,hT,rfl,y⟩:=y;exact hs i z τ H T (y xs (hl i τ _ (De hi) p)) hT p
end
theorem CW{A:BQ}{k n:Nat}(hr:Room k A)(h:n<=64:=by decide):A.units+n<C2:=G4 (Nat.add_le_add_left h _) hr.units
section
variable{X:Cx}{K:Au}{pos:Pos}
theorem Fg(hK:X.K=K){es:List Expr}{k:Nat}{t:TGs}{n:Nat}(hc:X.calm=true)(h:PGs X es t)
  (hn:(J7 es X.env).length=n:=by rfl) (hst:(J7 es X.env).findIdx? (·.1)=none:=by rfl):PG X (.Tuple es k pos) (gTup K n t):=by subst hK;exact Uk hc h hn hst
theorem Fp(hK:X.K=K):OpR X (DA .In) (rIn K false):=by subst hK;exact Oo
theorem Ma(hK:X.K=K):OpR X (DA .NotIn) (rIn K true):=by subst hK;exact Pq
theorem HJ(hK:X.K=K):CallR X (.builtin "len") (λxs H Q=>∃p ys,xs=[.ref p]/\(SqL K H p ys\/SqT K H p ys)/\Q (.int ys.length) H):=by subst hK;exact BZ
theorem YF(hK:X.K=K)(hc:X.calm=true):CallR X (.builtin "min") (λxs H Q=>∃p a b,xs=[.ref p]/\SqT K H p [.int a,.int b]/\Q (.int (if b<a then b else a)) H):=by subst hK;exact Za hc
theorem Yb(hK:X.K=K)(hc:X.calm=true):CallR X (.builtin "max") (λxs H Q=>∃p a b,xs=[.ref p]/\SqT K H p [.int a,.int b]/\Q (.int (if b>a then b else a)) H):=by subst hK;exact Zm hc
theorem ABP(hK:X.K=K):IxR X (rIxL K):=by subst hK;exact Bm
theorem ACZ(hK:X.K=K):IxR X (rIxT K):=by subst hK;exact Dn
end
theorem EY(x:Int):∀(tie:List Int),inV (.int x) (tie.map V.int)=decide (x∈tie)
 | []=>rfl
 | z::r=>by
  have ih:=EY x r;unfold inV at ih ⊢;rw[B5,II,ih];show ((z==x)||decide (x∈r))=decide (x∈z::r);by_cases e:z=x
  ·subst e;simp
  ·have e':¬ x=z:=λq=>e q.symm
   simp[e,e']
theorem iteNN{c A B:Prop}{inst:Decidable c}(hc:¬ c)(h:A):if (!decide c)=true then A else B:=by
 rw[decide_eq_false hc];exact iteT h
theorem iteNP{c A B:Prop}{inst:Decidable c}(hc:c)(h:B):if (!decide c)=true then A else B:=by
 rw[decide_eq_true hc];exact iteF h
theorem iteN{c A B:Prop}{inst:Decidable c}(hc:¬ c)(h:B):if decide c=true then A else B:=by
 rw[decide_eq_false hc];exact iteF h
theorem iteP{c A B:Prop}{inst:Decidable c}(hc:c)(h:A):if decide c=true then A else B:=by
 rw[decide_eq_true hc];exact iteT h
theorem AAL{ns:List Int}{k:Int}(h0:0<=k)(h:k<(ns.length:Int)):∃v:Int,atI (ns.map V.int) k=some (.int v):=by
 have hk:k.toNat<ns.length:=by lia
 have ek:k=((k.toNat:Nat):Int):=by lia
 have q:atI (ns.map V.int) ((k.toNat:Nat):Int)=some (.int ns[k.toNat]):=Bl (by rw[BM,AK hk]<;>rfl);rw[<- ek] at q;exact ⟨_,q⟩
theorem small{n:Nat}(h:n<=1000):n<=sizeLine:=De (Ay h)
def srt:List Int->List Int
 | [a,b]=>if b<a then [b,a] else [a,b]
 | t=>t
theorem Ez(a b:Int):srt [a,b]=if b<a then [b,a] else [a,b]:=rfl
theorem ACg{t:List Int}{p:Int}:p∈srt t↔p∈t:=by
 unfold srt;split
 ·split
  ·simp[or_comm]
  ·rfl
 ·rfl
theorem Xy{a b:Int}{ms:List Int}(h:ms.Perm [a,b])(s:ms.Pairwise (·<=·)):ms=srt [a,b]:=by
 have hl:=h.length_eq
 match ms,hl,h,s with
 | [x,y],_,h,s =>
  have hxy:x<=y:=by simpa using s
  have hx:x∈[a,b]:=h.mem_iff.mp (by simp);have hy:y∈[a,b]:=h.mem_iff.mp (by simp);have ha:a∈[x,y]:=h.mem_iff.mpr (by simp);have hb:b∈[x,y]:=h.mem_iff.mpr (by simp);simp only[AX,LL,or_false] at hx hy ha hb;rw[Ez];split
  ·have e1:x=b:=by lia
   have e2:y=a:=by lia
   rw[e1,e2]
  ·have e1:x=a:=by lia
   have e2:y=b:=by lia
   rw[e1,e2]
def OkTie(m:Int)(t:List Int):Prop:=∃a b,t=[a,b]/\0<=a/\a<m/\0<=b/\b<m/\a≠b
structure OkTies(m:Int)(as:List (List Int)):Prop where
 ok:∀t∈as,OkTie m t
 nd:(as.map srt).Nodup
theorem ABx{m:Int}{as:List (List Int)}{a b:Int}(h:∀t∈as,OkTie m t)(h1:[a,b]∉as)(h2:[b,a]∉as):srt [a,b]∉as.map srt:=by
 intro hm;obtain ⟨t,ht,e⟩:=B6.mp hm;obtain ⟨c,d,rfl,_⟩:=h t ht;have e':[c,d]=[a,b]\/[c,d]=[b,a]:=by
  rw[Ez,Ez] at e;split at e<;>split at e<;>simp only[List.cons.injEq,and_true] at e ⊢<;>lia
 rcases e' with e' | e'
 ·exact h1 (e' ▸ ht)
 ·exact h2 (e' ▸ ht)
theorem OkTies.snoc{m:Int}{as:List (List Int)}{a b:Int}(h:OkTies m as)(t:OkTie m [a,b])(h1:[a,b]∉as)(h2:[b,a]∉as):OkTies m (as++[[a,b]]):=by
 refine ⟨λu hu=>?_,?_⟩
 ·rcases Co.mp hu with hu | hu
  ·exact h.ok u hu
  ·rw[Cn.mp hu];exact t
 ·rw[B8,M6,List.nodup_append]
  refine ⟨h.nd,by simp,λx hx y hy e=>?_⟩;have hy':y=srt [a,b]:=by simpa using hy
  subst hy';exact ABx h.ok h1 h2 (e ▸ hx)
theorem OkTies.take_new{m:Int}{as:List (List Int)}{i:Nat}{t:List Int}(h:OkTies m as)(ht:as[i]?=some t):srt t∉(as.take i).map srt:=by
 intro hm;obtain ⟨u,hu,e⟩:=B6.mp hm;obtain ⟨j,hj,ej⟩:=CL.mp hu;have hji:j<i:=by rw[Cc] at hj;lia
 have hi:i<as.length:=(AJ.mp ht).1;have et:as[i]=t:=(AJ.mp ht).2;have eu:as[j]'(by lia)=u:=by rw[<- ej,JI]
 have hnd:=h.nd;have:=(S6 (h₀:=by rw[AB];lia) (h₁:=by rw[AB];lia) hnd (i:=j) (j:=i)).mp (by rw[To,To,et,eu,e]);lia
def BL(p:Int):Nat->List (List Int)->List Int
 | _,[]=>[]
 | k,t::r=>if p∈t then (k:Int)::BL p (k+1) r else BL p (k+1) r
theorem Ni(p:Int)(t:List Int):∀(k:Nat) (as:List (List Int)),BL p k (as++[t])=BL p k as++(if p∈t then [((k+as.length:Nat):Int)] else [])
 | k,[]=>by
  show (if p∈t then (k:Int)::BL p (k+1) [] else BL p (k+1) [])=_;split<;>simp[BL]
 | k,u::r=>by
  have ih:=Ni p t (k+1) r;have e:k+1+r.length=k+(u::r).length:=by simp;lia
  rw[e] at ih;show (if p∈u then (k:Int)::BL p (k+1) (r++[t]) else BL p (k+1) (r++[t]))=(if p∈u then (k:Int)::BL p (k+1) r else BL p (k+1) r)++_;rw[ih];split<;>rfl
abbrev hits(p:Int)(as:List (List Int)):List Int:=BL p 0 as
theorem Nv{p:Int}{as:List (List Int)}{i:Nat}{t:List Int}(h:as[i]?=some t):hits p (as.take (i+1))=hits p (as.take i)++(if p∈t then [(i:Int)] else []):=by
 have hi:i<as.length:=(AJ.mp h).1;have e:as.take (i+1)=as.take i++[t]:=by rw[EI,h];rfl
 rw[e,hits,Ni];have:0+(as.take i).length=i:=by rw[Cc];lia
 rw[this]
theorem Hz(p:Int):∀(k:Nat) (as:List (List Int)),(BL p k as).length<=as.length
 | _,[]=>AF _
 | k,t::r=>by
  have ih:=Hz p (k+1) r;show (if p∈t then (k:Int)::BL p (k+1) r else BL p (k+1) r).length<=r.length+1;split
  ·simp;exact ih
  ·lia
section
variable{X:Cx}{K:Au}
theorem max_list(hc:X.calm=true):CallR X (.builtin "max") (λxs H Q=>∃(p:Addr) (ns:List Int),xs=[.ref p]/\SqL X.K H p (ns.map V.int)/\0<ns.length/\∀m,m∈ns->(∀a∈ns,a<=m)->Q (.int m) H):=by
 intro pins s σ H xs us Q I r h;obtain ⟨p,ns,rfl,hq,hne,q⟩:=h;obtain ⟨u0,rfl,ru⟩:=r.one;cases ru;obtain ⟨its,rv,pl,hz⟩:=I.list hq;have hi:=intsAre_of rv;have hl:=pl.isList;obtain ⟨ys,e⟩:=hi.allInts.items;have hns:ns=ys.toList.map (·.1):=by rw[<- hi.numsOf,<- nums_intItems,<- e]
 have hsz:0<ys.size:=by
  rw[hns,AB,AU] at hne;exact hne
 rw[e] at hl;refine max_intList (I.ok.hd hc) hl hsz λv h' tk hv hk=>?_;obtain ⟨t,rfl⟩:=Pc hv;obtain ⟨h1,h2⟩:=argBest_gt (FM ys) (ys.size-1);refine ⟨.int (FM ys (JY (λi j=>decide (FM ys i>FM ys j)) (ys.size-1))),H,I.kept hk,⟨t,rfl⟩,q _ ?_ λa ha=>?_⟩
 ·rw[hns,Ts]
  exact getD_mem (by rw[AB,AU];lia)
 ·rw[hns] at ha
  obtain ⟨j,hj,rfl⟩:=mem_getD ha;rw[AB,AU] at hj;rw[<- Ts];exact h2 j (by lia)
end
def upTo(n:Nat)(f:Int->Bool):List Int:=((AZ n).map λ(i:Nat)=>(i:Int)).filter f
def lies(ns:List Int)(k:Int):Bool:=match ns with
 | []=>false
 | a::r=>decide (a<k)&&decide (k<=(a::r).getLast (by simp))
set_option tactic.hygienic true in
theorem Ht{p x:Int}:∀{k:Nat}{as:List (List Int)},x∈BL p k as↔∃i:Nat,∃t,as[i]?=some t/\p∈t/\x=((k+i:Nat):Int)
 | k,[]=>by simp[BL]
 | k,u::r=>by
  have ih:=@Ht p x (k+1) r;have e:BL p k (u::r)=if p∈u then (k:Int)::BL p (k+1) r else BL p (k+1) r:=rfl
  rw[e];constructor
  ·intro h
   split at h
   ·rename_i hu
    rcases AX.mp h with h | h
    ·exact ⟨0,u,rfl,hu,by simpa using h⟩
    ·obtain ⟨i,t,h1,h2,h3⟩:=ih.mp h
     exact ⟨i+1,t,by simpa using h1,h2,by rw[h3];congr 1;lia⟩
   ·obtain ⟨i,t,h1,h2,h3⟩:=ih.mp h
    exact ⟨i+1,t,by simpa using h1,h2,by rw[h3];congr 1;lia⟩
  ·rintro⟨i,t,h1,h2,h3⟩
   cases i with
   | zero =>
    have:u=t:=by simpa using h1
    subst this;rw[if_pos h2];exact AX.mpr (.inl (by simpa using h3))
   | succ i =>
    have hm:x∈BL p (k+1) r:=ih.mpr ⟨i,t,by simpa using h1,h2,by rw[h3];congr 1;lia⟩;split
    ·exact AH _ hm
    ·exact hm
theorem JX(p:Int):∀(k:Nat) (as:List (List Int)),(BL p k as).Pairwise (· < ·)
 | _,[]=>K9
 | k,u::r=>by
  have ih:=JX p (k+1) r;have e:BL p k (u::r)=if p∈u then (k:Int)::BL p (k+1) r else BL p (k+1) r:=rfl
  rw[e];split
  ·refine R7 (λx hx=>?_) ih
   obtain ⟨i,t,_,_,h3⟩:=Ht.mp hx;rw[h3];lia
  ·exact ih
theorem QL:∀{ns:List Int} (h:ns≠[]),ns.Pairwise (· < ·)->∀x∈ns,x<=ns.getLast h
 | [],h,_,_,_=>absurd rfl h
 | [a],_,_,x,hx=>by
  have:x=a:=by simpa using hx
  subst this;exact IT _
 | a::b::r,_,pw,x,hx=>by
  have h2:=CI.mp pw;have e:(a::b::r).getLast (by simp)=(b::r).getLast (by simp):=by simp
  rw[e];have l:=QL (ns:=b::r) (by simp) h2.2;rcases AX.mp hx with hx | hx
  ·subst hx
   have h3:=h2.1 b (by simp);have h4:=l b (by simp);lia
  ·exact l x hx
theorem Qt{M:TH}{A:BQ}{E:Ap->AA->Prop}{s:AA}{scope:D3}{globals:Addr}{cl:List (Str×Addr)}{qual:Str}{env:Env}{Q:Env->AA->Prop}
  (hQ:Q {scope:=scope,locals:=s.heap.objs.size,globals:=globals,cells:=DO (s.heap.objs.size+1) scope.names cl,qual:=qual,func:=none,code:=env.code,frame:=env.frame,builtins:=env.builtins}
   {s with heap:=J5 (s.heap.push {cls:=.type "dict",data:=.dict #[]}) scope.names}) :
  wpAny M A (MM scope globals cl [] qual none .none (some env)) Q E s:=by
 simp only[MM,R8,if_true];refine As (wpAny_alloc ?_);refine As (wpAny_layCells _ (λname kind cells=>by cases hkc:kind==CD<;>simp[hkc]) _ _ _ _ ?_);rw[show ({s with heap:=s.heap.push {cls:=.type "dict",data:=.dict #[]}}:AA).heap.objs.size=s.heap.objs.size+1 from DB ..];simp only[List.forIn_nil];exact As (wpAny_pure (wpAny_pure hQ))
set_option tactic.hygienic true in
theorem cellsFrom_mem:∀{names:List (Str×ER)}{n:Nat}{acc:List (Str×Addr)}{x:Str}{c:Addr},(DO n names acc).lookup x=some c->acc.lookup x=some c\/(n<=c/\(x,CD)∈names)
 | [],_,_,_,_,h=>.inl h
 | (y,k)::r,n,acc,x,c,h=>by
  unfold DO at h;split at h
  ·rename_i hk
   have hk':k=.cell:=by simpa using hk
   subst hk';rcases cellsFrom_mem (names:=r) h with h' | h'
   ·rw[CC] at h'
    cases hx:x==y with
    | true =>
     rw[hx] at h';have e:x=y:=eq_of_beq hx;have ec:n=c:=BY h';exact .inr ⟨KO ec,by rw[e];exact AG⟩
    | false=>rw[hx] at h';exact .inl h'
   ·exact .inr ⟨by lia,AH _ h'.2⟩
  ·rcases cellsFrom_mem (names:=r) h with h | h
   ·exact .inl h
   ·exact .inr ⟨h.1,AH _ h.2⟩
set_option tactic.hygienic true in
theorem Ep:∀{names:List (Str×ER)}{n:Nat}{acc:List (Str×Addr)}{x:Str},(x,CD)∉names->(DO n names acc).lookup x=acc.lookup x
 | [],_,_,_,_=>rfl
 | (y,k)::r,n,acc,x,h=>by
  have hr:(x,CD)∉r:=λz=>h (AH _ z);unfold DO;split
  ·rename_i hk
   have hk':k=.cell:=by simpa using hk
   subst hk';rw[Ep (names:=r) hr,CC];cases hx:x==y with
   | true =>
    have e:x=y:=eq_of_beq hx;subst e;exact absurd AG h
   | false=>rfl
  ·exact Ep (names:=r) hr
theorem cellsFrom_mono:∀{names:List (Str×ER)}{n:Nat}{acc:List (Str×Addr)}{x:Str},(acc.lookup x).isSome=true->((DO n names acc).lookup x).isSome=true
 | [],_,_,_,h=>h
 | (y,k)::r,n,acc,x,h=>by
  unfold DO;split
  ·refine cellsFrom_mono (names:=r) ?_
   rw[CC];cases hx:x==y with
   | true=>rfl
   | false=>exact h
  ·exact cellsFrom_mono (names:=r) h
set_option tactic.hygienic true in
theorem DX:∀{names:List (Str×ER)}{n:Nat}{acc:List (Str×Addr)}{x:Str},(x,CD)∈names->((DO n names acc).lookup x).isSome=true
 | [],_,_,_,h=>by cases h
 | (y,k)::r,n,acc,x,h=>by
  unfold DO;split
  ·rcases AX.mp h with e | h
   ·cases e
    refine cellsFrom_mono ?_;rw[CC,beq_self_eq_true];rfl
   ·exact DX h
  ·rename_i hk
   rcases AX.mp h with e | h
   ·cases e
    exact absurd rfl hk
   ·exact DX h
set_option tactic.hygienic true in
theorem Ej:∀{names:List (Str×ER)}{n:Nat}{acc:List (Str×Addr)}{x y:Str}{c:Addr},(∀z d,acc.lookup z=some d->d<n)->(∀z u d,acc.lookup z=some d->acc.lookup u=some d->z=u) ->
  (DO n names acc).lookup x=some c->(DO n names acc).lookup y=some c->x=y
 | [],_,_,_,_,_,_,inj,h1,h2=>inj _ _ _ h1 h2
 | (v,k)::r,n,acc,x,y,c,lt,inj,h1,h2=>by
  unfold DO at h1 h2;split at h1
  ·rename_i hk
   rw[if_pos hk] at h2;refine Ej (names:=r) (n:=n+1) (acc:=(v,n)::acc) (λz d e=>?_) (λz u d e1 e2=>?_) h1 h2
   ·rw[CC] at e
    cases hz:z==v with
    | true=>rw[hz] at e;cases e;exact EB _
    | false=>rw[hz] at e;exact FC (lt z d e)
   ·rw[CC] at e1 e2
    cases hz:z==v with
    | true =>
     rw[hz] at e1;cases e1;cases hu:u==v with
     | true=>rw[eq_of_beq hz,eq_of_beq hu]
     | false=>rw[hu] at e2;exact absurd (lt u _ e2) (D6 _)
    | false =>
     rw[hz] at e1;cases hu:u==v with
     | true=>rw[hu] at e2;cases e2;exact absurd (lt z _ e1) (D6 _)
     | false=>rw[hu] at e2;exact inj z u d e1 e2
  ·rename_i hk
   rw[if_neg hk] at h2;exact Ej (names:=r) lt inj h1 h2
set_option tactic.hygienic true in
theorem pushCells_cell:∀{names:List (Str×ER)}{h:Heap}{n:Nat}{acc:List (Str×Addr)}{x:Str}{c:Addr},n=h.objs.size->(∀z d,acc.lookup z=some d->∃v,h.IsCell d v)->(DO n names acc).lookup x=some c->∃v,(J5 h names).IsCell c v
 | [],_,_,_,_,_,_,ok,h1=>ok _ _ h1
 | (v,k)::r,h,n,acc,x,c,hn,ok,h1=>by
  unfold DO at h1;unfold J5;split at h1
  ·rename_i hk
   rw[if_pos hk];refine pushCells_cell (names:=r) (n:=n+1) (acc:=(v,n)::acc) (by rw[DB,hn]) (λz d e=>?_) h1;rw[CC] at e;cases hz:z==v with
   | true=>rw[hz] at e;cases e;exact ⟨none,_,by rw[hn];exact AN _ rfl,rfl⟩
   | false =>
    rw[hz] at e;obtain ⟨u,o,ho,hd⟩:=ok z d e;exact ⟨u,o,AD _ ho,hd⟩
  ·rename_i hk
   rw[if_neg hk];exact pushCells_cell (names:=r) hn ok h1
def Jv(osc sc:D3):Bool :=
 (decide (sc.kind=.function))&&sc.names.all (λy=>decide (y.2=.local->sc.names.lookup y.1=some .local)) &&
  sc.names.all (λy=>decide (y.2=.free->osc.names.lookup y.1=some .cell\/osc.names.lookup y.1=some .free))&&sc.names.all (λy=>decide (y.2=.free->(y.1,CD)∉sc.names))
structure CompOkC(osc sc:D3):Prop where
 kind:sc.kind=.function
 loc:∀y∈sc.names,y.2=.local->sc.names.lookup y.1=some .local
 free:∀y∈sc.names,y.2=.free->osc.names.lookup y.1=some .cell\/osc.names.lookup y.1=some .free
 one:∀y∈sc.names,y.2=.free->(y.1,CD)∉sc.names
theorem CompOkC.of{osc sc:D3}(h:Jv osc sc=true):CompOkC osc sc:=by
 unfold Jv at h;rw[DF,DF,DF] at h;obtain ⟨⟨⟨h1,h3⟩,h4⟩,h5⟩:=h;exact ⟨of_decide_eq_true h1,λy hy=>of_decide_eq_true (DH.mp h3 y hy),λy hy=>of_decide_eq_true (DH.mp h4 y hy),λy hy=>of_decide_eq_true (DH.mp h5 y hy)⟩
theorem Hw{env:Env}{x:Str}:∀{names:List (Str×ER)},
  (
   (names.map λ(n,k)=>if (k==BN&&env.scope.kind == .function&&env.kindOf n==some .cell) then (n,CD) else (n,k)).lookup x=some .cell \/
   (names.map λ(n,k)=>if (k==BN&&env.scope.kind == .function&&env.kindOf n==some .cell) then (n,CD) else (n,k)).lookup x=some .free)->(x,BN)∈names\/(x,CD)∈names
 | [],h=>by simp at h
 | (n,k)::r,h=>by
  have ih:=@Hw env x r;rw[B5] at h;have h':EM x ((if (k==BN&&env.scope.kind == .function&&env.kindOf n==some .cell)=true then (n,CD) else (n,k))::_)=_\/EM x ((if (k==BN&&env.scope.kind == .function&&env.kindOf n==some .cell)=true then (n,CD) else (n,k))::_)=_:=h;have tl:∀{A:Prop},((x,BN)∈r\/(x,CD)∈r)->(x,BN)∈(n,k)::r\/(x,CD)∈(n,k)::r:=λz=>z.elim (λz=>.inl (AH _ z)) λz=>.inr (AH _ z);by_cases hb:(k==BN&&env.scope.kind == .function&&env.kindOf n==some .cell)=true
  ·rw[if_pos hb] at h'
   have hk:k=.free:=by simp at hb;exact hb.1.1
   rw[CC] at h';cases hx:x==n with
   | true =>
    have:x=n:=eq_of_beq hx;subst this;subst hk;exact .inl AG
   | false=>rw[hx] at h';exact tl (A:=True) (ih h')
  ·rw[if_neg hb] at h'
   rw[CC] at h';cases hx:x==n with
   | true =>
    rw[hx] at h';have:x=n:=eq_of_beq hx;subst this;rcases h' with h' | h'
    ·have hk:k=.cell:=BY h'
     subst hk;exact .inr AG
    ·have hk:k=.free:=BY h'
     subst hk;exact .inl AG
   | false=>rw[hx] at h';exact tl (A:=True) (ih h')
theorem WX{cells:List (Str×Addr)}:∀{names:List (Str×ER)}{cs:List (Str×Addr)}{x:Str}{c:Addr},(cloOf cells names cs).lookup x=some c->(x,BN)∈names\/cs.lookup x=some c
 | [],_,_,_,h=>.inr h
 | (n,k)::r,cs,x,c,h=>by
  unfold cloOf at h;rcases WX (names:=r) h with h | h
  ·exact .inl (AH _ h)
  ·by_cases hk:(k==BN)=true
   ·have hk':k=.free:=by simpa using hk
    subst hk';rw[if_pos hk] at h;cases q:cells.lookup n with
    | none=>rw[q] at h;exact .inr h
    | some d =>
     rw[q] at h;rw[CC] at h;cases hx:x==n with
     | true =>
      have e:x=n:=eq_of_beq hx;subst e;exact .inl AG
     | false=>rw[hx] at h;exact .inr h
   ·rw[if_neg hk] at h
    exact .inr h
theorem AAz{X:Cx}{scope:D3}{x:Str}{c:Addr}(h:(cloX X scope).lookup x=some c):(x,BN)∈scope.names:=by
 rcases WX h with h | h
 ·exact h
 ·simp at h
def Bp(X:Cx)(N':List Str)(scope:D3)(fp:List Addr)(s:AA)(H:Hp):Cx where
 prog:=X.prog
 w:=X.w
 K:=X.K
 mg:=X.mg
 base:=X.base
 A:=X.A
 N:=N'
 s₀:=s
 H₀:=H
 env:=OA scope (DO (s.heap.objs.size+1) scope.names (cloX X scope)) s.heap.objs.size X.env
 outer:=X.stack
 stack:=X.stack
 ex:=fp
 fn:=λx=>decide ((x,CD)∈scope.names)
 calm:=X.calm
 pn:=[]
 xe:=λ_ _=>False
section
variable{X:Cx}{pins:List (Addr×Obj)}{σ:St}{H:Hp}{s:AA}{tg elt iter:Expr}{ifs:List Expr}{scope:D3}{pos:Pos}{own fr:List Str}{ix:List Nat}{g:TG}{tc:TT}{te:TE}{it:Addr}{fp:List Addr}
 {tn:Nat->Heap->Prop}{J:It}
theorem Tp{R:Hp->Prop}{D:Addr}(hc:X.calm=true)(ok:CompOkC X.env.scope scope)(hfr:FreeAt X scope fr ix)
  (hg:PG (Bp X (own++fr) scope fp s H) tg g) (hi:PIfs (Bp X (own++fr) scope fp s H) ifs tc) (he:PE (Bp X (own++fr) scope fp s H) elt te)
  (I3:Inv X pins σ H s) (T:Turn X.prog X.w X.K tg J fp it tn) (st3:tn 0 s.heap) (f3:∀b∈fp,FpOk X pins H b)
  (hq:Ek J D g tc te R (start2 σ own ix) H) :
  codeAny (AL X.prog X.w) X.A (.compStart (.ListComp elt [⟨tg,iter,ifs,0⟩] scope pos) 0 (.ref it) (.ref D) (OA scope (DO (s.heap.objs.size+1) scope.names (cloX X scope)) s.heap.objs.size X.env))
   (λr s'=>r=.ok .next/\Behind X pins σ R s.heap.objs.size s') {s with heap:=(J5 (s.heap.push {cls:=.type "dict",data:=.dict #[]}) scope.names)}:=by
 have old:∀b o,s.heap.get? b=some o->(J5 (s.heap.push {cls:=.type "dict",data:=.dict #[]}) scope.names).get? b=some o:=λb o e=>T5 _ _ b o (AD _ e);have hns:(J5 (s.heap.push {cls:=.type "dict",data:=.dict #[]}) scope.names).Ns s.heap.objs.size (λ_=>none):=(Heap.Ns.new s.heap (.type "dict")).keeps (T5 _ _);have sub:∀x c,(cloX X scope).lookup x=some c->X.env.cells.lookup x=some c:=Jc (λx c e=>by simp at e);have outerK:∀x,(x,BN)∈scope.names->X.env.kindOf x=some .cell\/X.env.kindOf x=some .free:=λx hx=>ok.free (x,.free) hx rfl;have has:∀x,(x,BN)∈scope.names->∃c,(cloX X scope).lookup x=some c:=λx hx=>by
  obtain ⟨c,hcl⟩:=I3.ok.has x (outerK x hx);exact EK.mp (JT (by rw[hcl];rfl) hx)
 have ltc:∀x c,(cloX X scope).lookup x=some c->c<s.heap.objs.size+1:=λx c e=>by
  obtain ⟨v,q⟩:=I3.cell x c (sub x c e);exact FC q.lt
 have szp:s.heap.objs.size+1=(s.heap.push {cls:=.type "dict",data:=.dict #[]}).objs.size:=(DB ..).symm;have lt3:∀b∈fp,b<s.heap.objs.size:=λb hb=>by
  obtain ⟨o,ho,_⟩:=T.obj 0 _ st3 b hb;exact AY ho
 have nostk:∀b∈fp,b∉frs X.stack:=λb hb hs=>by
  rcases AX.mp (I3.stkSub b hs) with z | z
  ·exact (f3 b hb).2.1 z
  ·exact (f3 b hb).2.2.1 z
 have ncell:∀b∈fp,∀x c,(DO (s.heap.objs.size+1) scope.names (cloX X scope)).lookup x=some c->c≠b:=λb hb x c h=>by
  rcases cellsFrom_mem h with h | h
  ·exact (f3 b hb).2.2.2.2.1 x c (sub x c h)
  ·intro e
   have h1:s.heap.objs.size+1<=b:=e ▸ h.1;exact absurd (Cf (lt3 b hb) (Nat.le_of_succ_le h1)) (D6 _)
 have I4:Inv (Bp X (own++fr) scope fp s H) [] (start2 σ own ix) H {s with heap:=(J5 (s.heap.push {cls:=.type "dict",data:=.dict #[]}) scope.names)}:=by
  refine ⟨⟨I3.ok.mod,ok.kind,I3.ok.glob,I3.ok.blt,AF _,?inj,?has,?cab,I3.ok.hd,I3.ok.frames,.inl rfl,?exf,I3.bs,CF I3.ok.bsz I3.sz,?noex,nostk,I3.stack,I3.stkFree⟩,
   rfl,I3.bare,Un.kept old,⟨_,hns,?loc⟩,?cell,I3.hok.fresh (AF _),?freeC,?pin,I3.hok.kept old,?len⟩
  case inj=>exact λx y c h1 h2=>Ej ltc (λz u d e1 e2=>I3.ok.inj z u d (sub z d e1) (sub u d e2)) h1 h2
  case has =>
   intro x hx;refine EK.mp ?_;rcases Hw hx with z | z
   ·obtain ⟨c,hc'⟩:=has x z
    exact cellsFrom_mono (by rw[hc'];rfl)
   ·exact DX z
  case cab =>
   intro x c hx h;have hx':(x,CD)∈scope.names:=of_decide_eq_true hx;rcases cellsFrom_mem h with h | h
   ·have e:=DX (n:=s.heap.objs.size+1) (acc:=cloX X scope) hx'
    have hm:(x,BN)∈scope.names:=AAz h;exact absurd hx' (ok.one _ hm rfl)
   ·show s.heap.objs.size<=c
    lia
  case exf=>exact λb hb=>⟨BU (lt3 b hb),ncell b hb⟩
  case noex =>
   intro b o e hb;rcases (f3 b hb).2.2.2.1 with z | z
   ·exact I3.ok.noex b o e z
   ·exact absurd (Cf (Cf (AY e) I3.ok.bsz) z) (D6 _)
  case loc =>
   intro i x v e1 e2 e3;obtain ⟨j,a1,a2,a3⟩:=Kv hfr e1 e2;have mem:(x,BN)∈scope.names:=FI a3;obtain ⟨m,hn,hl⟩:=I3.loc;have ok1:=outerK x mem;obtain ⟨u,r,l⟩:=hl j x v a1 a2 (ok1.elim (λz=>.inr (.inl z)) λz=>.inr (.inr z));rcases l with⟨k,_⟩ | ⟨k,c,hcl,o,ho,hd⟩
   ·rcases ok1 with z | z
    ·rw[k] at z;cases z
    ·rw[k] at z;cases z
   ·obtain ⟨c',hc'⟩:=has x mem
    have e:=sub x c' hc';rw[hcl] at e;cases e;exact ⟨u,r,.inr ⟨Cq a3,c,by show (DO _ _ _).lookup x=_;rw[Ep (ok.one _ mem rfl)];exact hc',o,old _ _ ho,hd⟩⟩
  case cell =>
   intro x c h;refine pushCells_cell szp (λz d e=>?_) h;obtain ⟨v,o,ho,hd⟩:=I3.cell z d (sub z d e);exact ⟨v,o,AD _ ho,hd⟩
  case freeC =>
   intro x c h;rcases cellsFrom_mem h with h | h
   ·exact I3.freeC x c (sub x c h)
   ·exact I3.hok.fresh (by lia)
  case pin=>exact λp hp=>absurd (show p∈([]:List (Addr×Obj)) from hp) (by simp)
  case len=>exact Ln hfr
 have st4:tn 0 (J5 (s.heap.push {cls:=.type "dict",data:=.dict #[]}) scope.names):=T.keep 0 _ _ st3 λb _ o e=>old b o e;have stat:∀{H':Hp},(∀b∈fp,H' b=none)->∀b∈fp,FpOk (Bp X (own++fr) scope fp s H) [] H' b:=λ{H'} hn b hb =>
  ⟨hn b hb,BU (lt3 b hb),nostk b hb,.inl hb,ncell b hb,λp hp=>absurd (show p∈([]:List (Addr×Obj)) from hp) (by simp)⟩
 obtain ⟨W,⟨m1,w0⟩,turn⟩:=hq;have loop:codeAny (AL X.prog X.w) X.A (.compLoop (.ListComp elt [⟨tg,iter,ifs,0⟩] scope pos) 0 (.ref it) (.ref D) (OA scope (DO (s.heap.objs.size+1) scope.names (cloX X scope)) s.heap.objs.size X.env))
   (λr s'=>r=.ok .next/\Behind X pins σ R s.heap.objs.size s') {s with heap:=(J5 (s.heap.push {cls:=.type "dict",data:=.dict #[]}) scope.names)}:=by
  refine Dl (λn s'=>∃i τ H',Inv (Bp X (own++fr) scope fp s H) [] τ H' s'/\tn i s'.heap/\(∀b∈fp,H' b=none)/\W i n τ H') ?_ m1 ⟨0,_,H,I4,st4,λb hb=>(f3 b hb).1,w0⟩;rintro n s5 ⟨i,τ5,H5,I5,st5,fr5,w5⟩;rcases turn i n τ5 H5 w5 with⟨stop,qn⟩ | ⟨go,N,hN,step⟩
  ·refine thn (T.done (Bp X (own++fr) scope fp s H) rfl rfl rfl hc i [] s5 τ5 H5 _ I5 (stat fr5) st5 stop) λr s6 ⟨hr,I6⟩=>?_
   subst hr;obtain ⟨m6,hn6,_⟩:=I6.loc;exact ⟨rfl,H5,m6,I3.call' (ch:=fp) I6.os I6.base I6.hok I6.bare (λb hb=>⟨(f3 b hb).2.2.2.1,(f3 b hb).2.1,(f3 b hb).2.2.2.2.1,(f3 b hb).2.2.2.2.2⟩),hn6,I3.fpOk (AF _) I6.free,qn⟩
  ·refine thn (T.item (Bp X (own++fr) scope fp s H) rfl rfl rfl hc i [] s5 τ5 H5 _ I5 (stat fr5) st5 go) λr s6 ⟨u,hr,h6⟩=>?_
   subst hr;refine thn h6 λ_ s7 ⟨x,H7,I7,r7,y7,st7,fr7⟩=>?_;have I7':=I7.pinned (stat fr7) (T.obj _ _ st7);have again:∀{τ8:St}{H8:Hp}{s8:AA},Inv (Bp X (own++fr) scope fp s H) ([]++pinsAt fp s7.heap) τ8 H8 s8->N τ8 H8 ->
     ∃m,m<n/\∃i τ H',Inv (Bp X (own++fr) scope fp s H) [] τ H' s8/\tn i s8.heap/\(∀b∈fp,H' b=none)/\W i m τ H':=λ{τ8 H8 s8} I8 n8=>by
    obtain ⟨m',hm,w8⟩:=hN τ8 H8 n8;refine ⟨m',hm,i+1,τ8,H8,I8.unpinned,T.keep _ _ _ st7 λb hb o e=>(I8.pin (b,o) (BS _ (BS _ (DW hb e)))).1,λb hb=>?_,w8⟩;obtain ⟨o,e,d⟩:=T.obj _ _ st7 b hb;exact (I8.pin (b,o) (BS _ (BS _ (DW hb e)))).2.1
   refine thn (hg _ s7 τ5 H7 x u _ I7' r7 (step x H7 y7)) λ_ s8 ⟨τ8,H8,I8,q8⟩=>?_;refine thn (hi _ s8 τ8 H8 _ I8 q8) λb s9 ⟨H9,I9,q9⟩=>?_;cases b with
   | false=>exact again I9 q9
   | true =>
    refine thn (he _ s9 τ8 H9 _ I9 q9) λuv s10 ⟨v,H10,I10,r10,ys,hD,hz,q10⟩=>?_;refine thn (Cz (X:=Bp X (own++fr) scope fp s H) _ s10 τ8 H10 (.ref D) [v] (.ref D) [uv] (λ_ H'=>N τ8 H') I10 rfl (.cons r10 .nil) ⟨D,ys,v,rfl,rfl,hD,hz,q10⟩) λ_ s11 ⟨_,H11,I11,_,q11⟩=>?_;exact again I11 q11
 exact O9 loop (T.self X.A 0 _ _ _ st4 loop)
theorem XH{R:V->Hp->Prop}(hc:X.calm=true)(ok:CompOkC X.env.scope scope)(hfr:FreeAt X scope fr ix)
  (hg:∀fp s H,PG (Bp X (own++fr) scope fp s H) tg g) (hi:∀fp s H,PIfs (Bp X (own++fr) scope fp s H) ifs tc) (he:∀fp s H,PE (Bp X (own++fr) scope fp s H) elt te)
  (I2:Inv X pins σ H s) (T:Turn X.prog X.w X.K tg J fp it tn) (st2:tn 0 s.heap) (f2:∀b∈fp,FpOk X pins H b)
  (hq:∀D,H D=none->Ek J D g tc te (R (.ref D)) (start2 σ own ix) (upd H D (.lst []))) {E:Ap->AA->Prop} :
  wpAny (AL X.prog X.w) X.A (N7 []) (λacc s₃=>wpAny (AL X.prog X.w) X.A (MM scope X.env.globals (cloX X scope) [] X.env.qual none .none (some X.env)) (λcenv s₄ =>
   codeAny (AL X.prog X.w) X.A (.compStart (.ListComp elt [⟨tg,iter,ifs,0⟩] scope pos) 0 (.ref it) acc {cenv with scope:=relabel scope X.env})
    (λr s'=>r=.ok .next/\∃v,RelV v acc/\Behind X pins σ (R v) cenv.locals s') s₄) E s₃) E s:=by
 refine CH (Qt ?_);have hD:H s.heap.objs.size=none:=I2.hok.fresh (AF _);have I3:Inv X pins σ (upd H s.heap.objs.size (.lst [])) {s with heap:=s.heap.push {cls:=.type "list",dict:=none,data:=.seq ([]:List Ap).toArray}} :=
  I2.laid (t':=s.toks) (λb u e=>AD _ e) (AF _) ⟨Bi _,[],0,.nil,AN _ rfl⟩
 have st3:tn 0 (s.heap.push {cls:=.type "list",dict:=none,data:=.seq ([]:List Ap).toArray}):=T.keep 0 _ _ st2 λb _ o e=>AD _ e;have f3:∀b∈fp,FpOk X pins (upd H s.heap.objs.size (.lst [])) b:=λb hb=>by
  obtain ⟨f0,fr⟩:=f2 b hb;obtain ⟨o,ho,_⟩:=T.obj 0 _ st2 b hb;exact ⟨by rw[Ag (BU (AY ho))];exact f0,fr⟩
 refine EJ (Tp (R:=R (.ref s.heap.objs.size)) (D:=s.heap.objs.size) hc ok hfr (hg _ _ _) (hi _ _ _) (he _ _ _) I3 T st3 f3 (hq _ hD)) λr s' ⟨e,b⟩=>⟨e,V.ref s.heap.objs.size,rfl,b⟩
end
section
variable{X:Cx}{tg elt iter:Expr}{ifs:List Expr}{scope:D3}{pos:Pos}{g:TG}{tc:TT}{te:TE}{wi:TI}
theorem Ve{pins:List (Addr×Obj)}{σ:St}{H:Hp}{s:AA}(I:Inv X pins σ H s)(ok:CompOkC X.env.scope scope):∀y∈scope.names,y.2=.free->(X.env.cells.lookup y.1).isSome=true:=λy hy hf=>by
 obtain ⟨c,h⟩:=I.ok.has y.1 (ok.free y hy hf);rw[h];rfl
end
end L2
end
section
namespace L2
def Cl(S:Int->Prop)(es:List (List Int)):Prop:=∀e∈es,∀x∈e,∀y∈e,S x->S y
def gh(h:List Int)(p:Int):Int:=h.getD p.toNat 0
abbrev below(n:Nat):List Int:=(AZ n).map λ(i:Nat)=>(i:Int)
def under(n:Nat)(h:List Int)(x:Int):List Int:=upTo n λp=>decide (gh h p=x)
def usd(es:List (List Int))(fs:List Int):Nat:=(es.filter λe=>e.all λx=>decide (x∈fs)).length
def Pass(es:List (List Int))(f0:List Int)(j:Nat)(f:List Int):Prop :=
 (f=f0/\Cl (·∈f0) (es.take j))\/(usd es f0+1<=usd es f/\¬ Cl (·∈f0) es)
def pick(as:List (List Int))(ms:List Int):List (List Int):=ms.map λk=>as.getD k.toNat []
def sel(as:List (List Int))(ms:List Int):Nat->List (List Int)
 | 0=>[]
 | i+1=>sel as ms i++(if (i:Int)∈ms then [as.getD i []] else [])
end L2
end
section
namespace L2
open PySem PySem.Spec PyProof.Rows
section
variable{X:Cx}{tg elt iter:Expr}{ifs:List Expr}{scope:D3}{pos:Pos}{g:TG}{tc:TT}{te:TE}{wi:TI}
set_option tactic.hygienic true in
theorem AAt{i:Nat}{x:Str}{pos' spos:Pos}(own fr:List Str)(ix:List Nat)(hN:X.N.Nodup)(hx:X.N[i]?=some x)(hl:Loc X.env.scope x)(hc:X.calm=true)(hok:Jv X.env.scope scope=true)(hfr:FreeAt X scope fr ix)(hit:PI X tg iter wi)
  (hg:∀fp s H,PG (Bp X (own++fr) scope fp s H) tg g) (hi:∀fp s H,PIfs (Bp X (own++fr) scope fp s H) ifs tc) (he:∀fp s H,PE (Bp X (own++fr) scope fp s H) elt te)
  (hsw:KM (.ListComp elt [⟨tg,iter,ifs,0⟩] scope pos) (some (.Name x pos')) spos.line X.env=pure true:=by rfl) (hs:∀x,JE iter X.env x=pure x:=by intro _;rfl)
  (hf:X.fn x=true\/X.env.scope.names.lookup x=some .local:=by first | exact .inl rfl | exact .inr rfl | assumption) :
  PS X (.Assign [.Name x pos'] (.ListComp elt [⟨tg,iter,ifs,0⟩] scope pos) spos) (Yz (Vk own ix wi g tc te) (gName i)):=by
 intro pins s σ H D I h;have ok:=CompOkC.of hok;rw[Pt _ _ _ _ hsw];refine As (Nd (As ?_));show wpAny _ X.A (do let _ <- comprehension (.ListComp elt [⟨tg,iter,ifs,0⟩] scope pos) scope X.env _ (N7 []) false (eval iter X.env) (some (LX (.Name x pos') X.env))) _ _ s;refine As (Ee (K0 (use:=some (LX (.Name x pos') X.env)) (Q:=λ_ s'=>SP X pins D .next s') rfl hs (Uy (Ve I ok)) ok.kind ok.loc
  (thn (hit pins s σ H _ I h) λxv s₁ h₁=>thn h₁ λitv s₂ h₂=>?_)) (λ_ s' hq=>wpAny_pure (wpAny_pure hq)) λ_ _ e=>e)
 obtain ⟨it,fp,tn,J,H2,rfl,I2,T,st2,f2,hq⟩:=h₂;refine thn (XH (R:=λv H'=>D.nx (σ.set i (some v)) H') hc ok hfr hg hi he I2 T st2 f2 hq) λacc s₃ h₃=>thn h₃ λcenv s₄ h₄=>EJ h₄ λr s' ⟨hr,v,rv,H',m,I',hn,fpo,q⟩=>?_;subst hr;show wpAny _ X.A (LX (.Name x pos') X.env acc) _ _ s';refine NH (JZ I' hN hx hl rv (λs'' I'' hch=>?_) hf);obtain ⟨a,sb,ha⟩:=hch;have hCa:cenv.locals≠a:=by
  rcases ha with z | z
  ·rw[z];exact fpo.2.1
  ·exact λe=>fpo.2.2.2.2.1 x a z e.symm
 exact ⟨m,hn.sameBut sb hCa,λh' sb'=>⟨_,H',I''.sameBut fpo sb',q⟩⟩
end
theorem Ox:∀{xs:List V}{us:List Ap},xs.length=us.length->(∀(i:Nat) (x:V) (u:Ap),xs[i]?=some x->us[i]?=some u->RelV x u)->Vals xs us
 | [],[],_,_=>.nil
 | [],_::_,h,_=>by simp at h
 | _::_,[],h,_=>by simp at h
 | x::xs,u::us,h,f=>.cons (f 0 x u rfl rfl) (Ox (by simpa using h) λi y v h1 h2=>f (i+1) y v (by simpa using h1) (by simpa using h2))
section
variable{X:Cx}
theorem Jp:CallR X (.type "range") (λxs H Q=>∃j,xs=[.int j]/\∀r,H r=none->Q (.ref r) (upd H r (.rng 0 j))):=by
 intro pins s σ H xs us Q I r h;obtain ⟨j,rfl,q⟩:=h;obtain ⟨u,rfl,t,rfl⟩:=r.one;refine RE ?_;have hn:H s.heap.objs.size=none:=I.hok.fresh (AF _);exact ⟨.ref s.heap.objs.size,_,I.laid (a:=s.heap.objs.size) (o:=.rng 0 j) (λb u e=>AD _ e) (AF _) ⟨_,_,_,AN _ rfl⟩,rfl,q _ hn⟩
end
end L2
end
section
namespace PySem
def Ctx0(o:Obj):Prop:=∃vs,o.data=.fields vs/\vs[2]?=some .none
def Ctx2(h:Heap)(e:Addr):Prop:=∃o,h.get? e=some o/\Ctx0 o
end PySem
end
section
namespace L2
open PySem PySem.Spec PyProof.Rows
structure Fly(P:AM)(w:AT)(outer:List Env)(H H':Hp)(s s':AA)(a:Addr)(cls:Ap):Prop where
 os:s'.os=s.os
 bare:K5 s'.gens
 un:Un (frs outer) [] H H' s.heap s'.heap
 new:H' a=none
 ctx:Ctx2 s'.heap a
 fly:∃B a0,Heap.FlyingW B outer a cls a0 s'.heap/\HOk P w H' B/\∀b o',(∃o,s.heap.get? b=some o)->s'.heap.get? b=some o'->b∉frs outer->B.get? b=some o'
def CXF(P:AM)(w:AT):CXT:=λouter H s E e s'=>∃a cls H',e=.ref a/\Fly P w outer H H' s s' a cls/\E cls none H'
def sx(X:Cx)(a:Addr)(oe:Obj):Cx:={X with A:=X.A.mark (some (.ref a)),calm:=false,pn:=X.pn++[(a,oe)],xe:=λ_ _=>False}
def XP(X:Cx)(pins:List (Addr×Obj))(σ:St)(E:XK)(x:Ap)(s2:AA):Prop:=∃H1 s1,Inv X pins σ H1 s1/\CXF X.prog X.w X.stack H1 s1 E x s2
end L2
end
section
namespace L2
open PySem PySem.Spec PyProof.Rows PySem.W
end L2
namespace L2
open PySem PySem.Spec PyProof.Rows
section
variable{X:Cx}{K:Au}{T id:String}{name:Str}{r:V->List V->Hp->VK->Prop}{o e:Expr}{es:List Expr}{to:TE}{t:TA}{apos cpos:Pos}{tg l:Expr}{tl:TE}
theorem ACH(hK:X.K=K)(hl:PE X l tl):PI X tg l (AFO K tl):=by subst hK;exact ZL hl
end
section
variable{X:Cx}{st:Stmt}{rest:List Stmt}{t u:TS}
def AFS(t u:TS):TS:=λD σ H=>∃M:St->Hp->Prop,t {D with nx:=M} σ H/\∀σ' H',M σ' H'->u D σ' H'
theorem Ws(h1:PS X st t)(h2:PSs X rest u):PSs X (st::rest) (AFS t u):=by
 intro pins s σ H D I h;obtain ⟨M,ha,hb⟩:=h;refine N9 (thn (h1 pins s σ H {D with nx:=M} I ha) λf s1 q=>?_);cases f with
 | next =>
  obtain ⟨σ',H',I',q⟩:=q;exact h2 pins s1 σ' H' D I' (hb _ _ q)
 | ret v=>exact q
 | brk=>exact q
 | cont=>exact q
end
end L2
end
section
namespace L2
open PySem PySem.Spec PyProof.Rows PySem.W
section
variable{X:Cx}
theorem Vals.app{xs ys:List V}{us vs:List Ap}(h:Vals xs us)(k:Vals ys vs):Vals (xs++ys) (us++vs):=by
 induction h with
 | nil=>exact k
 | cons r t ih=>exact .cons r ih
def rAddL(K:Au):R2:=λx y H Q=>∃a b xs ys,x=.ref a/\y=.ref b/\SqL K H a xs/\SqL K H b ys/\xs.length+ys.length<=sizeLine/\∀p,H p=none->Q (.ref p) (upd H p (.lst (xs++ys)))
theorem ABh:OpR X (IS .Add) (rAddL X.K):=by
 intro pins s σ H x y v u Q I rx ry h;obtain ⟨a,b,xs,ys,rfl,rfl,ha,hb,hz,q⟩:=h;cases rx;cases ry;obtain ⟨vs,r1,p1,_⟩:=I.list ha;obtain ⟨ws,r2,p2,_⟩:=I.list hb;have hl:=p1.isList;have hb':=p2.isList;obtain ⟨⟨cls,dd,data,sl⟩,ho,hc,n,hd⟩:=id hl;obtain ⟨⟨cls2,dd2,data2,sl2⟩,ho2,hc2,n2,hd2⟩:=id hb';simp only at hc hd hc2 hd2;subst hc hd hc2 hd2;have e:vs.toArray++ws.toArray=(vs++ws).toArray:=by simp
 have l1:=r1.length;have l2:=r2.length;refine concat_meets ⟨_,ho,rfl⟩ ⟨_,ho2,rfl⟩ noFill_list_add seq_list_add PySem.F.slot_list_add PySem.F.entry_list_add (PySem.F.args_list_add_2 _ _) (list_addW a b vs.toArray ws.toArray n n2 dd dd2 sl sl2 (by rw[A9,A9];lia)) ⟨ho,ho2,?_⟩;rw[e];refine ⟨.ref s.heap.objs.size,_,I.laid (t':=s.toks) (o:=.lst (xs++ys)) (λb ob q=>AD _ q) (AF _) ?_,rfl,q _ (I.hok.fresh (AF _))⟩;exact ⟨by rw[By];exact hz,_,0,Vals.app r1 r2,AN _ rfl⟩
structure Own(K:Frag)(C:Addr):Prop where
 ha:findIn K (.ref C) "__class__" = some (some (.builtin "object.__class__"))
 hn:specialIn K (.builtin "object.__class__") "__get__" = some (some (.builtin "getset_descriptor.__get__"))
 tk:takesIn K (.builtin "object.__class__")=some true
 hm:mroIn K C (.type "object")=some true
 is:kitOne K (.ref C) (.ref C)=some true
theorem ACR{C:Addr}(c:Cls X.K C)(O:Own X.K C):CallR X (.builtin "isinstance") (λxs H Q=>∃p dx fs,xs=[.ref p,.ref C]/\H p=some (.ins C dx fs)/\Q (.bl true) H):=by
 intro pins s σ H xs us Q I r h;obtain ⟨p,dx,fs,rfl,hq,q⟩:=h;obtain ⟨u,v,rfl,ru,rv⟩:=r.two;cases ru;cases rv;obtain ⟨mA,M,_,_,_,_⟩:=Jx I.hok hq;obtain ⟨od,J,_⟩:=M.look;have nl:(AS p)≠.builtin "__main__.__loader__#opaque":=by intro z;cases z
 exact kia_one (kitx_own (c.get "__class__") c.hd O.ha O.hn O.tk O.hm) I.kIn J O.is nl λtk=>⟨.bl true,H,I.tok _,rfl,q⟩
end
end L2
end
section
namespace L2
open PySem PySem.Spec PyProof.Rows
open PySem.W
section
variable{X:Cx}{C:Addr}{x:Str}{p pos:Pos}
def AEm(C:Addr):TE:=λ_ H Q=>∀y dx,H y=none->H dx=none->dx≠y->Q (.ref y) (upd (upd H dx (.own y)) y (.ins C dx []))
theorem ACP(mk:makesIn X.K C=true)(hi:findIn X.K (.ref C) "__init__" = some (some (.builtin "object.__init__")))(kp:keepIn X.K (.ref C)=true)(hg:Gl X x)(hm:X.mg x=some (.ref C))
  (hdb:(x==("__debug__" : Str))=false:=by decide):PE X (.Call (.Name x p) [] [] pos) (AEm C):=by
 intro pins s σ H Q I h;refine EN (Gy I hg hm ?_ hdb);refine ME I.kIn kp (NO ?_);have hq:=h (s.heap.objs.size+1) s.heap.objs.size (I.hok.fresh (LF _)) (I.hok.fresh (AF _)) (BU (EB _));have I2:=Inv.made (C:=C) I;refine YZ I.kIn mk hi (λself=>VM (oi_bind self)) ?_;have Y:=makes_of (M:=AL X.prog X.w) I.kIn mk;have e2:((s.heap.push EG).push (FF C s.heap.objs.size)).get? (s.heap.objs.size+1)=some (FF C s.heap.objs.size):=by
  have:=AN (s.heap.push EG) (o:=FF C s.heap.objs.size) rfl
  rwa [DB] at this
 have t1:Looks (AL X.prog X.w) ((s.heap.push EG).push (FF C s.heap.objs.size)) (typeOf (.ref (s.heap.objs.size+1))) (.ref C):=(Looks.ld e2).andThen .now;have t2:Looks (AL X.prog X.w) ((s.heap.push EG).push (FF C s.heap.objs.size)) (QN (.ref (s.heap.objs.size+1)) (.type "object")) true:=t1.andThen (Y.top.keeps λb o e=>AD _ (AD _ e));refine QO oi_plain entry_oi (@check_slot (AL X.prog X.w) _ _ _ "object.__init__" "object" "__init__" (.ref (s.heap.objs.size+1)) [] [] _ oi_kind oi_split t2 (oi_args (.ref (s.heap.objs.size+1))) ?_);rw[oi_run];exact wpAny_pure (And.intro rfl ⟨.ref (s.heap.objs.size+1),_,I2,rfl,hq⟩)
end
end L2
end
section
namespace L2
open PySem PySem.Spec PyProof.Rows
section
variable{κ:Type}[DecidableEq κ]
def valV(kvs:List (κ×V))(k:κ):Option V:=(kvs.find? λkv=>decide (kv.1=k)).map (·.2)
def putK(kvs:List (κ×V))(k:κ)(v:V):List (κ×V) :=
 if (kvs.any λkv=>decide (kv.1=k))=true then kvs.map (λkv=>if kv.1=k then (kv.1,v) else kv) else kvs++[(k,v)]
theorem CP{p:κ×V}{r:List (κ×V)}{k:κ}(e:p.1=k):valV (p::r) k=some p.2:=by simp[valV,F0,e]
theorem CK{p:κ×V}{r:List (κ×V)}{k:κ}(e:¬ p.1=k):valV (p::r) k=valV r k:=by simp[valV,F0,e]
theorem Gd(k:κ):∀kvs:List (κ×V),(kvs.any λkv=>decide (kv.1=k))=(valV kvs k).isSome
 | []=>rfl
 | p::r=>by
  rw[II];by_cases e:p.1=k
  ·simp only[CP e,decide_eq_true e,Bool.true_or,R8]
  ·rw[CK e,decide_eq_false e,VO];exact Gd k r
theorem RW(k j:κ)(y:V):∀kvs:List (κ×V),valV (kvs.map λkv=>if kv.1=k then (kv.1,y) else kv) j=(valV kvs j).map λx=>if j=k then y else x
 | []=>rfl
 | p::r=>by
  have ih:=RW k j y r;rw[B5];by_cases h:p.1=k
  ·rw[if_pos h]
   by_cases e:p.1=j
   ·rw[CP (p:=(p.1,y)) e,CP e,L9,if_pos (e.symm.trans h)]
   ·rw[CK (p:=(p.1,y)) e,CK e,ih]
  ·rw[if_neg h]
   by_cases e:p.1=j
   ·rw[CP (p:=p) e,CP e,L9,if_neg (λz=>h (e.trans z))]
   ·rw[CK (p:=p) e,CK e,ih]
theorem NP(k j:κ)(y:V):∀kvs:List (κ×V),valV kvs k=none->valV (kvs++[(k,y)]) j=if j=k then some y else valV kvs j
 | [],_=>by
  by_cases e:k=j
  ·rw[if_pos e.symm];exact CP (p:=(k,y)) e
  ·rw[if_neg (λz=>e z.symm)];exact CK (p:=(k,y)) e
 | p::r,hn=>by
  rw[OB];have hk:¬ p.1=k:=λz=>by rw[CP z] at hn;cases hn
  rw[CK hk] at hn;have ih:=NP k j y r hn;by_cases e:p.1=j
  ·rw[CP e,CP e,if_neg (λz=>hk (e.trans z))]
  ·rw[CK e,CK e,ih]
theorem Ea(kvs:List (κ×V))(k j:κ)(y:V):valV (putK kvs k y) j=if j=k then some y else valV kvs j:=by
 unfold putK;by_cases a:(kvs.any λkv=>decide (kv.1=k))=true
 ·rw[if_pos a,RW]
  rw[Gd] at a;by_cases e:j=k
  ·obtain ⟨x,hx⟩:=EK.mp a
   rw[if_pos e,e,hx,L9,if_pos rfl]
  ·rw[if_neg e]
   cases valV kvs j with
   | none=>rfl
   | some x=>rw[L9,if_neg e]
 ·rw[if_neg a]
  refine NP k j y kvs ?_;rw[Gd] at a;cases q:valV kvs k with
  | none=>rfl
  | some x=>rw[q] at a;exact (a rfl).elim
theorem CT(kvs:List (κ×V))(k:κ)(v:V):(putK kvs k v).length<=kvs.length+1:=by
 unfold putK;split
 ·rw[AB];lia
 ·rw[By,Dx,G9];lia
theorem Hv{kvs:List (κ×V)}{k:κ}(v:V)(h:valV kvs k=none):putK kvs k v=kvs++[(k,v)]:=by
 unfold putK;rw[Gd,h];exact if_neg (by decide)
theorem RelO.isSome_eq{o:Option V}{u:Option Ap}(r:RelO o u):o.isSome=u.isSome:=by
 cases o with
 | none=>cases u with
  | none=>rfl
  | some _=>exact (show False from r).elim
 | some _=>cases u with
  | none=>exact (show False from r).elim
  | some _=>rfl
theorem RelO.getD{o:Option V}{u:Option Ap}{d:V}{d':Ap}(r:RelO o u)(rd:RelV d d'):RelV (o.getD d) (u.getD d'):=by
 cases o with
 | none=>cases u with
  | none=>exact rd
  | some _=>exact (show False from r).elim
 | some _=>cases u with
  | none=>exact (show False from r).elim
  | some _=>exact r
theorem KV.val{kvs:List (κ×V)}{vs:List (κ×Ap)}(r:KV kvs vs)(k:κ):RelO (valV kvs k) (N8 vs k):=by
 unfold KV at r
 induction r with
 | nil=>exact HH
 | @cons p q ps qs h t ih =>
  obtain ⟨h1,h2⟩:=h;by_cases e:p.1=k
  ·have e':q.1=k:=h1.symm.trans e
   have b:N8 (q::qs) k=some q.2:=by simp[N8,F0,e']
   rw[CP e,b];exact h2
  ·have e':¬ q.1=k:=λz=>e (h1.trans z)
   have b:N8 (q::qs) k=N8 qs k:=by simp[N8,F0,e']
   rw[CK e,b];exact ih
theorem KV.any{kvs:List (κ×V)}{vs:List (κ×Ap)}(r:KV kvs vs)(k:κ):(kvs.any λkv=>decide (kv.1=k))=vs.any λkv=>decide (kv.1=k):=by
 unfold KV at r
 induction r with
 | nil=>rfl
 | cons h t ih=>rw[II,II,ih,h.1]
theorem KV.repl{kvs:List (κ×V)}{vs:List (κ×Ap)}(r:KV kvs vs)(k:κ){y:V}{u:Ap}(ry:RelV y u) :
  KV (kvs.map λkv=>if kv.1=k then (kv.1,y) else kv) (vs.map λkv=>if kv.1=k then (kv.1,u) else kv):=by
 unfold KV at r ⊢
 induction r with
 | nil=>exact .nil
 | @cons p q ps qs h t ih =>
  rw[B5,B5];refine .cons ?_ ih;obtain ⟨h1,h2⟩:=h;by_cases e:p.1=k
  ·rw[if_pos e,if_pos (h1.symm.trans e)];exact ⟨h1,ry⟩
  ·rw[if_neg e,if_neg (λz=>e (h1.trans z))];exact ⟨h1,h2⟩
theorem KV.put{kvs:List (κ×V)}{vs:List (κ×Ap)}(r:KV kvs vs)(k:κ){y:V}{u:Ap}(ry:RelV y u):KV (putK kvs k y) (stored vs k u):=by
 unfold putK stored;rw[r.any k];by_cases e:(vs.any λkv=>decide (kv.1=k))=true
 ·rw[if_pos e,if_pos e];exact r.repl k ry
 ·rw[if_neg e,if_neg e];exact S3 r ⟨rfl,ry⟩
theorem KV.length{kvs:List (κ×V)}{vs:List (κ×Ap)}(r:KV kvs vs):kvs.length=vs.length:=B4 r
end
theorem Lq{P:AM}{w:AT}{k:Key}{u:Ap}(r:RelV (kV k) u):(Bd P w).is k u=true:=by
 cases k with
 | inl i=>obtain ⟨t,e⟩:=(show ∃t,u=EV i t from r);subst e;exact RJ P w i t
 | inr x=>obtain ⟨t,e⟩:=(show ∃t,u=Rc x t from r);subst e;exact Tj P w x t
theorem NT{P:AM}{w:AT}:∀{ks:List Key}{us:List Ap},Vals (ks.map kV) us->ItemsAre (Bd P w) ks us
 | [],_,r=>by rw[Oy] at r;cases r;exact .nil
 | k::ks,_,r=>by
  rw[B5] at r;cases r with
  | cons h t=>exact .cons (Lq h) (NT t)
abbrev KT(H:Hp):List (List Key×V)->List (List Key×Addr×Ap)->Prop:=Cb λp q=>p.1=q.1/\H q.2.1=some (.tup (p.1.map kV))/\RelV p.2 q.2.2
theorem KT.val{H:Hp}{kvs:List (List Key×V)}{xs:List (List Key×Addr×Ap)}(r:KT H kvs xs)(k:List Key):RelO (valV kvs k) ((IL xs k).map (·.2)):=by
 induction r with
 | nil=>exact HH
 | @cons p q ps qs h t ih =>
  obtain ⟨h1,_,h2⟩:=h;by_cases e:p.1=k
  ·have e':q.1=k:=h1.symm.trans e
   have b:IL (q::qs) k=some q.2:=by simp[IL,F0,e']
   rw[CP e,b];exact h2
  ·have e':¬ q.1=k:=λz=>e (h1.trans z)
   have b:IL (q::qs) k=IL qs k:=by simp[IL,F0,e']
   rw[CK e,b];exact ih
theorem KT.repl{H:Hp}{kvs:List (List Key×V)}{xs:List (List Key×Addr×Ap)}(r:KT H kvs xs)(k:List Key){y:V}{u:Ap}(ry:RelV y u) :
  KT H (kvs.map λkv=>if kv.1=k then (kv.1,y) else kv) (xs.map (putAt k u)):=by
 induction r with
 | nil=>exact .nil
 | @cons p q ps qs h t ih =>
  rw[B5,B5];refine .cons ?_ ih;obtain ⟨h1,h2,h3⟩:=h;unfold putAt;by_cases e:p.1=k
  ·rw[if_pos e,if_pos (h1.symm.trans e)];exact ⟨h1,h2,ry⟩
  ·rw[if_neg e,if_neg (λz=>e (h1.trans z))];exact ⟨h1,h2,h3⟩
theorem KT.put{H:Hp}{kvs:List (List Key×V)}{xs:List (List Key×Addr×Ap)}(r:KT H kvs xs)(k:List Key){b:Addr}{y:V}{u:Ap}(hb:H b=some (.tup (k.map kV)))(ry:RelV y u) :
  KT H (putK kvs k y) (UX xs k b u):=by
 have e:(kvs.any λkv=>decide (kv.1=k))=(IL xs k).isSome:=by
  rw[Gd,(r.val k).isSome_eq,Ll]
 unfold putK UX;rw[e];by_cases q:(IL xs k).isSome=true
 ·rw[if_pos q,if_pos q];exact r.repl k ry
 ·rw[if_neg q,if_neg q];exact S3 r ⟨rfl,hb,ry⟩
theorem KT.keeps{H H':Hp}{kvs:List (List Key×V)}{xs:List (List Key×Addr×Ap)}(r:KT H kvs xs)(ht:∀b ys,H b=some (.tup ys)->H' b=some (.tup ys)):KT H' kvs xs :=
 Paired.mapP r λ_ _ z=>⟨z.1,ht _ _ z.2.1,z.2.2⟩
section
variable{P:AM}{w:AT}{H:Hp}{h:Heap}{a:Addr}
theorem ACz{u:HO}(ok:HOk P w H h)(e:Rd H a u):ObjOk P w H h a u:=e.ok ok
theorem Mr{kvs:List (Key×V)}(ok:HOk P w H h)(e:Rd H a (.dK kvs)):kvs.length<=sizeLine/\(a==D8)=false/\∃vs,KV kvs vs/\h.DictOf (Bd P w) a vs :=
 show ObjOk P w H h a (.dK kvs) from ACz ok e
theorem ACt{kvs:List (Key×V)}(ok:HOk P w H h)(e:H a=some (.dK kvs)):kvs.length<=sizeLine/\(a==D8)=false/\∃vs,KV kvs vs/\h.DictOf (Bd P w) a vs:=Mr ok (.inl e)
theorem Iw{ks:List Key}(ok:HOk P w H h)(e:H a=some (.tup (ks.map kV))):(MY (Bd P w)).is h ks a:=by
 obtain ⟨_,its,r,o,h1,h2,n,h3⟩:=(show ObjOk P w H h a (.tup (ks.map kV)) from ok a _ e);exact ⟨o,its.toArray,n,h1,h2,h3,by simpa using NT r⟩
theorem Ot{kvs:List (List Key×V)}(ok:HOk P w H h)(e:Rd H a (.dT kvs)):kvs.length<=sizeLine/\(a==D8)=false /\
  ∃xs,KT H kvs xs/\h.DictOfH (MY (Bd P w)) a xs:=by
 obtain ⟨z,y,xs,r,o,es,ep,h1,h2,h3,h4,h5⟩:=(show ObjOk P w H h a (.dT kvs) from ACz ok e);refine ⟨z,y,xs,r,o,es,ep,h1,h2,h3,h4,λx hx=>?_,h5⟩;have all:∀{l:List (List Key×V)}{m:List (List Key×Addr×Ap)},KT H l m->∀x∈m,(MY (Bd P w)).is h x.1 x.2.1:=by
  intro l m q
  induction q with
  | nil=>intro x hx;exact nomatch hx
  | @cons p q ps qs hq t ih =>
   intro x hx;rcases AX.mp hx with e | hx
   ·subst e
    exact Iw ok (by rw[<- hq.1];exact hq.2.1)
   ·exact ih x hx
 exact all r x hx
theorem AEu{kvs:List (List Key×V)}(ok:HOk P w H h)(e:H a=some (.dT kvs)):kvs.length<=sizeLine/\(a==D8)=false /\
  ∃xs,KT H kvs xs/\h.DictOfH (MY (Bd P w)) a xs:=Ot ok (.inl e)
end
def DGet(H:Hp)(a:Addr)(y:V)(r:Option V):Prop :=
 (∃kvs k,Rd H a (.dK kvs)/\y=kV k/\r=valV kvs k)\/∃kvs k b,Rd H a (.dT kvs)/\y=.ref b/\H b=some (.tup (k.map kV))/\r=valV kvs k
def DPut(H:Hp)(a:Addr)(y v:V)(H':Hp):Prop :=
 (∃kvs k,H a=some (.dK kvs)/\y=kV k/\kvs.length<sizeLine/\H'=upd H a (.dK (putK kvs k v))) \/
 ∃kvs k b,H a=some (.dT kvs)/\y=.ref b/\H b=some (.tup (k.map kV))/\kvs.length<sizeLine/\H'=upd H a (.dT (putK kvs k v))
theorem DGet.k{H:Hp}{a:Addr}{kvs:List (Key×V)}{k:Key}(e:H a=some (.dK kvs)):DGet H a (kV k) (valV kvs k):=.inl ⟨kvs,k,.inl e,rfl,rfl⟩
theorem DGet.t{H:Hp}{a b:Addr}{kvs:List (List Key×V)}{k:List Key}(e:H a=some (.dT kvs))(eb:H b=some (.tup (k.map kV))):DGet H a (.ref b) (valV kvs k):=.inr ⟨kvs,k,b,.inl e,rfl,eb,rfl⟩
section
variable{X:Cx}{pins:List (Addr×Obj)}{σ:St}{H:Hp}{s:AA}{a:Addr}{y v:V}{u r:Ap}{o:Option V}{A:BQ}{E:Ap->AA->Prop}
theorem Inv.big(I:Inv X pins σ H s):D8<s.heap.objs.size:=by
 have h:A8<s.heap.objs.size:=(I.mod.glob.keeps I.bk).lt;exact Nat.lt_trans (by decide) h
theorem YL{Q:Ap->AA->Prop}(hu:A.units+1<C2)(I:Inv X pins σ H s)(g:DGet H a y (some v))(ry:RelV y u)(h:∀w' s',Inv X pins σ H s'->RelV v w'->Q w' s') :
  wpAny (AL X.prog X.w) A (LO (.ref a) u) Q E s:=by
 rcases g with⟨kvs,k,e,ey,l⟩ | ⟨kvs,k,b,e,ey,eb,l⟩
 ·subst ey
  obtain ⟨z,hd,vs,rel,dd⟩:=Mr I.hok e;obtain ⟨w',hw,rw'⟩:=RelO.some_of (v:=v) (o:=N8 vs k) (by rw[l];exact rel.val k);exact wpAny_getItem_of (Lq ry) dd.mapOf hw (h w' _ (I.tok _) rw')
 ·subst ey
  cases (show u=AS b from ry);obtain ⟨z,hd,xs,rel,dd⟩:=Ot I.hok e;obtain ⟨w',hw,rw'⟩:=RelO.some_of (v:=v) (o:=(IL xs k).map (·.2)) (by rw[l];exact rel.val k);obtain ⟨p,hp,hp2⟩:=Pd.mp hw;refine R9 (K1 hu) (Iw I.hok eb) dd hp ?_;rw[hp2];exact h w' _ (I.tok _) rw'
theorem AFb{Q:Ap->AA->Prop}(hu:A.units+1<C2)(I:Inv X pins σ H s)(g:DGet H a y o)(ry:RelV y u)(h:∀s',Inv X pins σ H s'->Q (.bool o.isSome) s') :
  wpAny (AL X.prog X.w) A (DA .In u (.ref a)) Q E s:=by
 rcases g with⟨kvs,k,e,ey,l⟩ | ⟨kvs,k,b,e,ey,eb,l⟩
 ·subst ey
  obtain ⟨z,hd,vs,rel,dd⟩:=Mr I.hok e;refine wpAny_in_of (Lq ry) hd dd.mapOf ?_;rw[<- (rel.val k).isSome_eq,<- l];exact h _ (I.tok _)
 ·subst ey
  cases (show u=AS b from ry);obtain ⟨z,hd,xs,rel,dd⟩:=Ot I.hok e;refine wpAny_in_heap (K1 hu) (Iw I.hok eb) hd dd ?_;have q:=(rel.val k).isSome_eq;rw[Ll] at q;rw[<- q,<- l];exact h _ (I.tok _)
theorem Js{h':Heap}{t':Nat}{ob:HO}(I:Inv X pins σ H s)(mu:Mut (H a))(hs:ET a s.heap h')(he:∃q,h'.get? a=some q)(new:ObjOk X.prog X.w (upd H a ob) h' a ob) :
  Inv X pins σ (upd H a ob) {s with heap:=h',toks:=t'} :=
 I.write (x:=a) (e:=a) mu (.inl rfl) (λb q hb z=>(hs.2 b hb).trans z) he new
theorem AAb{P:AM}{w:AT}{H':Hp}{h':Heap}{kvs:List (Key×V)}{vs:List (Key×Ap)}(z:kvs.length<=sizeLine)(hd:(a==D8)=false)(rel:KV kvs vs)(dd:h'.DictOf (Bd P w) a vs) :
  ObjOk P w H' h' a (.dK kvs):=⟨z,hd,vs,rel,dd⟩
theorem Wv{H':Hp}{Q:Unit->AA->Prop}(hu:A.units+1<C2)(I:Inv X pins σ H s)(g:DPut H a y v H')(ry:RelV y u)(rv:RelV v r)(h:∀s',Inv X pins σ H' s'->Q () s') :
  wpAny (AL X.prog X.w) A (setItem (.ref a) u r) Q E s:=by
 rcases g with⟨kvs,k,e,ey,l,eH⟩ | ⟨kvs,k,b,e,ey,eb,l,eH⟩
 ·subst ey eH
  obtain ⟨z,hd,vs,rel,dd⟩:=ACt I.hok e;have hz:vs.length<=sizeLine:=by rw[<- rel.length];exact z
  have hl:(putK kvs k v).length<=sizeLine:=by have:=CT kvs k v;lia
  refine wpAny_setItem_pairs (hsz:=hz) (Lq ry) dd λh' dd' hs=>h _ ?_;have he:∃q,h'.get? a=some q:=let ⟨q,_,_,hq,_⟩:=dd';⟨q,hq⟩
  exact Js I (by rw[e];exact HH) hs he (AAb hl hd (rel.put k rv) dd')
 ·subst ey eH
  cases (show u=AS b from ry);obtain ⟨z,hd,xs,rel,dd⟩:=AEu I.hok e;have hz:xs.length<=sizeLine:=by rw[<- B4 rel];exact z
  have hl:(putK kvs k v).length<=sizeLine:=by have:=CT kvs k v;lia
  refine Sa (hsz:=hz) (K1 hu) (Iw I.hok eb) dd λh' dd' hs=>h _ ?_;obtain ⟨q,es,ep,hq,h2,h3,h4,_,h5⟩:=dd';refine Js I (by rw[e];exact HH) hs ⟨q,hq⟩ ⟨hl,hd,_,(rel.put k eb rv).keeps λc ys ec=>?_,q,es,ep,hq,h2,h3,h4,h5⟩;rw[Ag (Cd ec e (λz=>nomatch z))];exact ec
end
def NoSl(i:Expr):Prop:=∀ov iv,O6 i false ov iv=operate [ov,iv] (LO ov iv)
theorem Wb{prog:AM}{w:AT}{A:BQ}{E:Ap->AA->Prop}{s:AA}{env:Env}{value slice:Expr}{pos:Pos}{T id:String}{Q:Ap->AA->Prop}
  (hl:typeLookup (.type T) "__getitem__" = pure (some (.builtin id))) (hs:NoSl slice)
  (h:wpAny (AL prog w) A (eval value env) (λo s₁=>wpAny (AL prog w) A (eval slice env) (λi s₂=>s₂.TypeIs o T/\wpAny (AL prog w) A (LO o i) Q E s₂) E s₁) E s) :
  wpAny (AL prog w) A (eval (.Subscript value slice pos) env) Q E s:=by
 refine TL (Ee h (λo s₁ h₁=>Ee h₁ (λi s₂ h₂=>?_) λ_ _ x=>x) λ_ _ x=>x);obtain ⟨hT,h₂⟩:=h₂;unfold Q0;refine As ?_;rw[getitemInPython_of_ne hT.not_modules];refine As (Ha hT hl ?_);have fin:wpAny (AL prog w) A (O6 slice false o i) (λr s₃=>wpAny (AL prog w) A (letTemporaryGo value o r >>= λ_=>pure r) Q E s₃) E s₂:=by
  rw[hs o i];exact wpAny_operating (Ee h₂ (λr s₃ h₃=>As (wpAny_letTemporaryGo (wpAny_pure h₃))) λ_ _ x=>x)
 first
  | exact wpAny_pure (As fin)
  | exact As (wpAny_pure (As fin))
  | exact As fin
theorem Sg{X:Cx}{pins:List (Addr×Obj)}{σ:St}{H:Hp}{s:AA}{a:Addr}{y:V}{o:Option V}(I:Inv X pins σ H s)(g:DGet H a y o):s.TypeIs (.ref a) "dict":=by
 rcases g with⟨kvs,k,e,_,_⟩ | ⟨kvs,k,b,e,_,_,_⟩
 ·obtain ⟨_,_,vs,_,dd⟩:=Mr I.hok e
  exact dd.typeIs
 ·obtain ⟨_,_,xs,_,dd⟩:=Ot I.hok e
  exact dd.typeIs
def AEr(td ty:TE):TE:=λσ H Q=>td σ H λx H1=>ty σ H1 λy H2=>∃a v,x=.ref a/\DGet H2 a y (some v)/\Q v H2
def AFi(ty td:TE):TE:=λσ H Q=>ty σ H λy H1=>td σ H1 λx H2=>∃a o,x=.ref a/\DGet H2 a y o/\Q (.bl o.isSome) H2
def AEc(td ty tv:TE):TS:=λD σ H=>tv σ H λv H1=>td σ H1 λx H2=>ty σ H2 λy H3=>∃a H4,x=.ref a/\DPut H3 a y v H4/\D.nx σ H4
section
variable{X:Cx}{o i e value:Expr}{pos pos' tpos:Pos}{td ty tv:TE}
theorem QS(hu:X.A.units+1<C2)(ho:PE X o td)(hi:PE X i ty)(hs:NoSl i):PE X (.Subscript o i pos) (AEr td ty):=by
 intro pins s σ H Q I h;refine Wb NU.lookup hs (thn (ho pins s σ H _ I h) λu s1 ⟨x,H1,I1,rx,q1⟩=>thn (hi pins s1 σ H1 _ I1 q1) λiv s2 ⟨y,H2,I2,ry,a,v,ex,g,q2⟩=>?_);subst ex;obtain rfl:u=AS a:=rx;exact ⟨Sg I2 g,YL hu I2 g ry λw' s3 I3 rw'=>⟨v,H2,I3,rw',q2⟩⟩
theorem AAg(hu:X.A.units+1<C2)(hi:PE X i ty)(ho:PE X o td):PC X .In i o (AFi ty td):=by
 intro pins s σ H Q I h;refine thn (hi pins s σ H _ I h) λiv s1 ⟨y,H1,I1,ry,q1⟩=>thn (ho pins s1 σ H1 _ I1 q1) λu s2 ⟨x,H2,I2,rx,a,ov,ex,g,q2⟩=>?_;subst ex;obtain rfl:u=AS a:=rx;exact AFb hu I2 g ry λs3 I3=>⟨.bl ov.isSome,H2,I3,rfl,q2⟩
theorem KD(hu:X.A.units+1<C2)(ho:PE X o td)(hi:PE X i ty)(hv:PE X value tv)(hs:KM value (some (.Subscript o i pos')) pos.line X.env=pure false) :
  PS X (.Assign [.Subscript o i pos'] value pos) (AEc td ty tv):=by
 intro pins s σ H D I h;refine Pe (thn (hv pins s σ H _ I h) λr s1 ⟨v,H1,I1,rv,q1⟩=>thn (ho pins s1 σ H1 _ I1 q1) λu s2 ⟨x,H2,I2,rx,q2⟩=>thn (hi pins s2 σ H2 _ I2 q2) λiv s3 ⟨y,H3,I3,ry,a,H4,ex,g,q3⟩=>?_) hs;subst ex;obtain rfl:u=AS a:=rx;exact Wv hu I3 g ry rv λs4 I4=>⟨σ,H4,I4,q3⟩
end
theorem ZM{P:AM}{w:AT}{H:Hp}(h:Heap)(hb:D8<h.objs.size):ObjOk P w H (h.push {cls:=.type "dict",data:=.dict #[]}) h.objs.size (.dK []) :=
 ⟨Bi _,beq_eq_false_iff_ne.mpr (DM (BU hb)),[],.nil,Yf h⟩
theorem AAG{P:AM}{w:AT}{H:Hp}(h:Heap)(hb:D8<h.objs.size):ObjOk P w H (h.push {cls:=.type "dict",data:=.dict #[]}) h.objs.size (.dT []) :=
 ⟨Bi _,beq_eq_false_iff_ne.mpr (DM (BU hb)),[],.nil,_,#[],0,AN _ rfl,⟨rfl,rfl,rfl⟩,rfl,rfl,PF⟩
def AEI:TE:=λ_ H Q=>∀p,H p=none->Q (.ref p) (upd H p (.dT []))
section
variable{X:Cx}{pos:Pos}
theorem AAx:PE X (.Dict [] [] pos) AEI:=λpins s σ H Q I h =>
 wpAny_Dict_empty ⟨.ref s.heap.objs.size,_,I.laid (a:=s.heap.objs.size) (o:=.dT []) (t':=s.toks) (λ_ _ q=>AD _ q) (AF _) (AAG s.heap I.big),rfl,h _ (I.hok.fresh (AF _))⟩
end
def UW:List (TE×TE)->St->Hp->(List (V×V)->Hp->Prop)->Prop
 | [],_,H,Q=>Q [] H
 | (tk,tv)::r,σ,H,Q=>tk σ H λx H1=>tv σ H1 λy H2=>UW r σ H2 λps H3=>Q ((x,y)::ps) H3
abbrev VV:List (V×V)->List (Ap×Ap)->Prop:=Cb λp q=>RelV p.1 q.1/\RelV p.2 q.2
def PPs(X:Cx)(pos:Pos)(keys:List (Option Expr))(values:List Expr)(trs:List (TE×TE)):Prop :=
 ∀(pins:List (Addr×Obj)) (s:AA) (σ:St) (H:Hp) (Q:List (V×V)->Hp->Prop),Inv X pins σ H s->UW trs σ H Q ->
  wpAny (AL X.prog X.w) X.A (evalPairs (pairTrees keys values X.env pos)) (λvs s'=>∃ps H',Inv X pins σ H' s'/\VV ps vs/\Q ps H') X.xe s
theorem Wk{X:Cx}{pos:Pos}:PPs X pos [] [] []:=λpins s σ H Q I h=>pairTrees_nil_walk ⟨[],H,I,.nil,h⟩
theorem Kz{X:Cx}{pos:Pos}{k v:Expr}{ks:List (Option Expr)}{vs:List Expr}{tk tv:TE}{trs:List (TE×TE)}(hk:PE X k tk)(hv:PE X v tv)(hr:PPs X pos ks vs trs) :
  PPs X pos (some k::ks) (v::vs) ((tk,tv)::trs):=λpins s σ H Q I h =>
 pairTrees_cons_walk (thn (hk pins s σ H _ I h) λu s1 ⟨x,H1,I1,rx,q1⟩=>thn (hv pins s1 σ H1 _ I1 q1) λw2 s2 ⟨y,H2,I2,ry,q2⟩ =>
  thn (hr pins s2 σ H2 _ I2 q2) λws s3 ⟨ps,H3,I3,rel,q3⟩=>⟨(x,y)::ps,H3,I3,.cons ⟨rx,ry⟩ rel,q3⟩)
def mergeK(kvs more:List (Key×V)):List (Key×V):=more.foldl (λacc kv=>putK acc kv.1 kv.2) kvs
theorem KV.merge:∀{more:List (Key×V)}{rs:List (Key×Ap)}{kvs:List (Key×V)}{vs:List (Key×Ap)},KV more rs->KV kvs vs->KV (mergeK kvs more) (merged vs rs):=by
 intro more rs kvs vs r;unfold KV at r
 induction r generalizing kvs vs with
 | nil=>intro q;exact q
 | @cons p q ps qs h t ih =>
  intro r0;have e:KV (putK kvs p.1 p.2) (stored vs q.1 q.2):=by
   have:=r0.put p.1 h.2;rw[<- h.1];exact this
  exact ih e
theorem HN:∀(more kvs:List (Key×V)),(mergeK kvs more).length<=kvs.length+more.length
 | [],kvs=>by show kvs.length<=kvs.length+0;lia
 | p::r,kvs=>by
  have h1:=HN r (putK kvs p.1 p.2);have h2:=CT kvs p.1 p.2;show (mergeK (putK kvs p.1 p.2) r).length<=_;rw[Dx];lia
theorem Lk{P:AM}{w:AT}:∀{kvs:List (Key×V)}{ws:List (Ap×Ap)},VV (kvs.map λkv=>(kV kv.1,kv.2)) ws->∃rs,Carries (Bd P w) ws rs/\KV kvs rs
 | [],_,r=>by rw[Oy] at r;cases r;exact ⟨[],HH,.nil⟩
 | p::kvs,_,r=>by
  rw[B5] at r;cases r with
  | @cons a b as bs h t =>
   obtain ⟨rs,c,q⟩:=Lk (P:=P) (w:=w) t;obtain ⟨b1,b2⟩:=b;exact ⟨(p.1,b2)::rs,⟨Lq h.1,rfl,c⟩,.cons ⟨rfl,h.2⟩ q⟩
def AFP(trs:List (TE×TE)):TE:=λσ H Q=>∀p,H p=none->UW trs σ (upd H p (.dK [])) λps H2=>H2 p=some (.dK [])/\∃kvs:List (Key×V),ps=kvs.map (λkv=>(kV kv.1,kv.2))/\kvs.length<=15/\Q (.ref p) (upd H2 p (.dK (mergeK [] kvs)))
theorem WD{X:Cx}{pos:Pos}{keys:List (Option Expr)}{values:List Expr}{trs:List (TE×TE)}(h:PPs X pos keys values trs)(hall:keys.all (·.isSome)=true)(hl:keys.length=values.length)(h0:keys≠[])
  (h15:keys.length<=15):PE X (.Dict keys values pos) (AFP trs):=by
 intro pins s σ H Q I q;have hn:=I.hok.fresh (AF s.heap.objs.size);have I1:=I.laid (a:=s.heap.objs.size) (o:=.dK []) (h':=s.heap.push {cls:=.type "dict",data:=.dict #[]}) (t':=s.toks) (λ_ _ q=>AD _ q) (AF _) (ZM s.heap I.big);refine wpAny_Dict_walk (knd:=Bd X.prog X.w) hall hl h0 h15 (thn (h pins _ σ _ _ I1 (q _ hn)) λws s2 ⟨ps,H2,I2,rel,e,kvs,ep,lk,q2⟩=>?_);subst ep;obtain ⟨rs,c,rk⟩:=Lk (P:=X.prog) (w:=X.w) rel;obtain ⟨z,hd,vs0,r0,dd⟩:=ACt I2.hok e;cases r0;refine ⟨rs,c,dd,λh' dd' hs=>⟨.ref s.heap.objs.size,_,?_,rfl,q2⟩⟩;have hz:(mergeK [] kvs).length<=sizeLine:=by
  have h1:=HN kvs [];rw[G9] at h1;rw[FX];lia
 have he:∃q,h'.get? s.heap.objs.size=some q:=let ⟨q,_,_,hq,_⟩:=dd';⟨q,hq⟩
 exact Js I2 (by rw[e];exact HH) hs he (AAb hz hd (rk.merge .nil) dd')
structure M2(X:Cx)(o:Expr)(m:Str)(apos:Pos)(e f:Expr)(cpos:Pos):Prop where
 base:Nc o m X.env (eval o X.env)=eval o X.env
 few:((Hm cpos (Ct [e,f] X.env)).all (λx=>!x.1)&&(KP cpos (HQ [] X.env)).all (λx=>x.1.isSome)
  && decide (([e,f]:List Expr).length+([]:List N5).length+(if ([]:List N5).isEmpty then 0 else 1)<30))=true
 line:(apos.endLine==cpos.line)=true
 trees:Hm cpos (Ct [e,f] X.env)=[(false,eval e X.env),(false,eval f X.env)]
def IsD(H:Hp)(a:Addr):Prop:=(∃kvs,Rd H a (.dK kvs))\/∃kvs,Rd H a (.dT kvs)
theorem ADl{X:Cx}{pins:List (Addr×Obj)}{σ:St}{H:Hp}{s:AA}{a:Addr}(I:Inv X pins σ H s)(d:IsD H a) :
  s.TypeIs (.ref a) "dict"/\(∀b,AS a=.ref b->∃ob,s.heap.get? b=some ob/\ob.dict=none)/\(a==D8)=false:=by
 rcases d with⟨kvs,e⟩ | ⟨kvs,e⟩
 ·obtain ⟨_,hd,vs,_,dd⟩:=Mr I.hok e
  refine ⟨dd.typeIs,λb q=>?_,hd⟩;cases q;obtain ⟨ob,_,_,h1,h2,_⟩:=dd;exact ⟨ob,h1,h2.2.1⟩
 ·obtain ⟨_,hd,xs,_,dd⟩:=Ot I.hok e
  refine ⟨dd.typeIs,λb q=>?_,hd⟩;cases q;obtain ⟨ob,_,_,h1,h2,_⟩:=dd;exact ⟨ob,h1,h2.2.1⟩
section
variable{X:Cx}{pins:List (Addr×Obj)}{σ:St}{H:Hp}{s:AA}{a:Addr}{y d:V}{u r:Ap}{o:Option V}{A:BQ}{E:Ap->AA->Prop}
theorem ADq{Q:Ap->AA->Prop}(hu:A.units+1<C2)(I:Inv X pins σ H s)(g:DGet H a y o)(ry:RelV y u)(rd:RelV d r)(h:∀w' s',Inv X pins σ H s'->RelV (o.getD d) w'->Q w' s') :
  wpAny (AL X.prog X.w) A (call (.builtin "dict.get") [.ref a,u,r]) Q E s:=by
 rcases g with⟨kvs,k,e,ey,l⟩ | ⟨kvs,k,b,e,ey,eb,l⟩
 ·subst ey
  obtain ⟨z,hd,vs,rel,dd⟩:=Mr I.hok e;refine Sb LP dd.typeIs Pf (OL _ _ _) (meets_dict_get_default (Bd X.prog X.w) a (Lq ry) hd r) ⟨_,dd.mapOf,h _ _ (I.tok _) ?_⟩;rw[l];exact (rel.val k).getD rd
 ·subst ey
  cases (show u=AS b from ry);obtain ⟨z,hd,xs,rel,dd⟩:=Ot I.hok e;refine Sb LP dd.typeIs Pf (OL _ _ _) (meetsH_dict_get_default (MY (Bd X.prog X.w)) a b hd r) ⟨K1 hu,k,xs,Iw I.hok eb,dd,h _ _ (I.tok _) ?_⟩;rw[l];exact (rel.val k).getD rd
end
def AEZ(td ty tx:TE):TE:=λσ H Q=>td σ H λx H1=>∃a,x=.ref a/\IsD H1 a/\ty σ H1 λy H2=>tx σ H2 λz H3=>∃o,DGet H3 a y o/\Q (o.getD z) H3
section
variable{X:Cx}{o e f:Expr}{apos cpos:Pos}{td ty tx:TE}
theorem Zt(hu:X.A.units+1<C2)(ho:PE X o td)(he:PE X e ty)(hf:PE X f tx)(m:M2 X o "get" apos e f cpos):PE X (.Call (.Attribute o "get" apos) [e,f] [] cpos) (AEZ td ty tx):=by
 intro pins s σ H Q I h;refine wpAny_Call_method m.base m.few m.line PySem.F.plainAttrs_dict LP PySem.F.type_dict_get (thn (ho pins s σ H _ I h) λu s1 ⟨x,H1,I1,rx,a,ex,d,q1⟩=>?_);subst ex;obtain rfl:u=AS a:=rx;obtain ⟨t1,t2,_⟩:=ADl I1 d;refine ⟨t1,t2,?_⟩;rw[m.trees];refine O8 rfl (QA (IJ (thn (he pins s1 σ H1 _ I1 q1) λiv s2 ⟨y,H2,I2,ry,q2⟩ =>
  IJ (thn (hf pins s2 σ H2 _ I2 q2) λfv s3 ⟨z,H3,I3,rz,ov,g,q3⟩=>K8 ?_))))
 exact ADq hu I3 g ry rz λw' s4 I4 rw'=>⟨_,H3,I4,rw',q3⟩
end
end L2
end
section
namespace L2
open PySem PySem.Spec PyProof.Rows
open Sem (wp)
section
variable{prog:AM}{w:AT}{A:BQ}{E:Ap->AA->Prop}{s:AA}
theorem Xw{d:Addr}{o:Obj}{es:Array M4}{ep:Nat}{Q:Ap->AA->Prop}(hd:(d==D8)=false)(hT:s.TypeIs (.ref d) "dict")(ho:s.heap.get? d=some o)(hdat:o.data=.dict es ep)
  (hQ:Q (.ref s.heap.objs.size) {s with heap:=s.heap.push {cls:=.type "dict_keyiterator",data:=.fields #[.ref d,.int 0 0,.int es.size 0,.int ep 0]}}) :
  wpAny (AL prog w) A (Po (.ref d)) Q E s:=by
 refine NJ hT Tu (DE Tu hT F.entry_dict_iter ?_ (F.args_dict_iter_1 _));unfold Builtin.«dict.__iter__»;refine As ?_;unfold We;refine As (wpAny_notOrdered_dict hT ?_);show wpAny _ _ (pure (AS d)) _ _ s;refine wpAny_pure ?_;show wpAny _ _ (PH d >>= _) _ _ s;unfold PH;rw[if_neg (by rw[hd];exact Be)];refine As (wpAny_pure ?_);refine As (Lm ho hdat ?_);refine As (OW ho hdat ?_);refine As (CH (wpAny_pure ⟨_,rfl, "dict_keyiterator",_,⟨_,AN _ rfl,rfl⟩,Fh.lookup,?_⟩));simpa [FY] using hQ
theorem Zd{it d:Addr}{i ep:Nat}{es:Array M4}{od:Obj}{Q:Option Ap->AA->Prop}(hit:s.heap.IsKeyIter it d i es.size ep)
  (hod:s.heap.get? d=some od) (hdd:od.data=.dict es ep) (hlt':i<es.size)
  (hQ:∀h',h'.IsKeyIter it d (i+1) es.size ep->ET it s.heap h'->Q (some es[i].key) {s with heap:=h'}) :
  wpAny (AL prog w) A (LD (.ref it)) Q E s:=by
 obtain ⟨o,ho,hc,hd⟩:=id hit;unfold LD;refine As (NA (wpAny_callSpecial?_slot (name:=HV "__next__") hit.typeIs Fh
  (DE Fh hit.typeIs MC ?_ (Mb _))))
 refine As (wpAny_pure ?_);refine As ?_;refine As ?_
 first | refine As (F9 hit.typeIs (wpAny_pure ?_)) | refine As (HZ hit.typeIs (wpAny_pure ?_))
 refine As (PM ho hd ?_);have hown:MR "dict_keyiterator" = false:=by decide
 simp only[hown,AV,if_false];show wpAny _ _ (if (AS d==C1)=true then _ else _) _ _ s;rw[if_neg (show ¬ ((AS d==C1)=true) from Be)];refine As (wpAny_pure ?_);refine As (Lm hod hdd ?_);rw[if_neg (by simp)];refine As (wpAny_pure ?_);refine As (OW hod hdd ?_);rw[if_neg (by simp)];refine wpAny_pure ?_;simp only[show ¬ ((i:Int)<0) from by lia,if_false,C9,Bn hlt'];refine As ?_
 first | refine As (F9 hit.typeIs (wpAny_pure ?_)) | refine As (HZ hit.typeIs (wpAny_pure ?_))
 refine As (PQ hit.typeIs ?_);show wpAny _ _ (QP (.ref it) 1 (FY ((i:Int)+1)) >>= _) _ _ s;refine As (HR ho hd (by simp) ?_);have hit':(s.heap.update it (NB (·.setIfInBounds 1 (FY ((i:Int)+1))))).IsKeyIter it d (i+1) es.size ep :=
  ⟨_,EX _ ho (JS (E7 hd _)),(Lc ..).trans hc,by rw[E7 hd];simp[FY]⟩
 refine As (EU ?_);refine As (PQ (s:={s with heap:=s.heap.update it (NB (·.setIfInBounds 1 (FY ((i:Int)+1))))}) hit'.typeIs ?_);show wpAny _ _ (pure es[i].key) _ _ _;exact wpAny_pure (wpAny_pure ⟨_,rfl,wpAny_pure (hQ _ hit' (DZ ..))⟩)
theorem Xm{it d:Addr}{i ep:Nat}{es:Array M4}{od:Obj}{Q:Option Ap->AA->Prop}(hh:A.handled=none)(hit:s.heap.IsKeyIter it d i es.size ep)
  (hod:s.heap.get? d=some od) (hdd:od.data=.dict es ep) (hge:es.size<=i)
  (hQ:∀h',SY it s.heap h'->Q none {s with heap:=h'}):wpAny (AL prog w) A (LD (.ref it)) Q E s:=by
 obtain ⟨o,ho,hc,hd⟩:=id hit;unfold LD;refine As (NA (wpAny_callSpecial?_slot (name:=HV "__next__") hit.typeIs Fh
  (DE Fh hit.typeIs MC ?_ (Mb _))))
 refine As (wpAny_pure ?_);refine As ?_;refine As ?_
 first | refine As (F9 hit.typeIs (wpAny_pure ?_)) | refine As (HZ hit.typeIs (wpAny_pure ?_))
 refine As (PM ho hd ?_);have hown:MR "dict_keyiterator" = false:=by decide
 simp only[hown,AV,if_false];show wpAny _ _ (if (AS d==C1)=true then _ else _) _ _ s;rw[if_neg (show ¬ ((AS d==C1)=true) from Be)];refine As (wpAny_pure ?_);refine As (Lm hod hdd ?_);rw[if_neg (by simp)];refine As (wpAny_pure ?_);refine As (OW hod hdd ?_);rw[if_neg (by simp)];refine wpAny_pure ?_;simp only[show ¬ ((i:Int)<0) from by lia,if_false,C9,IU hge];refine As ?_
 first | refine As (F9 hit.typeIs (wpAny_pure ?_)) | refine As (HZ hit.typeIs (wpAny_pure ?_))
 show wpAny _ _ (QP (.ref it) 0 .none >>= _) _ _ s;refine As (HR ho hd (by simp) ?_);show wpAny _ _ (RU (.type "StopIteration") [] >>= _) _ _ _;refine As ?_;simp only[RU,W0];refine As (CH ?_ (by size_fits));refine As (m:=JU _ _) (LG (a:=C1) (by first | rfl | (simp only[JU];rfl)) ?_);refine CH ?_ (by size_fits);simp only[Tk];refine As (Q1 ?_);rw[show A.in1.handled=none from hh];refine As (wpAny_pure (SZ ?_));refine As (Ic (T:="StopIteration") (b:=true) ⟨_,AN _ rfl,rfl⟩ UY ?_);exact wpAny_pure (hQ _ (((DZ ..).extBut.push _).push _))
end
end L2
end
section
namespace L2
open PySem PySem.Spec PyProof.Rows
section
variable{prog:AM}{w:AT}{A:BQ}{E:Ap->AA->Prop}{s:AA}{d:Addr}{o:Obj}{es:Array M4}{ep:Nat}
theorem Uv(hh:A.handled=none)(I:Addr)(hne:d≠I)(hd:o.data=.dict es ep) :
  Walks prog w A I [I,d] [I] es.size (λi v=>∃e,es[i]?=some e/\v=e.key) (λi h=>h.IsKeyIter I d i es.size ep/\h.get? d=some o) where
 sub:=λb hb=>by simp at hb;simp[hb]
 frame:=λ_ _ _ st hk=>⟨st.1.at λo e=>hk I (by simp) o e,hk d (by simp) o st.2⟩
 item:=λi s Q E hi st hQ=>by
  refine Zd st.1 st.2 hd hi λh' hit' hs'=>?_;exact hQ _ h' s.toks ⟨es[i],by simp[hi],rfl⟩ ⟨hit',hs'.extBut d o hne st.2⟩ λb o hb e=>hs'.extBut b o (λh=>hb (by simp[h])) e
 done:=λs Q E st hQ=>Xm hh st.1 st.2 hd (AF _) λh' he'=>hQ h' s.toks λb o hb e=>he' b o (λh=>hb (by simp[h])) e
 self:=λ_ _ _ _ st hQ=>wpAny_pyIter_keyiter st.1 hQ
theorem AAr(lo:(d==D8)=false)(hx:o.ExactDict)(hd:o.data=.dict es ep) :
  PySem.W.KdlSrc prog w "dict" d d es.size (λi v=>∃e,es[i]?=some e/\v=e.key) (λh=>h.get? d=some o) where
 type:=λ_ hm=>⟨o,hm,hx.1⟩
 there:=λ_ hm=>⟨AY hm,AY hm⟩
 keep:=λ_ _ hm hk=>hk d (.inl rfl) o hm
 notList:=by decide
 notTuple:=by decide
 hint:=λ_ _ _ _ hm hq=>PySem.W.kdl_hint_dict ⟨o,hm,hx.1⟩ hq
 iter:=λ_ _ hh hm=>⟨_,_,(λ_ _ hq=>Xw lo ⟨o,hm,hx.1⟩ hm hd hq),Uv hh _ (BU (AY hm)) hd,⟨⟨_,AN _ rfl,rfl,rfl⟩,AD _ hm⟩⟩
end
def KeyL(H:Hp):List (List Key×V)->List V->Prop:=Cb λkv y=>∃b,y=.ref b/\H b=some (.tup (kv.1.map kV))
section
variable{X:Cx}
theorem Vq{H:Hp}:∀{kvs:List (List Key×V)}{xs:List (List Key×Addr×Ap)},KT H kvs xs->KeyL H kvs (xs.map λx=>.ref x.2.1)
 | _,_,.nil=>.nil
 | _,_,.cons h t=>.cons ⟨_,rfl,h.2.1⟩ (Vq t)
theorem QD(hc:X.calm=true):CallR X (.type "list") (λxs H Q=>∃p kvs,xs=[.ref p]/\H p=some (.dT kvs)/\∀l ys,H l=none->KeyL H kvs ys->Q (.ref l) (upd H l (.lst ys))):=by
 intro pins s σ H xs us Q I rr h;obtain ⟨p,kvs,rfl,hp,q⟩:=h;obtain ⟨u,rfl,ru⟩:=rr.one;cases ru;obtain ⟨z,lo,ts,kt,o,es,ep,h1,h2,h3,h4,h5⟩:=(show ObjOk X.prog X.w H s.heap p (.dT kvs) from I.hok p _ hp);have hl:es.size=kvs.length:=by
  rw[<- AU,h4,AB];exact (B4 kt).symm
 refine PySem.W.kdl_call (AAr lo h2 h3) (I.ok.hd hc) h1 (by rw[hl];exact z) λh' tk acc' c' hk hS hacc=>?_;have hn:H s.heap.objs.size=none:=I.hok.fresh (AF _);refine ⟨.ref s.heap.objs.size,_,I.laid (a:=s.heap.objs.size) (o:=.lst (ts.map λx=>V.ref x.2.1)) (t':=tk) hk (AF _) ⟨?_,acc'.toList,c',?_,?_⟩,rfl,q _ _ hn (Vq kt)⟩
 ·rw[AB,<- B4 kt];exact z
 ·refine Ox (by rw[AB];exact (B4 kt).symm.trans (hl.symm.trans (hacc.1.symm.trans (AU).symm))) λi x u e1 e2=>?_
  have e2':acc'[i]?=some u:=by simpa using e2
  obtain ⟨e,e3,rfl⟩:=hacc.2 i u e2';rw[<- B7,h4,BM] at e3;rw[BM] at e1;cases g:ts[i]? with
  | none=>rw[g] at e1;cases e1
  | some t =>
   rw[g] at e1 e3;cases e1;cases e3;rfl
 ·simpa using hS
end
end L2
end
section
namespace L2
open PySem PySem.Spec PyProof.Rows
open Sem (wp)
end L2
end
section
namespace L2
open PySem PySem.Spec PyProof.Rows
end L2
end
section
namespace L2
open PySem PySem.Spec PyProof.Rows
open Sem (wp)
end L2
end
section
namespace L2
open PySem PySem.Spec PyProof.Rows
theorem KR:∀ns:List Int,HT.lexLt ns ns=false
 | []=>rfl
 | x::xs=>by rw[HT.Bq,if_pos rfl];exact KR xs
end L2
end
section
namespace NW
open PySem L2
end NW
end
section
namespace L2
open PySem PySem.Spec PyProof.Rows
open AutoSeq1 (wpAny_loadPart')
section
variable{prog:AM}{w:AT}{A:BQ}{E:Ap->AA->Prop}{s:AA}
theorem MJ{Q:List Ap->AA->Prop}{r:Addr}{a b c:Int}{t u v:Tok}{n:Nat}(hh:A.handled=none)(hr:IsRange s.heap r a b c t u v)(hsmall:KA a b c=true)
  (hn:Fm a b c=n) (hlen:n<=2 ^ 24)
  (hQ:∀h' tk acc,(∀b o,s.heap.get? b=some o->h'.get? b=some o)->ItemsOf (λi v=>∃t,v=.int (a+i*c) t) acc n->Q acc.toList {s with heap:=h',toks:=tk}) :
  wpAny (AL prog w) A (Pw (.ref r)) Q E s:=by
 unfold Pw;refine As (MQ (EW M7 ?_));rw[Fk M8 _];show wpAny _ A.in1 (N7 [] >>= λl=>again (.builtin "list.__iadd__" ⟨[l,.ref r],[]⟩)) _ _ s;refine As (CH ?_);refine wpAny_pure ⟨LJ IF _,EW OM ?_⟩;rw[Fk IF _];have hS:(s.heap.push {cls:=.type "list",data:=.seq ([]:List Ap).toArray}).get? s.heap.objs.size=some {cls:=.type "list",data:=.seq #[] 0}:=AN _ rfl;show wpAny _ A.in1 (EO (.ref s.heap.objs.size) (.ref r) (.ref s.heap.objs.size)) _ _ _;have fin':∀(h':Heap) (tk:Nat) (acc':Array Ap) (c':Nat),(∀b o,b≠s.heap.objs.size->(s.heap.push {cls:=.type "list",data:=.seq ([]:List Ap).toArray}).get? b=some o->h'.get? b=some o)->h'.get? s.heap.objs.size=some {cls:=.type "list",dict:=none,data:=.seq acc' c',slots:=#[]} ->
   ItemsOf (λi v=>∃t,v=.int (a+i*c) t) acc' n->wpAny (AL prog w) A (match AS s.heap.objs.size with
   | AS a=>do
    match (<- load a).data with
     | WZ xs _=>pure xs.toList
     | _=>unsupported "internal:collect"
   | _=>unsupported "internal:collect") Q E {s with heap:=h',toks:=tk}:=λh' tk acc' c' hk hS' hacc=>by
  show wpAny _ A (load s.heap.objs.size >>= _) _ _ _;refine As (P7 hS' ?_);refine wpAny_pure ?_;exact hQ h' tk acc' (λb o e=>hk b o (BU (AY e)) (AD _ e)) hacc
 refine Ee (wpAny_extend_range (A:=A) (R:=λr s'=>∃h' tk acc' c',r=.ok (.ret (.ref s.heap.objs.size))/\s'={s with heap:=h',toks:=tk}/\(∀b o,b≠s.heap.objs.size->(s.heap.push {cls:=.type "list",data:=.seq ([]:List Ap).toArray}).get? b=some o->h'.get? b=some o)/\h'.get? s.heap.objs.size=some {cls:=.type "list",dict:=none,data:=.seq acc' c',slots:=#[]}/\ItemsOf (λi v=>∃t,v=.int (a+i*c) t) acc' n)
  (s:={s with heap:=s.heap.push {cls:=.type "list",data:=.seq ([]:List Ap).toArray}}) hh (AD _ hr) hsmall hn hlen s.heap.objs.size (.ref s.heap.objs.size) 0 hS λh' tk acc' c' hk hS' hacc=>⟨h',tk,acc',c',rfl,rfl,hk,hS',hacc⟩) (λfin s' h=>?_) (λe s' h=>?_)
 ·cases fin with
  | done f =>
   obtain ⟨h',tk,acc',c',e,rfl,hk,hS',hacc⟩:=h;cases e;exact fin' h' tk acc' c' hk hS' hacc
  | again c'=>exact ⟨h.1,EJ h.2 λr s'' hr=>by obtain ⟨h',tk,acc',c',rfl,rfl,hk,hS',hacc⟩:=hr;exact fin' h' tk acc' c' hk hS' hacc⟩
 ·obtain ⟨_,_,_,_,e,_⟩:=h
  cases e
end
theorem meets_tuple_range(r:Addr)(a b c:Int)(t u v:Tok)(n:Nat)(hsmall:KA a b c=true)(hn:Fm a b c=n)(hlen:n<=1000) :
  Meets (Builtin.«tuple.__new__» ⟨[.type "tuple",.ref r],[]⟩)
   (λA R s=>A.handled=none/\IsRange s.heap r a b c t u v/\∀(h':Heap) (tk:Nat) (acc:Array Ap),(∀b o',s.heap.get? b=some o'->h'.get? b=some o')->ItemsOf (λi v=>∃t,v=.int (a+i*c) t) acc n ->
    R (.ok (.ret (.ref h'.objs.size))) {s with heap:=h'.push {cls:=.type "tuple",data:=.seq acc},toks:=tk}) :=
 .of_wp λprog w A R s h=>by
  obtain ⟨hp,g,d,tk,os⟩:=s;obtain ⟨hh,ht,h⟩:=h;have hsub:=sub_tuple_self;have hinit:=init_tuple_lookup;have hmh:=madeHere_tuple;have hT:VQ ⟨hp,g,d,tk,os⟩ (.ref r) "range":=⟨_,ht,rfl⟩
  wp_walk using wpAny_loadPart' ht,KU hT,MJ (A:=A.in1) hh ht hsmall hn (by lia)
  intro h' tk' acc hk hacc;show wpAny _ _ (DU acc.toList.toArray >>= λv=>ret v) _ _ _;unfold DU;refine As (CH ?_ (by show acc.toList.toArray.size<=sizeLine;rw[QH,hacc.1];exact small hlen));refine wpAny_pure ⟨_,rfl,?_⟩;have e:acc.toList.toArray=acc:=by simp
  rw[e];exact h h' tk' acc hk hacc
section
variable{X:Cx}
theorem GJ(hc:X.calm=true):CallR X (.type "tuple") (λxs H Q=>∃r j,xs=[.ref r]/\H r=some (.rng 0 j)/\0<=j/\j<=1000/\∀l,H l=none->Q (.ref l) (upd H l (.tup ((below j.toNat).map V.int)))):=by
 intro pins s σ H xs us Q I rr h;obtain ⟨r,j,rfl,hr,j0,j1,q⟩:=h;obtain ⟨u,rfl,ru⟩:=rr.one;cases ru;obtain ⟨t1,t2,t3,e⟩:=I.hok r _ hr;refine callType_new PySem.F.called_tuple (by decide) (PySem.F.typeCall_tuple_1 _) (PySem.F.newCall_tuple_1 _) (λobj=>PySem.F.args_object_init_2 obj _) PySem.F.entry_tuple_new
  (meets_tuple_range r 0 j 1 t1 t2 t3 j.toNat (small_one (by lia) (by lia) (by lia) (by lia)) (by rw[rangeSize_one];split<;>lia) (by lia)) ⟨I.ok.hd hc,e,λh' tk acc hk hacc=>⟨⟨_,AN _ rfl,rfl⟩,?_⟩⟩
 have I1:Inv X pins σ H {s with heap:=h',toks:=tk}:=I.kept hk;have hn:H h'.objs.size=none:=I1.hok.fresh (AF _);refine ⟨.ref h'.objs.size,_,I1.laid (a:=h'.objs.size) (o:=.tup ((below j.toNat).map V.int)) (t':=tk) (λb o e=>AD _ e) (AF _) ⟨?_,acc.toList,?_,⟨_,AN _ rfl,rfl,0,by simp⟩⟩,rfl,q _ hn⟩
 ·rw[AB,AB,CS]
  exact small (by lia)
 ·refine Ox (by simp[hacc.1]) λi x u h1 h2=>?_
  have h2':acc[i]?=some u:=by simpa using h2
  obtain ⟨t,rfl⟩:=hacc.2 i u h2';have hi:i<j.toNat:=by
   have:=(Da.mp h2').1;rw[hacc.1] at this;exact this
  rw[BM,BM,Go hi] at h1;have ex:x=.int (i:Int):=(BY h1).symm;subst ex;exact ⟨t,by rw[SW,Sc]⟩
end
end L2
end
section
namespace ST
open PySem PySem.SetTable
theorem CZ:∀{l₁ l₂:List Nat},l₁.Nodup->(∀x∈l₁,x∈l₂)->l₁.length<=l₂.length
 | [],_,_,_=>Bi _
 | a::t,l₂,nd,hs=>by
  obtain ⟨n1,n2⟩:=Ev.mp nd;have ha:a∈l₂:=hs a AG;have hl:(l₂.erase a).length=l₂.length-1:=Iq ha;have ih:=CZ (l₂:=l₂.erase a) n2 λx hx=>(Kb (λ(e:x=a)=>n1 (by rw[<- e];exact hx))).mpr (hs x (AH _ hx));have:0<l₂.length:=LH ha;simp;lia
namespace F
end F
end ST
end
section
namespace ST
open PySem PySem.W PyProof.Rows
end ST
end
section
namespace L2
open PySem PySem.Spec PyProof.Rows
theorem Td{prog:AM}{w:AT}:∀{ns:List Int}{us:List Ap},Vals (ns.map V.int) us->ItemsAre (LM prog w) ns us
 | [],_,.nil=>.nil
 | n::ns,_,.cons ⟨t,e⟩ r=>by
  subst e;exact .cons (intKind_is prog w n t) (Td r)
end L2
end
section
namespace ST
open PySem PySem.W PyProof.Rows
end ST
end
section
namespace L2
open PySem PySem.Spec PyProof.Rows
end L2
end
section
namespace SI
open PySem PySem.SetTable ST PyProof.Rows
section
variable{prog:AM}{w:AT}{A:BQ}{E:Ap->AA->Prop}{s:AA}{S:Addr}{es:Array (Int×Ap)}{t:C6}{ks:List Int}
def Added(ks:List Int)(k:Int)(ks':List Int):Prop:=(k∈ks/\ks'=ks)\/(k∉ks/\ks'.Perm (k::ks))
end
end SI
end
section
namespace SI
open PySem PySem.SetTable ST
open PyProof.Rows (IntsAre)
end SI
end
section
namespace SI
open PySem PySem.SetTable ST PyProof.Rows
end SI
end
section
namespace L2
open PySem PySem.Spec PyProof.Rows
end L2
end
section
namespace SI
open PySem PySem.SetTable ST PyProof.Rows
end SI
end
section
namespace L2
open PySem PySem.Spec PyProof.Rows
section
variable{X:Cx}{K:Au}
theorem min_list(hc:X.calm=true):CallR X (.builtin "min") (λxs H Q=>∃(p:Addr) (ns:List Int),xs=[.ref p]/\SqL X.K H p (ns.map V.int)/\0<ns.length/\∀m,m∈ns->(∀a∈ns,m<=a)->Q (.int m) H):=by
 intro pins s σ H xs us Q I r h;obtain ⟨p,ns,rfl,hq,hne,q⟩:=h;obtain ⟨u0,rfl,ru⟩:=r.one;cases ru;obtain ⟨its,rv,pl,hz⟩:=I.list hq;have hi:=intsAre_of rv;have hl:=pl.isList;obtain ⟨ys,e⟩:=hi.allInts.items;have hns:ns=ys.toList.map (·.1):=by rw[<- hi.numsOf,<- nums_intItems,<- e]
 have hsz:0<ys.size:=by
  rw[hns,AB,AU] at hne;exact hne
 rw[e] at hl;refine min_intList (I.ok.hd hc) hl hsz λv h' tk hv hk=>?_;obtain ⟨t,rfl⟩:=Pc hv;obtain ⟨h1,h2⟩:=argBest_lt (FM ys) (ys.size-1);refine ⟨.int (FM ys (JY (λi j=>decide (FM ys i<FM ys j)) (ys.size-1))),H,I.kept hk,⟨t,rfl⟩,q _ ?_ λa ha=>?_⟩
 ·rw[hns,Ts]
  exact getD_mem (by rw[AB,AU];lia)
 ·rw[hns] at ha
  obtain ⟨j,hj,rfl⟩:=mem_getD ha;rw[AB,AU] at hj;rw[<- Ts];exact h2 j (by lia)
theorem ACI(hK:X.K=K):SlR X (rSlT K):=by subst hK;exact ADp
end
def eD(a b:Int×List (List Int)×Int)(j:Nat):Bool:=if j=0 then decide (a.1=b.1) else if j=1 then decide (a.2.1=b.2.1) else decide (a.2.2=b.2.2)
end L2
end
section
namespace HT
open PySem PyProof.Rows
end HT
end
section
namespace ST
open PySem PySem.W PyProof.Rows
section
variable{prog:AM}{w:AT}{A:BQ}{E:Ap->AA->Prop}{s:AA}{vs:List Ap}{ks:List (List Int×Addr)}
theorem LQ:∀l:List Int,HT.lexLt l l=false
 | []=>rfl
 | x::l=>by rw[HT.Bq,if_pos rfl];exact LQ l
end
end ST
end
section
namespace L2
open PySem PySem.Spec PyProof.Rows
end L2
end
section
namespace ST
open PySem PySem.SetTable
end ST
namespace L2
open PySem PySem.Spec PyProof.Rows
end L2
end
section
namespace NK
open PySem
section
variable{P:AM}{w:AT}{κ:Type}[DecidableEq κ](kd:KeyKind P w κ)
def IsP(g:Heap)(p:κ×List κ)(x:Addr):Prop:=∃ob its c v b,g.get? x=some ob/\ob.cls=.type "tuple"/\ob.data=.seq its c/\its.toList=[v,.ref b]/\kd.is p.1 v=true/\T6 kd g p.2 b
def hashP(p:κ×List κ):Int:=reduceHash (KI [kd.hash p.1,Mc kd p.2])
variable{kd}
theorem IsP.ty{s:AA}{p:κ×List κ}{x:Addr}(h:IsP kd s.heap p x):s.TypeIs (.ref x) "tuple":=by
 obtain ⟨ob,_,_,_,_,e,c,_⟩:=h;exact ⟨ob,e,c⟩
theorem IsP.one{g:Heap}{p q:κ×List κ}{x:Addr}(h:IsP kd g p x)(h':IsP kd g q x):p=q:=by
 obtain ⟨ob,its,c,v,b,e,_,d,l,k,t⟩:=h;obtain ⟨ob',its',c',v',b',e',_,d',l',k',t'⟩:=h';obtain rfl:ob=ob':=BY (e.symm.trans e');rw[d] at d';obtain ⟨rfl,rfl⟩:its=its'/\c=c':=by cases d';exact ⟨rfl,rfl⟩
 rw[l] at l';injection l' with z1 z2
 injection z2 with z2 _
 injection z2 with z2
 subst z1;subst z2;exact J9 (kd.inj _ _ _ k k') (t.inj t')
theorem IsP.stays{g g':Heap}{p:κ×List κ}{x y:Addr}{ob:Obj}{es ep}(h:IsP kd g p x)(e:g.get? y=some ob)(d:ob.data=.dict es ep)(sb:ET y g g'):IsP kd g' p x:=by
 obtain ⟨o1,its,c,v,b,e1,c1,d1,l,k,t⟩:=h;have ne:x≠y:=λz=>by
  rw[z,e] at e1;cases e1;rw[d] at d1;cases d1
 exact ⟨o1,its,c,v,b,(sb.2 x ne).trans e1,c1,d1,l,k,t.keeps e d sb⟩
variable{A:BQ}{E:Ap->AA->Prop}{s:AA}
theorem Ye{p:κ×List κ}{x:Addr}{R:Int->AA->Prop}(hu:A.units+1<C2)(h:IsP kd s.heap p x)(q:R (hashP kd p) {s with toks:=s.toks+(p.2.length+3)}):wpAny (AL P w) A (pyHash (.ref x)) R E s:=by
 have ty:=h.ty;obtain ⟨ob,its,c,v,b,e,_,d,l,k,t⟩:=h;unfold pyHash
 first | unfold pyHashByItsType | skip
 first | refine As (wpAny_cRoomFor_or (.inr (by lia)) ?_) | skip
 refine As (Ha ty IG.lookup ?_);show wpAny _ _ (if (some (Value.builtin "tuple.__hash__")==some C1)=true then _ else _) _ _ _;rw[if_neg (by rw[beq_builtin_none];exact Be)];refine As (Ha ty IG.lookup ?_);show wpAny _ _ (callSpecialIfBoundUnlessNone? (.ref x) "__hash__" _ >>= _) _ _ _;refine As (wpAny_callSpecialIfBoundUnlessNone?_slot ty IG (DE IG ty PySem.F.entry_tuple_hash ?_ (PySem.F.args_tuple_hash_1 _)));show wpAny _ _ (Nn (.ref x) >>= _) _ _ _;refine As (K2 e d (As ?_));rw[<- IM,l];refine E6 _ (λrest (z:Array Int) s'=>(rest=[v,.ref b]/\z=#[]/\s'=s)\/(rest=[.ref b]/\z=#[kd.hash p.1]/\s'={s with toks:=s.toks+1})\/(rest=[]/\z=#[kd.hash p.1,Mc kd p.2]/\s'={s with toks:=s.toks+1+(p.2.length+1)}))
  _ ?_ ?_ _ _ (.inl ⟨rfl,rfl,rfl⟩)
 ·rintro y rest z s' (⟨er,rfl,rfl⟩ | ⟨er,rfl,rfl⟩ | ⟨er,_⟩)
  ·cases er
   refine As (kd.pyHash k ?_)
   first
    | exact wpAny_pure (.inr (.inl ⟨rfl,rfl,rfl⟩))
    | exact As (wpAny_pure (wpAny_pure (.inr (.inl ⟨rfl,rfl,rfl⟩))))
  ·cases er
   refine As (Se (by show A.units+1<C2;exact hu) t ?_)
   first
    | exact wpAny_pure (.inr (.inr ⟨rfl,rfl,rfl⟩))
    | exact As (wpAny_pure (wpAny_pure (.inr (.inr ⟨rfl,rfl,rfl⟩))))
  ·cases er
 ·rintro z s' (⟨er,_⟩ | ⟨er,_⟩ | ⟨_,rfl,rfl⟩)
  ·cases er
  ·cases er
  ·have et:{s with toks:=s.toks+1+(p.2.length+1)+1}={s with toks:=s.toks+(p.2.length+3)}:=by
    congr 1
    lia
   show wpAny _ _ (retInt (KI [kd.hash p.1,Mc kd p.2])) _ _ _;refine T7 ?_;unfold hashP reduceHash at q;generalize KI [kd.hash p.1,Mc kd p.2]=hv at q;show wpAny _ _ (if (decide (-(2:Int) ^ 63<=hv)&&decide (hv<2 ^ 63))=true then _ else _) _ _ _;by_cases c0:(decide (-(2:Int) ^ 63<=hv)&&decide (hv<2 ^ 63))=true
   ·rw[if_pos c0] at q ⊢
    refine wpAny_pure ?_;rw[<- et] at q;exact q
   ·rw[if_neg c0] at q ⊢
    refine As (HL (wpAny_pure ?_));rw[<- et] at q;exact q
theorem ACS{p q:κ×List κ}{x y:Addr}{R:Fin->AA->Prop}(hu:A.units<C2)(h:IsP kd s.heap p x)(h':IsP kd s.heap q y)(r:R (.done (.ret (.bool (decide (p=q))))) s) :
  wpAny (AL P w) A (Builtin.«tuple.__eq__» ⟨[.ref x,.ref y],[]⟩) R E s:=by
 have ty:=h'.ty;obtain ⟨o1,i1,c1,v1,b1,e1,_,d1,l1,k1,t1⟩:=h;obtain ⟨o2,i2,c2,v2,b2,e2,_,d2,l2,k2,t2⟩:=h';show wpAny _ _ (QN (.ref y) (.type "tuple") >>= _) _ _ _;refine As (Ic ty LS ?_);simp only[D7,AV,if_false];refine As (K2 e1 d1 (As (K2 e2 d2 (As ?_))));have sz:(i1.size==i2.size)=true:=by
  have z1:i1.size=2:=by rw[<- AU,l1];rfl
  have z2:i2.size=2:=by rw[<- AU,l2];rfl
  rw[z1,z2];rfl
 rw[l1,l2];refine E6 _ (λrest z s'=>z.1=none/\s'=s/\(rest=[(v1,v2),(.ref b1,.ref b2)]\/(rest=[(.ref b1,.ref b2)]/\p.1=q.1)\/(rest=[]/\p=q))) _ ?_ ?_ _ _ ⟨rfl,rfl,.inl rfl⟩
 ·rintro⟨u,v⟩ rest z s' ⟨hz,rfl,er | ⟨er,pq⟩ | ⟨er,_⟩⟩
  ·cases er
   refine As (kd.eqBool (a:=p.1) (b:=q.1) k1 k2 ?_);by_cases c:p.1=q.1
   ·rw[decide_eq_true c]
    simp only[D7,AV,if_false];exact wpAny_pure ⟨rfl,rfl,.inr (.inl ⟨trivial,c⟩)⟩
   ·rw[decide_eq_false c]
    simp only[MS,if_true];rw[decide_eq_false (λz=>c (by rw[z]))] at r;exact As (wpAny_pure (wpAny_pure (wpAny_pure r)))
  ·cases er
   refine As (Sf hu t1 t2 ?_);by_cases c:p.2=q.2
   ·rw[decide_eq_true c]
    simp only[D7,AV,if_false];exact wpAny_pure ⟨rfl,rfl,.inr (.inr ⟨trivial,J9 pq c⟩)⟩
   ·rw[decide_eq_false c]
    simp only[MS,if_true];rw[decide_eq_false (λz=>c (by rw[z]))] at r;exact As (wpAny_pure (wpAny_pure (wpAny_pure r)))
  ·cases er
 ·rintro⟨z1,z2⟩ s' ⟨hz,rfl,er | ⟨er,_⟩ | ⟨_,pq⟩⟩
  ·cases er
  ·cases er
  ·dsimp only at hz
   subst hz;refine wpAny_pure ?_;rw[decide_eq_true pq] at r;show R (.done (.ret (.bool (i1.size==i2.size)))) s';rw[sz];exact r
theorem ACl{p q:κ×List κ}{x y:Addr}{R:Bool->AA->Prop}(hu:A.units+1<C2)(h:IsP kd s.heap p x)(h':IsP kd s.heap q y)(r:R (decide (p=q)) s):wpAny (AL P w) A (eqBool (.ref x) (.ref y)) R E s:=by
 unfold eqBool
 try with_reducible refine EU ?_
 show wpAny _ _ (if (AS x==AS y)=true then _ else _) _ _ _;by_cases c:(AS x==AS y)=true
 ·rw[if_pos c]
  obtain rfl:x=y:=by have z:=eq_of_beq c;injection z
  obtain rfl:=h.one h';rw[decide_eq_true rfl] at r;exact As (HL (wpAny_pure r))
 ·rw[if_neg c]
  refine As (wpAny_richCompare_same_room (op:=.Eq) h.ty h'.ty J0 (DE J0 h.ty PySem.F.entry_tuple_eq (ACS ?_ h h' ⟨_,rfl,(λe=>nomatch e),FA r⟩) (PySem.F.args_tuple_eq_2 _ _)) (by lia));show A.units+1<C2;exact hu
theorem Sx{ks:List κ}{x:Addr}{n:Nat}{R:Bool->AA->Prop}(h:T6 kd s.heap ks x)(r:R true s):wpAny (AL P w) A (Si (n+1) (.ref x)) R E s:=by
 have ty:=h.typeIs;obtain ⟨ob,its,c,e,_,d,ia⟩:=h;unfold Si;refine As (Ha ty J0.lookup ?_);show wpAny _ _ (QN (.ref x) (.type "tuple") >>= _) _ _ _;refine As (Ic ty LS ?_);simp only[D7,AV,if_false];refine As (JP e d (As ?_));show wpAny _ _ (forIn its _ _) _ _ _;rw[<- IM];refine E6 _ (λrest z s'=>z.1=none/\s'=s/\∀v∈rest,UZ v=true) _ (λv rest z s' ⟨hz,es,al⟩=>?_) (λz s' ⟨hz,es,_⟩=>?_) _ _ ⟨rfl,rfl,ia.byValue⟩
 ·subst es
  rw[SH _ (al v AG)];refine As (wpAny_pure ?_);simp only[D7,AV,if_false];exact wpAny_pure ⟨rfl,rfl,λu h=>al u (AH _ h)⟩
 ·subst es
  obtain ⟨z1,z2⟩:=z;dsimp only at hz;subst hz;exact wpAny_pure r
theorem Um{p:κ×List κ}{x:Addr}{R:Bool->AA->Prop}(h:IsP kd s.heap p x)(r:R true s):wpAny (AL P w) A (Si 8 (.ref x)) R E s:=by
 have ty:=h.ty;obtain ⟨ob,its,c,v,b,e,_,d,l,k,t⟩:=h;unfold Si;refine As (Ha ty J0.lookup ?_);show wpAny _ _ (QN (.ref x) (.type "tuple") >>= _) _ _ _;refine As (Ic ty LS ?_);simp only[D7,AV,if_false];refine As (JP e d (As ?_));show wpAny _ _ (forIn its _ _) _ _ _;rw[<- IM,l];refine E6 _ (λrest z s'=>z.1=none/\s'=s/\(rest=[v,.ref b]\/rest=[.ref b]\/rest=[])) _ (λu rest z s' ⟨hz,es,er⟩=>?_) (λz s' ⟨hz,es,_⟩=>?_) _ _ ⟨rfl,rfl,.inl rfl⟩
 ·subst es
  rcases er with er | er | er
  ·cases er
   rw[SH _ (kd.byValue _ _ k)];refine As (wpAny_pure ?_);simp only[D7,AV,if_false];exact wpAny_pure ⟨rfl,rfl,.inr (.inl trivial)⟩
  ·cases er
   refine As (Sx t ?_);simp only[D7,AV,if_false];exact wpAny_pure ⟨rfl,rfl,.inr (.inr trivial)⟩
  ·cases er
 ·subst es
  obtain ⟨z1,z2⟩:=z;dsimp only at hz;subst hz;exact wpAny_pure r
end
def Ed{P:AM}{w:AT}{κ:Type}[DecidableEq κ](kd:KeyKind P w κ):HeapKind P w (κ×List κ) where
 is:=IsP kd
 hash:=hashP kd
 draws:=λp=>p.2.length+3
 room:=λA=>A.units+1<C2
 inj:=λa b=>a.one b
 keeps:=λa b c d=>a.stays b c d
 pyHash:=λa b c=>Ye a b c
 eqBool:=λa b c d=>ACl a b c d
 quiet:=λa b=>Um a b
end NK
end
section
namespace L2
open PySem
abbrev PKey:=Key×List Key
def dN(P:AM)(w:AT)(a:Addr)(xs:List (PKey×Addr×Ap)):HO:=.ext λg=>∃o es ep,g.get? a=some o/\o.ExactDict/\o.data=.dict es ep/\es.toList=xs.map (entryOfKey (NK.Ed (Bd P w)))/\(xs.map (·.1)).Nodup
def NKey(H:Hp)(p:PKey)(x:Addr):Prop:=∃b,H x=some (.tup [kV p.1,.ref b])/\H b=some (.tup (p.2.map kV))
theorem NKey.ts{H H':Hp}{p:PKey}{x:Addr}(h:NKey H p x)(t:∀b ys,H b=some (.tup ys)->H' b=some (.tup ys)):NKey H' p x:=let ⟨b,e1,e2⟩:=h;⟨b,t _ _ e1,t _ _ e2⟩
abbrev KN(H:Hp):List (PKey×V)->List (PKey×Addr×Ap)->Prop:=Cb λp q=>p.1=q.1/\NKey H p.1 q.2.1/\RelV p.2 q.2.2
def DN(P:AM)(w:AT)(H:Hp)(a:Addr)(kvs:List (PKey×V)):Prop:=kvs.length<=sizeLine/\(a==D8)=false/\∃xs,H a=some (dN P w a xs)/\KN H kvs xs
theorem DN.keep{P:AM}{w:AT}{H H':Hp}{a:Addr}{kvs:List (PKey×V)}(h:DN P w H a kvs)(e:∀o,H a=some o->H' a=some o)(t:∀b ys,H b=some (.tup ys)->H' b=some (.tup ys)):DN P w H' a kvs:=by
 obtain ⟨z,y,xs,e1,r⟩:=h;exact ⟨z,y,xs,e _ e1,Paired.imp (λ_ _ q=>⟨q.1,q.2.1.ts t,q.2.2⟩) r⟩
theorem KN.val{H:Hp}{kvs:List (PKey×V)}{xs:List (PKey×Addr×Ap)}(r:KN H kvs xs)(k:PKey):RelO (valV kvs k) ((IL xs k).map (·.2)):=by
 induction r with
 | nil=>exact HH
 | @cons p q ps qs h t ih =>
  by_cases e:p.1=k
  ·have b:IL (q::qs) k=some q.2:=by simp[IL,F0,h.1.symm.trans e]
   rw[CP e,b];exact h.2.2
  ·have b:IL (q::qs) k=IL qs k:=by simp[IL,F0,show ¬ q.1=k from λz=>e (h.1.trans z)]
   rw[CK e,b];exact ih
theorem KN.put{H:Hp}{kvs:List (PKey×V)}{xs:List (PKey×Addr×Ap)}(r:KN H kvs xs){k:PKey}{b:Addr}{y:V}{u:Ap}(hb:NKey H k b)(ry:RelV y u)(new:valV kvs k=none):KN H (putK kvs k y) (UX xs k b u):=by
 have e:IL xs k=none:=by
  have z:=(r.val k).isSome_eq;rw[new,Ll] at z;cases g:IL xs k with
  | none=>rfl
  | some q=>rw[g] at z;cases z
 rw[Hv y new,storedH_new e];exact S3 r ⟨rfl,hb,ry⟩
section
variable{P:AM}{w:AT}{H:Hp}{h:Heap}{a:Addr}
theorem KC{p:PKey}{x:Addr}(ok:HOk P w H h)(e:NKey H p x):(NK.Ed (Bd P w)).is h p x:=by
 obtain ⟨b,e1,e2⟩:=e;obtain ⟨_,its,r,o,h1,h2,n,h3⟩:=(show ObjOk P w H h x (.tup [kV p.1,.ref b]) from ok x _ e1);cases r with
 | @cons _ v _ _ r1 r =>
  cases r with
  | @cons _ v2 _ _ r2 r =>
   cases r;cases r2;exact ⟨o,_,n,v,b,h1,h2,h3,rfl,Lq r1,Iw ok e2⟩
theorem Vr{kvs:List (PKey×V)}(ok:HOk P w H h)(d:DN P w H a kvs):kvs.length<=sizeLine/\(a==D8)=false/\∃xs,H a=some (dN P w a xs)/\KN H kvs xs/\h.DictOfH (NK.Ed (Bd P w)) a xs:=by
 obtain ⟨z,y,xs,e,r⟩:=d;obtain ⟨⟨o,es,ep,h1,h2,h3,h4,h5⟩,_⟩:=(show ObjOk P w H h a (dN P w a xs) from ok a _ e);refine ⟨z,y,xs,e,r,o,es,ep,h1,h2,h3,h4,λx hx=>?_,h5⟩;obtain ⟨i,hi⟩:=Db.mp hx;obtain ⟨p,_,e1,e2,_⟩:=Paired.get r hi;rw[<- e1];exact KC ok e2
theorem ABJ{xs:List (PKey×Addr×Ap)}{H':Hp}(d:h.DictOfH (NK.Ed (Bd P w)) a xs):ObjOk P w H' h a (dN P w a xs):=by
 obtain ⟨o,es,ep,h1,h2,h3,h4,_,h5⟩:=d;refine ⟨⟨o,es,ep,h1,h2,h3,h4,h5⟩,⟨o,h1⟩,λg1 g2 ⟨o',es',ep',z1,z2⟩ st=>⟨o',es',ep',st _ z1,z2⟩⟩
end
section
variable{X:Cx}{pins:List (Addr×Obj)}{σ:St}{H:Hp}{s:AA}{a:Addr}{A:BQ}{E:Ap->AA->Prop}
def NGet(P:AM)(w:AT)(H:Hp)(a:Addr)(y:V)(r:Option V):Prop:=∃kvs p x,DN P w H a kvs/\y=.ref x/\NKey H p x/\valV kvs p=r
theorem ADi{y:V}{r:Option V}(I:Inv X pins σ H s)(g:NGet X.prog X.w H a y r):s.TypeIs (.ref a) "dict":=by
 obtain ⟨kvs,p,x,d,_⟩:=g;obtain ⟨_,_,xs,_,_,dd⟩:=Vr I.hok d;exact dd.typeIs
theorem Xi{y v:V}{u:Ap}{Q:Ap->AA->Prop}(hu:A.units+2<C2)(I:Inv X pins σ H s)(g:NGet X.prog X.w H a y (some v))(ry:RelV y u)(q:∀w' s',Inv X pins σ H s'->RelV v w'->Q w' s'):wpAny (AL X.prog X.w) A (LO (.ref a) u) Q E s:=by
 obtain ⟨kvs,p,x,d,rfl,k,l⟩:=g;cases (show u=AS x from ry);obtain ⟨z,hd,xs,e,rel,dd⟩:=Vr I.hok d;obtain ⟨w',hw,rw'⟩:=RelO.some_of (v:=v) (o:=(IL xs p).map (·.2)) (by rw[<- l];exact rel.val p);obtain ⟨pv,hp,hp2⟩:=Pd.mp hw;refine R9 (knd:=NK.Ed (Bd X.prog X.w)) (k:=p) (by show A.units+1+1<C2;lia) (KC I.hok k) dd hp ?_;rw[hp2];exact q w' _ (I.tok _) rw'
theorem ABc{y:V}{r:Option V}{u:Ap}{Q:Ap->AA->Prop}(hu:A.units+2<C2)(I:Inv X pins σ H s)(g:NGet X.prog X.w H a y r)(ry:RelV y u)(q:∀s',Inv X pins σ H s'->Q (.bool (!r.isSome)) s'):wpAny (AL X.prog X.w) A (DA .NotIn u (.ref a)) Q E s:=by
 obtain ⟨kvs,p,x,d,rfl,k,l⟩:=g;cases (show u=AS x from ry);obtain ⟨z,hd,xs,e,rel,dd⟩:=Vr I.hok d;refine UM (knd:=NK.Ed (Bd X.prog X.w)) (k:=p) (by show A.units+1+1<C2;lia) (KC I.hok k) hd dd ?_;have c:=(rel.val p).isSome_eq;rw[Ll] at c;rw[<- c,l];exact q _ (I.tok _)
theorem Yh{y v:V}{u r:Ap}{kvs:List (PKey×V)}{p:PKey}{x:Addr}{Q:Unit->AA->Prop}(hu:A.units+2<C2)(I:Inv X pins σ H s)(d:DN X.prog X.w H a kvs)(ey:y=.ref x)(k:NKey H p x)(new:valV kvs p=none)(hl:kvs.length<sizeLine)(ry:RelV y u)(rv:RelV v r)
  (q:∀(H':Hp) s',(∀b,b≠a->H' b=H b)->DN X.prog X.w H' a (putK kvs p v)->Inv X pins σ H' s'->Q () s'):wpAny (AL X.prog X.w) A (setItem (.ref a) u r) Q E s:=by
 subst ey;cases (show u=AS x from ry);obtain ⟨z,hd,xs,e,rel,dd⟩:=Vr I.hok d;have hz:xs.length<=sizeLine:=by rw[<- B4 rel];exact z
 refine Sa (hsz:=hz) (knd:=NK.Ed (Bd X.prog X.w)) (k:=p) (by show A.units+1+1<C2;lia) (KC I.hok k) dd λh' dd' hs=>?_;have he:∃o,h'.get? a=some o:=let ⟨o,_,_,ho,_⟩:=dd';⟨o,ho⟩
 refine q (upd H a (dN X.prog X.w a (UX xs p x r))) _ (λb hb=>Ag hb) ⟨?_,hd,_,Ab,Paired.imp (λ_ _ c=>⟨c.1,c.2.1.ts λb ys eb=>?_,c.2.2⟩) (KN.put rel k rv new)⟩ (Js I (by rw[e];exact HH) hs he (ABJ dd'))
 ·rw[Hv v new,By,DC]
  lia
 ·rw[Ag (Cd eb e (by intro z;cases z))]
  exact eb
end
def ADb(P:AM)(w:AT):TE:=λ_ H Q=>∀p,H p=none->DN P w (upd H p (dN P w p [])) p []->Q (.ref p) (upd H p (dN P w p []))
def AEs(P:AM)(w:AT)(td ty:TE):TE:=λσ H Q=>td σ H λx H1=>ty σ H1 λy H2=>∃a v,x=.ref a/\NGet P w H2 a y (some v)/\Q v H2
def ACi(P:AM)(w:AT)(ty td:TE):TE:=λσ H Q=>ty σ H λy H1=>td σ H1 λx H2=>∃a r,x=.ref a/\NGet P w H2 a y r/\Q (.bl (!r.isSome)) H2
def AFG(P:AM)(w:AT)(td ty tv:TE):TS:=λD σ H=>tv σ H λv H1=>td σ H1 λx H2=>ty σ H2 λy H3=>∃a kvs p b,x=.ref a/\y=.ref b/\DN P w H3 a kvs/\NKey H3 p b/\valV kvs p=none/\kvs.length<sizeLine /\
 ∀H4,(∀c,c≠a->H4 c=H3 c)->DN P w H4 a (putK kvs p v)->D.nx σ H4
section
variable{X:Cx}{o i e value:Expr}{pos pos' tpos:Pos}{td ty tv:TE}
theorem Ze:PE X (.Dict [] [] pos) (ADb X.prog X.w):=λpins s σ H Q I h=>by
 have hn:=I.hok.fresh (AF s.heap.objs.size);have ns:(s.heap.objs.size==D8)=false:=beq_eq_false_iff_ne.mpr (DM (BU I.big));refine wpAny_Dict_empty ⟨.ref s.heap.objs.size,_,I.laid (a:=s.heap.objs.size) (o:=dN X.prog X.w s.heap.objs.size []) (t':=s.toks) (λ_ _ q=>AD _ q) (AF _) (ABJ (Ya _)),rfl,h _ hn ⟨Bi _,ns,[],Ab,.nil⟩⟩
theorem ABn(hu:X.A.units+2<C2)(ho:PE X o td)(hi:PE X i ty)(hs:NoSl i):PE X (.Subscript o i pos) (AEs X.prog X.w td ty):=by
 intro pins s σ H Q I h;refine Wb NU.lookup hs (thn (ho pins s σ H _ I h) λu s1 ⟨x,H1,I1,rx,q1⟩=>thn (hi pins s1 σ H1 _ I1 q1) λiv s2 ⟨y,H2,I2,ry,a,v,ex,g,q2⟩=>?_);subst ex;obtain rfl:u=AS a:=rx;exact ⟨ADi I2 g,Xi hu I2 g ry λw' s3 I3 rw'=>⟨v,H2,I3,rw',q2⟩⟩
theorem Yr(hu:X.A.units+2<C2)(hi:PE X i ty)(ho:PE X o td):PC X .NotIn i o (ACi X.prog X.w ty td):=by
 intro pins s σ H Q I h;refine thn (hi pins s σ H _ I h) λiv s1 ⟨y,H1,I1,ry,q1⟩=>thn (ho pins s1 σ H1 _ I1 q1) λu s2 ⟨x,H2,I2,rx,a,r,ex,g,q2⟩=>?_;subst ex;obtain rfl:u=AS a:=rx;exact ABc hu I2 g ry λs3 I3=>⟨.bl (!r.isSome),H2,I3,rfl,q2⟩
theorem ABe(hu:X.A.units+2<C2)(ho:PE X o td)(hi:PE X i ty)(hv:PE X value tv)(hs:KM value (some (.Subscript o i pos')) pos.line X.env=pure false):PS X (.Assign [.Subscript o i pos'] value pos) (AFG X.prog X.w td ty tv):=by
 intro pins s σ H D I h;refine Pe (thn (hv pins s σ H _ I h) λr s1 ⟨v,H1,I1,rv,q1⟩=>thn (ho pins s1 σ H1 _ I1 q1) λu s2 ⟨x,H2,I2,rx,q2⟩=>thn (hi pins s2 σ H2 _ I2 q2) λiv s3 ⟨y,H3,I3,ry,a,kvs,p,b,ex,ey,d,k,new,hl,q3⟩=>?_) hs;subst ex;obtain rfl:u=AS a:=rx;exact Yh hu I3 d ey k new hl ry rv λH4 s4 oth d4 I4=>⟨σ,H4,I4,q3 H4 oth d4⟩
end
end L2
end
section
namespace K53
open PySem L2
def top(i:Nat):Stmt:=G7.main.body.getD i (.Pass ⟨0,0,0,0⟩)
abbrev Ew:Stmt:=inClass (top 21) 0
abbrev JK:Stmt:=inClass (top 33) 0
abbrev Gm:Stmt:=inClass (top 33) 1
abbrev LC:Stmt:=inClass (top 29) 1
abbrev JQ:Stmt:=inClass (top 29) 2
abbrev HS:Stmt:=inClass (top 29) 3
abbrev Fj:Stmt:=inClass (top 29) 4
abbrev Xa:Stmt:=inClass (top 29) 5
abbrev Mz:Stmt:=inClass (top 17) 3
abbrev Hj:Stmt:=inClass (top 14) 0
abbrev FW:Stmt:=inClass (top 14) 1
abbrev Nz:Stmt:=inClass (top 14) 2
abbrev Og:Stmt:=inClass (top 21) 1
abbrev Nq:Stmt:=inClass (top 21) 2
abbrev sAt:Stmt:=inClass (top 21) 3
abbrev Xg:Stmt:=top 22
abbrev Xl:Stmt:=top 23
abbrev Yl:Stmt:=top 24
abbrev Ft:Stmt:=top 25
abbrev Fo:Stmt:=top 26
abbrev Nr:Stmt:=top 35
abbrev XC:Stmt:=top 36
abbrev Oh:Stmt:=top 37
abbrev Yu:Stmt:=top 38
abbrev FP:Stmt:=inClass (top 31) 0
abbrev Oa:Stmt:=top 39
abbrev Wt:Stmt:=top 40
abbrev Gi:Stmt:=top 41
abbrev Eb:Stmt:=top 42
abbrev Eo:Stmt:=top 43
abbrev Fd:Stmt:=top 44
abbrev Je:Stmt:=top 13
abbrev FZ:Stmt:=top 15
theorem ja:¬ (("amount" : Str) = "joints"):=by decide +kernel
def flds(z:Int)(j:Addr):List (Str×V):=putF "joints" (.ref j) (putF "amount" (.int z) [])
theorem Ga(z:Int)(j:Addr):(flds z j).lookup ("amount" : Str)=some (.int z):=by
 unfold flds;rw[Ai,if_neg ja,Ai,if_pos rfl]
theorem Jo(z:Int)(j:Addr):(flds z j).lookup ("joints" : Str)=some (.ref j):=by
 unfold flds;rw[Ai,if_pos rfl]
theorem Ei(z:Int)(j:Addr){m:Str}(h1:¬ m = "joints")(h2:¬ m = "amount"):(flds z j).lookup m=none:=by
 unfold flds;rw[Ai,if_neg h1,Ai,if_neg h2]
 all_goals rfl
structure Txt(K:Au)(mg:Str->Option Ap)(C:Addr):Prop where
 cl:Cls K C
 nA:NoAttr K C "amount"
 nJ:NoAttr K C "joints"
 mgC:mg "Web" = some (.ref C)
 mp:∃t,mg "MOST_POINTS" = some (.int 10 t)
 mt:∃t,mg "MOST_TIES" = some (.int 12 t)
 len:mg "len" = none
 range:mg "range" = none
 int:mg "int" = none
 max:mg "max" = none
 min:mg "min" = none
 sorted:mg "sorted" = none
 tuple:mg "tuple" = none
 list:mg "list" = none
 bool:mg "bool" = none
 enum:mg "enumerate" = none
 isi:mg "isinstance" = none
def WebAt(K:Au)(C:Addr)(H:Hp)(p:Addr)(z:Int)(as:List (List Int)):Prop:=∃dx j,H p=some (.ins C dx (flds z j))/\rTup K (rPair K) H as (.ref j)
theorem WebAt.same{K:Au}{C:Addr}{H H':Hp}{p:Addr}{z:Int}{as:List (List Int)}(h:WebAt K C H p z as)(e:Same H H'):WebAt K C H' p z as:=by
 obtain ⟨dx,j,h1,h2⟩:=h;exact ⟨dx,j,e _ _ h1,Aq (Aq Az) _ _ _ _ e.ts h2⟩
def UJ(K:Au):Sp:=λvs H Q _=>∃(a:Addr) (ns:List Int) (k:Int),vs=[.ref a,.int k]/\SqL K H a (ns.map V.int)/\0<=k/\∀c:Int,Q (.int c) H
def ADK:Sp:=λvs H Q _=>∃(c k:Int),vs=[.int c,.int k]/\∀r:Int,Q (.int r) H
def AAw:Sp:=λvs H Q _=>∃(c many most:Int),vs=[.int c,.int many,.int most]/\0<=many/\many<=20/\0<most/\most<=1000 /\
 ∀(l:Addr) (ms:List Int) (H':Hp),Same H H'->H l=none->H' l=some (.lst (ms.map V.int))->(ms.length:Int)=many->(∀m∈ms,0<=m/\m<most)->Q (.ref l) H'
def ACv:Sp:=λvs H Q _=>∃(p t:Int),vs=[.int p,.int t]/\1<=p/\p<=10/\0<=t/\t<=12/\Q .non H
def ADG(K:Au):Sp:=λvs H Q _=>∃(m a b:Int) (t:Addr),vs=[.int m,.ref t]/\SqT K H t [.int a,.int b]/\0<=a/\a<b/\b<m/\Q .non H
def ACu(K:Au):Sp:=λvs H Q _=>∃(m:Int) (l:Addr) (xs:List V) (as:List (List Int)),vs=[.int m,.ref l]/\SqL K H l xs/\Cb (rSeq K H) as xs/\OkTies m as/\as.length<=12 /\
 ∀(j:Addr) (H':Hp),Same H H'->rTup K (rPair K) H' (as.map srt) (.ref j)->Q (.ref j) H'
def JF(K:Au)(C:Addr):Sp:=λvs H Q _=>∃(p dx l:Addr) (m:Int) (xs:List V) (as:List (List Int)),vs=[.ref p,.int m,.ref l]/\H p=some (.ins C dx [])/\SqL K H l xs/\Cb (rSeq K H) as xs/\OkTies m as/\as.length<=12/\1<=m/\m<=10 /\
 ∀(H':Hp),(∀b o,H b=some o->b≠p->H' b=some o)->WebAt K C H' p m (as.map srt)->Q .non H'
def PL(K:Au)(C:Addr):Sp:=λvs H Q _=>∃(p:Addr) (m:Int) (as:List (List Int)),vs=[.ref p]/\WebAt K C H p m as/\Q (.int m) H
def Pb(K:Au)(C:Addr):Sp:=λvs H Q _=>∃(p:Addr) (m:Int) (as:List (List Int)),vs=[.ref p]/\WebAt K C H p m as/\∀(l:Addr) (H':Hp),Same H H'->H l=none->rLst K (rPair K) H' as (.ref l)->Q (.ref l) H'
def ADe(K:Au)(C:Addr):Sp:=λvs H Q _=>∃(p:Addr) (m x:Int) (as:List (List Int)),vs=[.ref p,.int x]/\WebAt K C H p m as/\as.length<=12 /\
 ∀(l:Addr) (H':Hp),Same H H'->H l=none->H' l=some (.lst ((hits x as).map V.int))->Q (.ref l) H'
def RG(K:Au):Sp:=λvs H Q _=>∃(a:Addr) (ns:List Int),vs=[.ref a]/\SqL K H a (ns.map V.int)/\ns.length<=63/\∀H',Q (.bl true) H'
section
variable{P:AM}{w:AT}{K:Au}{mg:Str->Option Ap}{base:Heap}{f C:Addr}{fd:BV}
theorem ADS:FnScope ["_law_script","_law_k"] ["_law_script","_law_k"] (Ac Nr):=⟨rfl,rfl,rfl,by decide +kernel,rfl,by decide +kernel,by decide +kernel⟩
theorem ABu(F:Fun K "_law_cell" "_law_cell" Nr f fd)(T:Txt K mg C):FnOk P w K mg base CX0 1 f fd ["_law_script","_law_k"] (UJ K):=by
 refine F.ok ADS (λvs H Q E h=>?_) (λcdv A outer s H vs Q E hr h=>?_)
 ·obtain ⟨a,ns,k,rfl,_⟩:=h
  rfl
 obtain ⟨a,ns,k,rfl,hS,h0,q⟩:=h;refine ⟨_,Aj (Av (Ig (Ar Kf (pv 1) (BK BZ rfl T.len DT (Aa (pv 0) Ad)) (nomark _)) (Bc Bm (pv 0) (pv 1) (λ_ _=>rfl)) Ah)),?_⟩;refine ⟨_,rfl,_,rfl,a,_,rfl,.inl hS,_,_,rfl,rfl,_,rfl,?_⟩;refine ite2 (λc=>?_) (λc=>?_)
 ·have c':k<(((ns.map V.int).length:Nat):Int):=of_decide_eq_true c
  rw[AB] at c';obtain ⟨v,hv⟩:=AAL h0 c';exact ⟨_,rfl,_,rfl,a,_,_,_,rfl,rfl,hS,hv,q v⟩
 ·exact q 0
theorem ACo:FnScope ["_law_cell_here","_law_k","_law_number"] ["_law_cell_here","_law_k"] (Ac XC):=⟨rfl,rfl,rfl,by decide +kernel,rfl,by decide +kernel,by decide +kernel⟩
theorem AEQ(F:Fun K "_law_mixed" "_law_mixed" XC f fd):FnOk P w K mg base CX0 1 f fd ["_law_cell_here","_law_k"] ADK:=by
 refine F.ok ACo (λvs H Q E h=>?_) (λcdv A outer s H vs Q E hr h=>?_)
 ·obtain ⟨c,k,rfl,_⟩:=h
  rfl
 obtain ⟨c,k,rfl,q⟩:=h;refine ⟨_,Ae (Ax (i:=2) ACo.nd rfl (BF rfl) (Aw Dm (Aw Cw (Aw Cw (Aw Ka (Aw Dm (pv 0) Ah) Ah) (Aw Ka (pv 1) Ah)) Ah) Ah))
  (Aj (Av (Aw Dm (Aw Ka (pv 2) (pv 2)) Ah))),?_⟩
 refine ⟨_,rfl,_,_,rfl,rfl,(by show (0:Int)<2147483647;decide),_,_,rfl,rfl,.inr ⟨by decide,by decide⟩,_,rfl,_,_,rfl,rfl,.inr ⟨by decide,by decide⟩,_,_,rfl,rfl,_,_,rfl,rfl,_,_,rfl,rfl,(by show (0:Int)<2147483629;decide),?_⟩;refine ⟨_,rfl,_,rfl,_,_,rfl,rfl,?_,_,_,rfl,rfl,(by show (0:Int)<2147483587;decide),q _⟩;have h1:=Hb (c%2147483647*16807+k*48271+11) (show (2147483629:Int)≠0 by decide);have h2:=FR (c%2147483647*16807+k*48271+11) (show (0:Int)<2147483629 by decide);exact .inl ⟨by lia,by lia⟩
theorem Ks:FnScope ["_law_cell_here","_law_many","_law_most","_law_found","_law_left","_law_k"] ["_law_cell_here","_law_many","_law_most"] (Ac Oh):=⟨rfl,rfl,rfl,by decide +kernel,rfl,by decide +kernel,by decide +kernel⟩
theorem ACV{fM:Addr}{fdM:BV}(F:Fun K "_law_draws" "_law_draws" Oh f fd)(T:Txt K mg C)(GM:FnOk P w K mg base CX0 1 fM fdM ["_law_cell_here","_law_k"] ADK)(bM:Binds K fdM ["_law_cell_here","_law_k"] [])(kM:AI K (.ref fM)=true)(mM:mg "_law_mixed" = some (.ref fM)) :
  FnOk P w K mg base CX0 2 f fd ["_law_cell_here","_law_many","_law_most"] AAw:=by
 refine F.ok Ks (λvs H Q E h=>?_) (λcdv A outer s H vs Q E hr h=>?_)
 ·obtain ⟨c,many,most,rfl,_⟩:=h
  rfl
 obtain ⟨c,many,most,rfl,h0,h1,h2,h3,q⟩:=h;refine ⟨_,Ae (Ax (i:=3) Ks.nd rfl (BF rfl) (Ck Ad))
  (Ae (Ax (i:=4) Ks.nd rfl (BF rfl) (Aw Fi (pv 0) Ah))
  (Ae (Cv C8 rfl (Cp rfl T.range (Aa (pv 1) Ad)) (Am (i:=5) Ks.nd rfl (BF rfl))
   (Aj (CQ (Ar Eu (Aw Dm (pv 0) Ah) Ah (nomark _))
    (Ae (DY (Mw Fn E8 E9 Cz (pv 3) (Aa (Aw Dm (pv 4) (pv 2)) Ad)))
     (Aj (Ax (i:=4) Ks.nd rfl (BF rfl) (Aw Fi (pv 4) (pv 2)))))
    (Aj (DY (Mw Fn E8 E9 Cz (pv 3) (Aa (Aw Dm (BP GM hr rfl mM kM bM .nil pass0 (Aa (pv 0) (Aa (pv 5) Ad))) (pv 2)) Ad)))))))
  (Aj (Av (pv 3))))),?_⟩
 refine ⟨Bi _,λl hl=>?_⟩;refine ⟨_,rfl,_,_,rfl,rfl,⟨by decide,by decide⟩,?_⟩;refine ⟨_,rfl,many,rfl,by lia,by lia,?_⟩;refine JD (lo:=0) (n:=many.toNat) (λi σ H2=>∃(ms:List Int) (left:Int) (kv:Option V),σ=[some (.int c),some (.int many),some (.int most),some (.ref l),some (.int left),kv]/\Same H H2/\H2 l=some (.lst (ms.map V.int))/\ms.length=i/\∀m∈ms,0<=m/\m<most)
  ⟨[],_,none,rfl,Same.new hl _,Ab,rfl,λm hm=>by cases hm⟩ ?_ ?_
 ·rintro i σ H2 hi ⟨ms,left,kv,rfl,sm,hL,hn,hb⟩
  have put:∀v:Int,0<=v/\v<most->Same H (upd H2 l (.lst (ms.map V.int++[.int v])))/\(upd H2 l (.lst (ms.map V.int++[.int v]))) l=some (.lst ((ms++[v]).map V.int))/\(ms++[v]).length=i+1/\∀m∈ms++[v],0<=m/\m<most:=λv hv=>by
   refine ⟨λb o e=>by rw[Ag (Af e hl)];exact sm b o e,by rw[Ab,B8];rfl,by simp[hn],λm hm=>?_⟩;rcases Co.mp hm with hm | hm
   ·exact hb m hm
   ·rw[Cn.mp hm];exact hv
  have hz:(ms.map V.int).length<sizeLine:=by rw[AB];exact Ay (by lia)
  refine ⟨_,rfl,_,_,rfl,rfl,(by show (0:Int)<2;decide),rfl,_,rfl,?_⟩;refine ite2 (λ_=>?_) (λ_=>?_)
  ·obtain ⟨p1,p2,p3,p4⟩:=put (left%most) ⟨Hb _ (by lia),FR _ h2⟩
   refine ⟨_,rfl,.inl ⟨rfl,_,SqL.of hL⟩,_,rfl,_,rfl,_,_,rfl,rfl,h2,l,_,_,rfl,rfl,hL,hz,?_⟩;refine ⟨_,rfl,_,rfl,_,_,rfl,rfl,⟨h2,by lia⟩,?_⟩;exact ⟨_,_,_,rfl,p1,p2,p3,p4⟩
  ·refine ⟨_,rfl,.inl ⟨rfl,_,SqL.of hL⟩,_,rfl,_,rfl,_,_,rfl,λr=>?_⟩
   obtain ⟨p1,p2,p3,p4⟩:=put (r%most) ⟨Hb _ (by lia),FR _ h2⟩;refine ⟨_,rfl,_,_,rfl,rfl,h2,l,_,_,rfl,rfl,hL,hz,?_⟩;exact ⟨_,_,_,rfl,p1,p2,p3,p4⟩
 ·rintro σ H2 ⟨ms,left,kv,rfl,sm,hL,hn,hb⟩
  exact ⟨_,rfl,q l ms H2 sm hl hL (by lia) hb⟩
theorem AEt:FnScope ["points","ties"] ["points","ties"] (Ac Xg):=⟨rfl,rfl,rfl,by decide +kernel,rfl,by decide +kernel,by decide +kernel⟩
theorem ADd(F:Fun K "refuse_amounts" "refuse_amounts" Xg f fd)(T:Txt K mg C):FnOk P w K mg base CX0 1 f fd ["points","ties"] ACv:=by
 refine F.ok AEt (λvs H Q E h=>?_) (λcdv A outer s H vs Q E hr h=>?_)
 ·obtain ⟨p,t,rfl,_⟩:=h
  rfl
 obtain ⟨p,t,rfl,h1,h2,h3,h4,q⟩:=h;obtain ⟨t1,e1⟩:=T.mp;obtain ⟨t2,e2⟩:=T.mt;refine ⟨_,Ae (CQ (PW.pt (HF (Ar Kf (pv 0) Ah (nomark _)) (Ho (Ar Ol (pv 0) (Gp (v:=.int 10) rfl e1 ⟨t1,rfl⟩) (nomark _))))) Et BX)
  (Aj (CQ (Ar Ol (pv 1) (Gp (v:=.int 12) rfl e2 ⟨t2,rfl⟩) (nomark _)) Et BX)),?_⟩
 refine ⟨_,rfl,_,_,rfl,rfl,_,rfl,?_⟩;refine iteN (by lia) ?_;refine ⟨_,rfl,_,_,rfl,rfl,_,rfl,?_⟩;refine iteN (by lia) ?_;refine ⟨_,rfl,_,_,rfl,rfl,_,rfl,?_⟩;refine iteN (by lia) ?_;exact q
theorem AEf:FnScope ["many","tie"] ["many","tie"] (Ac Yl):=⟨rfl,rfl,rfl,by decide +kernel,rfl,by decide +kernel,by decide +kernel⟩
theorem at0{a b:V}:atI [a,b] 0=some a:=rfl
theorem at1{a b:V}:atI [a,b] 1=some b:=rfl
theorem AEH(F:Fun K "refuse_points" "refuse_points" Yl f fd):FnOk P w K mg base CX0 1 f fd ["many","tie"] (ADG K):=by
 refine F.ok AEf (λvs H Q E h=>?_) (λcdv A outer s H vs Q E hr h=>?_)
 ·obtain ⟨m,a,b,t,rfl,_⟩:=h
  rfl
 obtain ⟨m,a,b,t,rfl,hT,h0,h1,h2,q⟩:=h;refine ⟨_,Ae (CQ (PW.pt (HF (Ar Kf (Bc Dn (pv 1) Ah (λ_ _=>rfl)) Ah (nomark _)) (Ho (Ar Tq (Bc Dn (pv 1) Ah (λ_ _=>rfl)) (pv 0) (nomark _))))) Et BX)
  (Aj (CQ (Ar Eu (Bc Dn (pv 1) Ah (λ_ _=>rfl)) (Bc Dn (pv 1) Ah (λ_ _=>rfl)) (nomark _)) Et BX)),?_⟩
 refine ⟨_,rfl,t,_,_,_,rfl,rfl,hT,at0,_,_,rfl,rfl,_,rfl,?_⟩;refine iteN (by lia) ?_;refine ⟨_,rfl,t,_,_,_,rfl,rfl,hT,at1,_,rfl,_,_,rfl,rfl,_,rfl,?_⟩;refine iteN (by lia) ?_;refine ⟨_,rfl,t,_,_,_,rfl,rfl,hT,at0,_,rfl,t,_,_,_,rfl,rfl,hT,at1,rfl,_,rfl,?_⟩;refine iteN (λe=>?_) q;have:=V.int.inj e;lia
theorem Vs:FnScope ["many","ties","checked","handed","tie"] ["many","ties"] (Ac Xl):=⟨rfl,rfl,rfl,by decide +kernel,rfl,by decide +kernel,by decide +kernel⟩
theorem AEa{fP:Addr}{fdP:BV}(F:Fun K "checked_ties" "checked_ties" Xl f fd)(T:Txt K mg C)(GP:FnOk P w K mg base CX0 1 fP fdP ["many","tie"] (ADG K))(bP:Binds K fdP ["many","tie"] [])(kP:AI K (.ref fP)=true)(mP:mg "refuse_points" = some (.ref fP)) :
  FnOk P w K mg base CX0 2 f fd ["many","ties"] (ACu K):=by
 refine F.ok Vs (λvs H Q E h=>?_) (λcdv A outer s H vs Q E hr h=>?_)
 ·obtain ⟨m,l,xs,as,rfl,_⟩:=h
  rfl
 obtain ⟨m,l,xs,as,rfl,hS,pa,ok,h12,q⟩:=h;refine ⟨_,Ae (Ax (i:=2) Vs.nd rfl (BF rfl) (Ck Ad))
  (Ae (Cv C8 rfl (Bx (pv 1)) (Am (i:=3) Vs.nd rfl (BF rfl))
   (Ae (Ax (i:=4) Vs.nd rfl (BF rfl) (Bk Ce rfl T.tuple DJ (Aa (BK Rg rfl T.sorted OC (Aa (pv 3) Ad)) Ad)))
   (Ae (DY (BP GP hr rfl mP kP bP .nil pass0 (Aa (pv 0) (Aa (pv 4) Ad))))
   (Ae (CQ (Ar (AEW (Gq DQ) (CW hr)) (pv 4) (pv 2) rfl) Et BX)
   (Aj (DY (Mw Fn E8 E9 Cz (pv 2) (Aa (pv 4) Ad))))))))
  (Aj (Av (Bk Ce rfl T.tuple DJ (Aa (pv 2) Ad))))),?_⟩
 refine ⟨Bi _,λc hc=>?_⟩;have lx:as.length=xs.length:=B4 pa;refine ⟨_,rfl,l,rfl,⟨_,(Same.new hc _).seq hS⟩,DK (K:=K) (a:=l) (xs:=xs) (λi σ H2=>∃(hv tv:Option V) (ys:List V),σ=[some (.int m),some (.ref l),some (.ref c),hv,tv]/\Same H H2/\H2 c=some (.lst ys)/\Cb (rPair K H2) ((as.take i).map srt) ys)
  ⟨none,none,[],rfl,Same.new hc _,Ab,.nil⟩ (λi σ H2 _ ⟨_,_,_,_,sm,_⟩=>sm.seq hS) ?_ ?_⟩
 ·rintro i x σ H2 hx ⟨hv,tv,ys,rfl,sm,hC,pc⟩
  obtain ⟨t,ht,rt0⟩:=Paired.get pa hx;obtain ⟨p,rfl,hp⟩:=ABM rt0;obtain ⟨a,b,rfl,a0,a1,b0,b1,nab⟩:=ok.ok t (BH ht);have hp2:SqL K H2 p ([a,b].map V.int)\/SqT K H2 p ([a,b].map V.int):=hp.elim (λz=>.inl (sm.seq z)) λz=>.inr (sm.ts.seq z);refine ⟨_,rfl,p,[a,b],rfl,hp2,(by show 2<64;decide),λl1 ms hl1 perm pw=>?_⟩;have em:=Xy perm pw;subst em;refine ⟨l1,_,rfl,.inl ⟨SqL.of Ab,λt1 ht1=>?_⟩⟩;have hT:(upd (upd H2 l1 (.lst ((srt [a,b]).map V.int))) t1 (.tup ((srt [a,b]).map V.int))) t1=some (.tup ((srt [a,b]).map V.int)):=Ab;have s1:Same H2 (upd (upd H2 l1 (.lst ((srt [a,b]).map V.int))) t1 (.tup ((srt [a,b]).map V.int))):=(Same.new hl1 _).trans (Same.new ht1 _);generalize hH3:upd (upd H2 l1 (.lst ((srt [a,b]).map V.int))) t1 (.tup ((srt [a,b]).map V.int))=H3 at hT s1 ⊢;have hlen:(srt [a,b]).length=2:=by rw[Ez];split<;>rfl
  have pts:∃u v:Int,srt [a,b]=[u,v]/\0<=u/\u<v/\v<m:=by
   rw[Ez];split
   ·exact ⟨b,a,rfl,b0,by lia,a1⟩
   ·exact ⟨a,b,rfl,a0,by lia,b1⟩
  obtain ⟨u,v,euv,u0,uv,vm⟩:=pts;have hT2:SqT K H3 t1 [.int u,.int v]:=by
   have e:=SqT.of (K:=K) hT;rw[euv] at e;exact e
  refine ⟨_,rfl,_,rfl,m,u,v,t1,rfl,hT2,u0,uv,vm,?_⟩;have hC3:H3 c=some (.lst ys):=s1 _ _ hC;have pc3:Cb (rPair K H3) ((as.take i).map srt) ys:=Paired.imp (λa b=>Aq Az H2 H3 a b s1.ts) pc;have rt:rPair K H3 (srt [a,b]) (.ref t1):=FQ hT;refine ⟨_,rfl,_,rfl,_,_,rt,.inl ⟨c,ys,rfl,SqL.of hC3,pc3⟩,_,rfl,?_⟩;refine iteN (ok.take_new ht) ?_;have hys:ys.length<=12:=by
   rw[<- B4 pc,AB,Cc];lia
  refine ⟨_,rfl,.inl ⟨rfl,_,SqL.of hC3⟩,_,rfl,c,ys,_,rfl,rfl,hC3,Ay (by lia),?_⟩;refine ⟨_,_,_,rfl,λb o e=>?_,Ab,?_⟩
  ·rw[Ag (Af e hc)]
   exact s1 _ _ (sm b o e)
  ·have e:as.take (i+1)=as.take i++[[a,b]]:=by rw[EI,ht];rfl
   rw[e,B8,M6];have ts:TSm H3 (upd H3 c (.lst (ys++[.ref t1]))):=TSm.lst hC3;exact Paired.app (Paired.imp (λa b=>Aq Az H3 _ a b ts) pc3) (Paired.one (Aq Az H3 _ _ _ ts rt))
 ·rintro σ H2 ⟨hv,tv,ys,rfl,sm,hC,pc⟩
  rw[<- lx,DI] at pc;refine ⟨_,rfl,c,_,rfl,.inl ⟨SqL.of hC,λj hj=>?_⟩⟩;refine q j _ (sm.trans (Same.new hj _)) ⟨j,ys,rfl,SqT.of Ab,?_⟩;exact Paired.imp (λa b=>Aq Az H2 _ a b (TSm.new hj)) pc
theorem Uq:FnScope ["self","many","ties"] ["self","many","ties"] (Ac Ew):=⟨rfl,rfl,rfl,by decide +kernel,rfl,by decide +kernel,by decide +kernel⟩
theorem Hr{fA fC:Addr}{fdA fdC:BV}(F:Fun K "__init__" "Web.__init__" Ew f fd)(T:Txt K mg C)
  (GA:FnOk P w K mg base CX0 1 fA fdA ["points","ties"] ACv) (bA:Binds K fdA ["points","ties"] []) (kA:AI K (.ref fA)=true) (mA:mg "refuse_amounts" = some (.ref fA))
  (GC:FnOk P w K mg base CX0 2 fC fdC ["many","ties"] (ACu K)) (bC:Binds K fdC ["many","ties"] []) (kC:AI K (.ref fC)=true) (mC:mg "checked_ties" = some (.ref fC)) :
  FnOk P w K mg base CX0 3 f fd ["self","many","ties"] (JF K C):=by
 refine F.ok Uq (λvs H Q E h=>?_) (λcdv A outer s H vs Q E hr h=>?_)
 ·obtain ⟨p,dx,l,m,xs,as,rfl,_⟩:=h
  rfl
 obtain ⟨p,dx,l,m,xs,as,rfl,hP,hS,pa,ok,h12,h1,h10,q⟩:=h;have lx:as.length=xs.length:=B4 pa;refine ⟨_,Ae (DY (BP GA (hr.mono (by decide)) rfl mA kA bA .nil pass0 (Aa (pv 1) (Aa (BK BZ rfl T.len DT (Aa (pv 2) Ad)) Ad))))
  (Ae (Dp (pv 0) (pv 1) rfl)
  (Aj (Dp (pv 0) (BP GC hr rfl mC kC bC .nil pass0 (Aa (pv 1) (Aa (pv 2) Ad))) rfl))),?_⟩
 refine ⟨_,rfl,_,rfl,l,_,rfl,.inl hS,m,_,rfl,h1,h10,by lia,by lia,?_⟩;refine ⟨_,rfl,_,rfl,p,C,dx,[],rfl,hP,T.cl,T.nA,(by show 0<1000;decide),?_⟩;have ts:TSm H (upd H p (.ins C dx (putF "amount" (.int m) []))):=λb u hb t=>by
  rw[Ag ?_]
  ·exact hb
  ·rintro rfl
   rw[hP] at hb;cases hb;obtain ⟨ys,e | ⟨o,e⟩⟩:=t
   ·cases e
   ·cases e
 have sl:∀{a:Addr}{zs:List V},SqL K H a zs->SqL K (upd H p (.ins C dx (putF "amount" (.int m) []))) a zs:=λ{a zs} h=>by
  rcases h with (h | ⟨o,h⟩) | h
  ·exact .inl (.inl (by rw[Ag (Cd h hP (by intro z;cases z))];exact h))
  ·exact .inl (.inr ⟨o,by rw[Ag (Cd h hP (by intro z;cases z))];exact h⟩)
  ·exact .inr h
 have pa':Cb (rSeq K (upd H p (.ins C dx (putF "amount" (.int m) [])))) as xs:=Paired.imp (λt x h=>by
  rcases h with⟨q,zs,rfl,hq,pz⟩ | h
  ·exact .inl ⟨q,zs,rfl,sl hq,pz⟩
  ·exact .inr (Aq Az _ _ _ _ ts h)) pa
 refine ⟨_,rfl,_,rfl,m,l,xs,as,rfl,sl hS,pa',ok,h12,λj H' sm rj=>?_⟩;have hP':H' p=some (.ins C dx (putF "amount" (.int m) [])):=sm _ _ Ab;refine ⟨_,rfl,p,C,dx,_,rfl,hP',T.cl,T.nJ,(by show 1<1000;decide),?_⟩;refine q _ (λb o e hb=>?_) ⟨dx,j,Ab,?_⟩
 ·rw[Ag hb]
  exact sm _ _ (by rw[Ag hb];exact e)
 ·refine Aq (Aq Az) _ _ _ _ (λb u hb t=>?_) rj
  rw[Ag ?_]
  ·exact hb
  ·rintro rfl
   rw[hP'] at hb;cases hb;obtain ⟨ys,e | ⟨o,e⟩⟩:=t
   ·cases e
   ·cases e
theorem scSize:FnScope ["self"] ["self"] (Ac Og):=⟨rfl,rfl,rfl,by decide +kernel,rfl,by decide +kernel,by decide +kernel⟩
theorem ACX(F:Fun K "size" "Web.size" Og f fd)(T:Txt K mg C):FnOk P w K mg base CX0 1 f fd ["self"] (PL K C):=by
 refine F.ok scSize (λvs H Q E h=>?_) (λcdv A outer s H vs Q E hr h=>?_)
 ·obtain ⟨p,m,as,rfl,_⟩:=h
  rfl
 obtain ⟨p,m,as,rfl,⟨dx,j,hP,hj⟩,q⟩:=h;refine ⟨_,Aj (Av (Br (pv 0) rfl)),?_⟩;exact ⟨_,rfl,p,C,dx,_,_,rfl,hP,T.cl,T.nA,Ga _ _,q⟩
theorem ADa:FnScope ["self"] ["self"] (Ac Nq):=⟨rfl,rfl,rfl,by decide +kernel,rfl,by decide +kernel,by decide +kernel⟩
theorem ABb(F:Fun K "ties" "Web.ties" Nq f fd)(T:Txt K mg C):FnOk P w K mg base CX0 1 f fd ["self"] (Pb K C):=by
 refine F.ok ADa (λvs H Q E h=>?_) (λcdv A outer s H vs Q E hr h=>?_)
 ·obtain ⟨p,m,as,rfl,_⟩:=h
  rfl
 obtain ⟨p,m,as,rfl,⟨dx,j,hP,j',xs,ej,hj,pj⟩,q⟩:=h;cases ej;refine ⟨_,Aj (Av (Bk Fb rfl T.list IX (Aa (Br (pv 0) rfl) Ad))),?_⟩;refine ⟨_,rfl,p,C,dx,_,_,rfl,hP,T.cl,T.nJ,Jo _ _,j,xs,rfl,.inr hj,λl hl=>?_⟩;refine q l _ (Same.new hl _) hl ⟨l,xs,rfl,SqL.of Ab,?_⟩;exact Paired.imp (λa b=>Aq Az H _ a b (TSm.new hl)) pj
theorem AFR:FnScope ["self","point"] ["self","point"] (Ac sAt):=⟨rfl,rfl,rfl,by decide +kernel,rfl,by decide +kernel,by decide +kernel⟩
theorem AEg(F:Fun K "at" "Web.at" sAt f fd)(T:Txt K mg C):FnOk P w K mg base CX0 1 f fd ["self","point"] (ADe K C):=by
 refine F.ok AFR (λvs H Q E h=>?_) (λcdv A outer s H vs Q E hr h=>?_)
 ·obtain ⟨p,m,x,as,rfl,_⟩:=h
  rfl
 obtain ⟨p,m,x,as,rfl,⟨dx,j,hP,j',xs,ej,hj,pj⟩,h12,q⟩:=h;cases ej;refine ⟨_,Aj (Av (Ca (Ac sAt) ["number","tie"] ["point"] [1] rfl rfl (by decide +kernel) ⟨⟨rfl,by decide +kernel⟩,trivial⟩ (Ke rfl T.enum (Aa (Br (pv 0) rfl) Ad))
  (λ_ _ _=>Fg (K:=K) (n:=2) rfl rfl (Bb (Am (i:=0) (show ((["number","tie"]:List Str)++(["point"]:List Str)).Nodup by decide +kernel) rfl (BF rfl)) (Bb (Am (i:=1) (show ((["number","tie"]:List Str)++(["point"]:List Str)).Nodup by decide +kernel) rfl (BF rfl)) Dw)))
  (λ_ _ _=>Dj (Ar (Fp (K:=K) rfl) (pv 2) (pv 1) rfl))
  (λ_ _ _=>pv 0))),?_⟩
 refine ⟨_,rfl,p,C,dx,_,_,rfl,hP,T.cl,T.nJ,Jo _ _,j,rfl,⟨_,hj⟩,λD hD=>?_⟩;have lx:as.length=xs.length:=B4 pj;refine HW (xs:=xs) (λi τ H2=>∃n t:Option V,τ=[n,t,some (.int x)]/\Same H H2/\H2 D=some (.lst ((hits x (as.take i)).map V.int))) ⟨none,none,rfl,Same.new hD _,Ab⟩
  (λi τ H2 _ ⟨_,_,_,sm,_⟩=>sm.ts.seq hj) ?_ ?_
 ·rintro i y τ H2 T1 hy hT1 ⟨n,t,rfl,sm,hD2⟩
  obtain ⟨tie,ht,rt⟩:=Paired.get pj hy;obtain ⟨q1,rfl,hq1⟩:=Cy rt;have s1:Same H2 (upd H2 T1 (.tup [.int i,.ref q1])):=Same.new hT1 _;refine ⟨T1,_,rfl,SqT.of Ab,rfl,_,_,rfl,_,_,rfl,rfl,?_⟩;refine ⟨_,rfl,_,rfl,q1,_,rfl,.inr (s1.ts.seq (sm.ts.seq hq1)),rfl,?_,_,rfl,?_⟩
  ·simp[flatV]
  ·rw[if_neg (by decide),EY]
   have hD3:(upd H2 T1 (.tup [.int i,.ref q1])) D=some (.lst ((hits x (as.take i)).map V.int)):=s1 _ _ hD2;have hlt:i<as.length:=(AJ.mp ht).1;refine ite2 (λc=>?_) (λc=>?_)
   ·have c':x∈tie:=of_decide_eq_true c
    refine ⟨_,rfl,_,hD3,?_,_,_,rfl,λb o e=>?_,?_⟩
    ·have:(hits x (as.take i)).length<=(as.take i).length:=Hz x 0 (as.take i)
     rw[AB];rw[Cc] at this;exact Ay (by lia)
    ·rw[Ag (Af e hD)]
     exact s1 _ _ (sm b o e)
    ·rw[Ab,Nv ht,if_pos c',B8]
     rfl
   ·have c':¬ x∈tie:=λz=>c (decide_eq_true z)
    refine ⟨_,_,rfl,sm.trans s1,?_⟩;rw[hD3,Nv ht,if_neg c',CU]
 ·rintro τ H2 ⟨n,t,rfl,sm,hD2⟩
  rw[<- lx,DI] at hD2;exact q D H2 sm hD hD2
end
def ACq(K:Au):Sp:=λvs H Q _=>∃(a:Addr) (ns:List Int) (at_:Int),vs=[.ref a,.int at_]/\SqL K H a (ns.map V.int)/\0<=at_ /\
 ∀(t l:Addr) (z:Int) (xs:List V) (as:List (List Int)) (H':Hp),Same H H'->H' t=some (.tup [.int z,.ref l])->H' l=some (.lst xs)->H l=none->Cb (rPair K H') as xs->1<=z->z<=10->as.length<=12->OkTies z as->Q (.ref t) H'
section
variable{P:AM}{w:AT}{K:Au}{mg:Str->Option Ap}{base:Heap}{f C:Addr}{fd:BV}
theorem Jl:FnScope ["_law_script","_law_at","_law_points","_law_ties","_law_many","_law_number","_law_one","_law_other"] ["_law_script","_law_at"] (Ac Yu):=⟨rfl,rfl,rfl,by decide +kernel,rfl,by decide +kernel,by decide +kernel⟩
theorem drawn{z v:Int}(h1:1<=z)(h10:z<=10)(hz:1<z)(v0:0<=v)(vm:v<z*(z-1)):OkTie z [v / (z-1),v%(z-1)+(if decide (v / (z-1)<=v%(z-1))=true then 1 else 0)]:=by
 have a0:0<=v / (z-1):=Int.ediv_nonneg v0 (by lia);have a1:v / (z-1)<z:=Int.ediv_lt_of_lt_mul (by lia) vm;have b0:0<=v%(z-1):=Hb _ (by lia);have b1:v%(z-1)<z-1:=FR _ (by lia);refine ⟨_,_,rfl,a0,a1,?_⟩;by_cases h:v / (z-1)<=v%(z-1)
 ·rw[decide_eq_true h]
  simp only[if_true];lia
 ·rw[decide_eq_false h]
  simp only[AV,if_false];lia
theorem ADs{fC fD:Addr}{fdC fdD:BV}(F:Fun K "_law_web" "_law_web" Yu f fd)(T:Txt K mg C)
  (GC:FnOk P w K mg base CX0 1 fC fdC ["_law_script","_law_k"] (UJ K)) (bC:Binds K fdC ["_law_script","_law_k"] []) (kC:AI K (.ref fC)=true) (mC:mg "_law_cell" = some (.ref fC))
  (GD:FnOk P w K mg base CX0 2 fD fdD ["_law_cell_here","_law_many","_law_most"] AAw) (bD:Binds K fdD ["_law_cell_here","_law_many","_law_most"] []) (kD:AI K (.ref fD)=true) (mD:mg "_law_draws" = some (.ref fD)) :
  FnOk P w K mg base CX0 3 f fd ["_law_script","_law_at"] (ACq K):=by
 refine F.ok Jl (λvs H Q E h=>?_) (λcdv A outer s H vs Q E hr h=>?_)
 ·obtain ⟨a,ns,at_,rfl,_⟩:=h
  rfl
 obtain ⟨a,ns,at_,rfl,hS,at0,q⟩:=h;have hr1:Room 1 _:=hr.mono (by decide);have hu:=hr.units;refine ⟨_,Ae (Ax (i:=2) Jl.nd rfl (BF rfl) (Aw Cw Ah (Aw Dm (BP GC hr1 rfl mC kC bC .nil pass0 (Aa (pv 0) (Aa (pv 1) Ad))) Ah)))
  (Ae (Ax (i:=3) Jl.nd rfl (BF rfl) (Ck Ad))
  (Ae (Ax (i:=4) Jl.nd rfl (BF rfl) (Aw Ka (Aw Dm (Aw Fi (BP GC hr1 rfl mC kC bC .nil pass0 (Aa (pv 0) (Aa (pv 1) Ad))) Ah) Ah) (Bk Nf rfl T.int PR (Aa (Cm Ol (pv 2) Ah (nomark _)) Ad))))
  (Ae (Cv C8 rfl (Bx (BP GD hr rfl mD kD bD .nil pass0 (Aa (BP GC hr1 rfl mC kC bC .nil pass0 (Aa (pv 0) (Aa (Aw Cw (pv 1) Ah) Ad))) (Aa (pv 4) (Aa (BK (XD rfl) rfl T.max J1 (Aa Ah (Aa (Aw Ka (pv 2) (Aw DP (pv 2) Ah)) Ad))) Ad)))))
    (Am (i:=5) Jl.nd rfl (BF rfl))
   (Ae (Ax (i:=6) Jl.nd rfl (BF rfl) (Aw Fi (pv 5) (Aw DP (pv 2) Ah)))
   (Ae (Ax (i:=7) Jl.nd rfl (BF rfl) (Aw Dm (pv 5) (Aw DP (pv 2) Ah)))
   (Ae (Ax (i:=7) Jl.nd rfl (BF rfl) (Aw Cw (pv 7) (Bk Nf rfl T.int PR (Aa (Cm Tq (pv 7) (pv 6) (nomark _)) Ad))))
   (Aj (CQ (PW.pt (Ko (Ar (Mq (Gq DQ) (CW hr)) (CG (Aa (pv 6) (Aa (pv 7) Ad))) (pv 3) rfl) (Ib (Ar (Mq (Gq DQ) (CW hr)) (CG (Aa (pv 7) (Aa (pv 6) Ad))) (pv 3) rfl))))
    (Aj (DY (Mw Fn E8 E9 Cz (pv 3) (Aa (CG (Aa (pv 6) (Aa (pv 7) Ad))) Ad)))) BX))))))
  (Aj (Av (CG (Aa (pv 2) (Aa (pv 3) Ad)))))))),?_⟩
 refine ⟨_,rfl,_,rfl,a,ns,at_,rfl,hS,at0,λc=>?_⟩;refine ⟨_,_,rfl,rfl,(by show (0:Int)<10;decide),_,_,rfl,rfl,?_⟩;have z1:(1:Int)<=1+c%10:=by lia
 have z10:(1:Int)+c%10<=10:=by lia
 dsimp only;generalize hz:(1:Int)+c%10=z at z1 z10 ⊢;refine ⟨Bi _,λl hl=>?_⟩;have s1:Same H (upd H l (.lst [])):=Same.new hl _;refine ⟨_,rfl,_,rfl,a,ns,at_,rfl,s1.seq hS,at0,λc2=>?_⟩;refine ⟨_,_,rfl,rfl,⟨by decide,by decide⟩,_,_,rfl,rfl,(by show (0:Int)<13;decide),_,rfl,_,_,rfl,rfl,.inr ⟨_,rfl,?_⟩⟩;have y0:0<=c2 / 10%13:=Hb _ (by decide);have y1:c2 / 10%13<13:=FR _ (by decide);refine ⟨_,_,rfl,rfl,.inl ⟨by lia,by lia⟩,?_⟩;have many:∃k:Int,c2 / 10%13*(if decide (1<z)=true then (1:Int) else 0)=k/\0<=k/\k<=12/\(0<k->1<z):=by
  refine ⟨_,rfl,?_⟩;by_cases h:1<z
  ·rw[decide_eq_true h]
   simp only[if_true,SW];lia
  ·rw[decide_eq_false h]
   simp only[AV,if_false,Int.mul_zero];lia
 obtain ⟨k,ek,k0,k12,kz⟩:=many;dsimp only;rw[ek];refine ⟨_,rfl,_,rfl,_,_,rfl,rfl,a,ns,at_+1,rfl,s1.seq hS,by lia,λc3=>?_⟩;refine ⟨_,rfl,_,rfl,_,rfl,_,_,rfl,rfl,_,_,rfl,rfl,.inl ⟨by lia,by lia⟩,1,z*(z-1),rfl,?_⟩;have zz:0<=z*(z-1)/\z*(z-1)<=90:=by
  have:z=1\/z=2\/z=3\/z=4\/z=5\/z=6\/z=7\/z=8\/z=9\/z=10:=by lia
  rcases this with h | h | h | h | h | h | h | h | h | h<;>subst h<;>decide
 refine ⟨c3,k,_,rfl,k0,by lia,by split<;>lia,by split<;>lia,λl2 ms H2 s2 n2 e2 hms hb=>?_⟩;have hl2:H2 l=some (.lst []):=s2 _ _ Ab;have sH:Same H H2:=s1.trans s2;have lms:(ms.map V.int).length=ms.length:=AB _;refine ⟨l2,rfl,⟨_,SqL.of e2⟩,DK (K:=K) (a:=l2) (xs:=ms.map V.int) (λi σ H3=>∃(v4 v5 v6:Option V) (xs:List V) (as:List (List Int)),σ=[some (.ref a),some (.int at_),some (.int z),some (.ref l),some (.int k),v4,v5,v6]/\Same H H3/\H3 l2=some (.lst (ms.map V.int))/\H3 l=some (.lst xs)/\Cb (rPair K H3) as xs/\as.length<=i/\OkTies z as)
  ⟨none,none,none,[],[],rfl,sH,e2,hl2,.nil,AF _,⟨(λt ht=>by cases ht),PF⟩⟩ (λi σ H3 _ ⟨_,_,_,_,_,_,_,e3,_⟩=>SqL.of e3) ?_ ?_⟩
 ·rintro i y σ H3 hy ⟨v4,v5,v6,xs,as,rfl,s3,e3,hL,pl,hlen,ok⟩
  have hi:i<ms.length:=by rw[<- lms];exact (AJ.mp hy).1
  rw[BM,AK hi] at hy;have ey:y=.int ms[i]:=(BY hy).symm;subst ey;obtain ⟨v0,vm⟩:=hb _ (Ix hi);have hz1:1<z:=kz (by lia);have vm':ms[i]<z*(z-1):=by
   have hz2:(1:Int)<=z*(z-1):=by
    have:z=2\/z=3\/z=4\/z=5\/z=6\/z=7\/z=8\/z=9\/z=10:=by lia
    rcases this with h | h | h | h | h | h | h | h | h<;>subst h<;>decide
   split at vm<;>lia
  have okt:=drawn z1 z10 hz1 v0 vm';refine ⟨_,rfl,_,rfl,_,_,rfl,rfl,_,_,rfl,rfl,⟨by lia,by lia⟩,?_⟩;refine ⟨_,rfl,_,rfl,_,_,rfl,rfl,_,_,rfl,rfl,(by show 0<z-1;lia),?_⟩;refine ⟨_,rfl,_,rfl,_,rfl,_,_,rfl,rfl,.inr ⟨_,rfl,?_⟩⟩;refine ⟨_,_,rfl,rfl,?_⟩;dsimp only;generalize ho:ms[i] / (z-1)=one at okt ⊢;generalize hq:ms[i]%(z-1)+(if decide (one<=ms[i]%(z-1))=true then 1 else 0)=oth at okt ⊢;refine ⟨_,rfl,_,rfl,(by show 2<=sizeLine;decide),λt1 ht1=>?_⟩;have st1:Same H3 (upd H3 t1 (.tup [.int one,.int oth])):=Same.new ht1 _;have rt1:rPair K (upd H3 t1 (.tup [.int one,.int oth])) [one,oth] (.ref t1):=FQ Ab;have pl1:Cb (rPair K (upd H3 t1 (.tup [.int one,.int oth]))) as xs:=Paired.imp (λa b=>Aq Az _ _ a b st1.ts) pl;refine ⟨_,rfl,_,_,rt1,.inl ⟨l,xs,rfl,SqL.of (st1 _ _ hL),pl1⟩,_,rfl,?_⟩;by_cases c1:[one,oth]∈as
  ·refine iteNP c1 (iteF ?_)
   exact ⟨_,_,_,xs,as,rfl,s3.trans st1,st1 _ _ e3,st1 _ _ hL,pl1,by lia,ok⟩
  ·refine iteNN c1 ?_
   refine ⟨_,rfl,_,rfl,(by show 2<=sizeLine;decide),λt2 ht2=>?_⟩;have st2:=Same.new ht2 (.tup [.int oth,.int one]);generalize hH4:upd (upd H3 t1 (.tup [.int one,.int oth])) t2 (.tup [.int oth,.int one])=H4 at st2 ⊢;have s34:Same H3 H4:=st1.trans st2;have rt2:rPair K H4 [oth,one] (.ref t2):=FQ (by rw[<- hH4];exact Ab);have pl2:Cb (rPair K H4) as xs:=Paired.imp (λa b=>Aq Az _ _ a b st2.ts) pl1;refine ⟨_,rfl,_,_,rt2,.inl ⟨l,xs,rfl,SqL.of (s34 _ _ hL),pl2⟩,_,rfl,?_⟩;by_cases c2:[oth,one]∈as
   ·refine iteNP c2 ?_
    exact ⟨_,_,_,xs,as,rfl,s3.trans s34,s34 _ _ e3,s34 _ _ hL,pl2,by lia,ok⟩
   ·refine iteNN c2 ?_
    refine ⟨_,rfl,.inl ⟨rfl,_,SqL.of (s34 _ _ hL)⟩,_,rfl,_,rfl,(by show 2<=sizeLine;decide),λt3 ht3=>?_⟩;have st3:=Same.new ht3 (.tup [.int one,.int oth]);have hL5:=st3 _ _ (s34 _ _ hL);have lxs:xs.length=as.length:=(B4 pl).symm;refine ⟨l,xs,_,rfl,rfl,hL5,Ay (by lia),?_⟩;have nl:∀b o,H b=some o->b≠l:=λb o e=>Af e hl;refine ⟨_,_,_,_,as++[[one,oth]],rfl,λb o e=>?_,?_,Ab,?_,?_,ok.snoc okt c1 c2⟩
    ·rw[Ag (nl b o e)]
     exact st3 _ _ (s34 _ _ (s3 b o e))
    ·have:l2≠l:=λe=>by
      rw[e] at n2;rw[Ab] at n2;cases n2
     rw[Ag this];exact st3 _ _ (s34 _ _ e3)
    ·have ts:=TSm.lst (o:=.lst (xs++[.ref t3])) hL5
     have r3:rPair K (upd H4 t3 (.tup [.int one,.int oth])) [one,oth] (.ref t3):=FQ Ab;exact Paired.app (Paired.imp (λa b=>Aq Az _ _ a b (st3.ts.trans ts)) pl2) (Paired.one (Aq Az _ _ _ _ ts r3))
    ·rw[By,DC]
     lia
 ·rintro σ H3 ⟨v4,v5,v6,xs,as,rfl,s3,e3,hL,pl,hlen,ok⟩
  refine ⟨_,rfl,_,rfl,(by show 2<=sizeLine;decide),λt ht=>?_⟩;have st:=Same.new ht (.tup [.int z,.ref l]);refine q t l z xs as _ (s3.trans st) Ab (st _ _ hL) hl (Paired.imp (λa b=>Aq Az _ _ a b st.ts) pl) z1 z10 (by lia) ok
end
abbrev rRow(K:Au)(H:Hp)(s:Addr)(ms:List Int):Prop:=SqL K H s (ms.map V.int)\/SqT K H s (ms.map V.int)
theorem rRow.same{K:Au}{H H':Hp}{s:Addr}{ms:List Int}(h:rRow K H s ms)(e:Same H H'):rRow K H' s ms:=h.elim (λz=>.inl (e.seq z)) λz=>.inr (e.ts.seq z)
def RZ(K:Au):Sp:=λvs H Q _=>∃(l s:Addr) (ns ms:List Int),vs=[.ref l,.ref s]/\SqL K H l (ns.map V.int)/\rRow K H s ms/\ns.length<=12 /\
 ∀(D:Addr) (H':Hp),Same H H'->H D=none->H' D=some (.lst ((ns.filter λk=>decide (k∈ms)).map V.int))->Q (.ref D) H'
def cnts(as:List (List Int))(ms:List Int):Nat->List Int
 | 0=>[]
 | i+1=>cnts as ms i++[(((hits (i:Int) as).filter λk=>decide (k∈ms)).length:Int)]
theorem Kp(as:List (List Int))(ms:List Int):∀i,(cnts as ms i).length=i
 | 0=>rfl
 | i+1=>by
  show (cnts as ms i++_).length=_;rw[By,Kp as ms i];rfl
def Qv(K:Au)(C:Addr):Sp:=λvs H Q _=>∃(p s:Addr) (z:Int) (as:List (List Int)) (ms:List Int),vs=[.ref p,.ref s]/\WebAt K C H p z as/\rRow K H s ms/\1<=z/\z<=10/\as.length<=12 /\
 ∀(D:Addr) (H':Hp),Same H H'->H D=none->H' D=some (.lst ((cnts as ms z.toNat).map V.int))->Q (.ref D) H'
theorem int_at{ns:List Int}{i:Nat}{y:V}(h:(ns.map V.int)[i]?=some y):∃u,ns[i]?=some u/\y=.int u:=by
 rw[BM] at h;cases e:ns[i]? with
 | none=>rw[e] at h;cases h
 | some u=>rw[e] at h;exact ⟨u,rfl,(BY h).symm⟩
theorem take_snoc{α:Type}{l:List α}{i:Nat}{x:α}(h:l[i]?=some x):l.take (i+1)=l.take i++[x]:=by rw[EI,h];rfl
theorem Iz(ms:List Int):(ms.map V.int).all flatV=true:=by
 rw[DH];intro x hx;obtain ⟨i,_,rfl⟩:=B6.mp hx;rfl
section
variable{P:AM}{w:AT}{K:Au}{mg:Str->Option Ap}{base:Heap}{f C:Addr}{fd:BV}
theorem ZG:FnScope ["numbers","some"] ["numbers","some"] (Ac Fo):=⟨rfl,rfl,rfl,by decide +kernel,rfl,by decide +kernel,by decide +kernel⟩
theorem Xe(F:Fun K "ties_within" "ties_within" Fo f fd):FnOk P w K mg base CX0 1 f fd ["numbers","some"] (RZ K):=by
 refine F.ok ZG (λvs H Q E h=>?_) (λcdv A outer s H vs Q E hr h=>?_)
 ·obtain ⟨l,so,ns,ms,rfl,_⟩:=h
  rfl
 obtain ⟨l,so,ns,ms,rfl,hl,hso,h12,q⟩:=h;refine ⟨_,Aj (Av (Ca (Ac Fo) ["number"] ["some"] [1] rfl rfl (by decide +kernel) ⟨⟨rfl,by decide +kernel⟩,trivial⟩ (Bx (pv 0))
   (λ_ _ _=>Am (i:=0) (show ((["number"]:List Str)++(["some"]:List Str)).Nodup by decide +kernel) rfl (BF rfl))
   (λ_ _ _=>Dj (Ar (Fp (K:=K) rfl) (pv 0) (pv 1) rfl))
   (λ_ _ _=>pv 0))),?_⟩
 refine ⟨_,rfl,l,rfl,⟨_,hl⟩,λD hD=>?_⟩;refine Cj (xs:=ns.map V.int) (λi τ H2=>∃n:Option V,τ=[n,some (.ref so)]/\Same H H2/\H2 D=some (.lst (((ns.take i).filter λk=>decide (k∈ms)).map V.int))) ⟨none,rfl,Same.new hD _,Ab⟩
  (λi τ H2 _ ⟨_,_,sm,_⟩=>sm.seq hl) ?_ ?_
 ·rintro i y τ H2 hy ⟨n,rfl,sm,hD2⟩
  obtain ⟨u,hu,rfl⟩:=int_at hy;refine ⟨_,rfl,_,rfl,so,ms.map V.int,rfl,hso.same sm,rfl,Iz ms,_,rfl,?_⟩;rw[if_neg (show ¬ (false=true) by decide),EY];show putD D _ _ _ (decide (u∈ms)) _;have ef:(ns.take (i+1)).filter (λk=>decide (k∈ms))=(ns.take i).filter (λk=>decide (k∈ms))++(if u∈ms then [u] else []):=by
   rw[take_snoc hu,Ex];by_cases c:u∈ms<;>simp[c]
  by_cases c:u∈ms
  ·refine iteP c ⟨_,rfl,_,hD2,?_,_,rfl,λb o e=>?_,?_⟩
   ·have:=EZ (λk=>decide (k∈ms)) (ns.take i)
    rw[Cc] at this;rw[AB];exact Ay (by lia)
   ·rw[Ag (Af e hD)]
    exact sm b o e
   ·rw[Ab,ef,if_pos c,B8]
    rfl
  ·refine iteN c ⟨_,rfl,sm,?_⟩
   rw[hD2,ef,if_neg c,CU]
 ·rintro τ H2 ⟨n,rfl,sm,hD2⟩
  rw[AB,DI] at hD2;exact q D H2 sm hD hD2
theorem AAR:FnScope ["web","some"] ["web","some"] (Ac Ft):=⟨rfl,rfl,rfl,by decide +kernel,rfl,by decide +kernel,by decide +kernel⟩
theorem YT{fS fA fW:Addr}{fdS fdA fdW:BV}(F:Fun K "tie_counts" "tie_counts" Ft f fd)(T:Txt K mg C)
  (GS:FnOk P w K mg base CX0 1 fS fdS ["self"] (PL K C)) (bS:Binds K fdS ["self"] []) (mS:Meth K C "size" fS)
  (GA:FnOk P w K mg base CX0 1 fA fdA ["self","point"] (ADe K C)) (bA:Binds K fdA ["self","point"] []) (mA:Meth K C "at" fA)
  (GW:FnOk P w K mg base CX0 1 fW fdW ["numbers","some"] (RZ K)) (bW:Binds K fdW ["numbers","some"] []) (kW:AI K (.ref fW)=true) (mW:mg "ties_within" = some (.ref fW)) :
  FnOk P w K mg base CX0 2 f fd ["web","some"] (Qv K C):=by
 refine F.ok AAR (λvs H Q E h=>?_) (λcdv A outer s H vs Q E hr h=>?_)
 ·obtain ⟨p,sm,z,as,ms,rfl,_⟩:=h
  rfl
 obtain ⟨p,so,z,as,ms,rfl,hW,hso,z1,z10,h12,q⟩:=h;refine ⟨_,Aj (Av (Ca (Ac Ft) ["point"] ["web","some"] [0,1] rfl rfl (by decide +kernel) ⟨⟨rfl,by decide +kernel⟩,⟨rfl,by decide +kernel⟩,trivial⟩ (Cp rfl T.range (Aa (Bo (pv 0) T.cl mS GS hr bS .nil pass0) Ad))
   (λ_ _ _=>Am (i:=0) (show ((["point"]:List Str)++(["web","some"]:List Str)).Nodup by decide +kernel) rfl (BF rfl))
   (λ_ _ _=>Ci)
   (λ_ _ _=>BK (HJ (K:=K) rfl) rfl T.len DT (Aa (BP GW hr rfl mW kW bW .nil pass0 (Aa (CJ (pv 1) T.cl mA GA hr bA .nil pass0 (Aa (pv 0) Ad)) (Aa (pv 2) Ad))) Ad)))),?_⟩
 obtain ⟨dx,j,hP,_⟩:=id hW;refine ⟨_,rfl,p,dx,_,rfl,hP,Ei _ _ (by decide +kernel) (by decide +kernel),p,z,_,rfl,hW,?_⟩;refine ⟨z,rfl,by lia,by lia,λD hD=>?_⟩;refine Cg (lo:=0) (n:=z.toNat) (λi τ H2=>∃(n:Option V),τ=[n,some (.ref p),some (.ref so)]/\Same H H2/\H2 D=some (.lst ((cnts as ms i).map V.int))) ⟨none,rfl,Same.new hD _,Ab⟩ ?_ ?_
 ·rintro i τ H2 hi ⟨n,rfl,s2,e2⟩
  have ei:(0:Int)+(i:Int)=(i:Int):=by lia
  rw[ei];refine yesN ?_;have hW2:=hW.same s2;obtain ⟨dx2,j2,hP2,_⟩:=id hW2;refine ⟨_,rfl,p,dx2,_,rfl,hP2,Ei _ _ (by decide +kernel) (by decide +kernel),_,rfl,p,z,_,as,rfl,hW2,h12,λl3 H3 s3 n3 e3=>?_⟩;have hl:=Hz (i:Int) 0 as;refine ⟨_,rfl,l3,so,hits (i:Int) as,ms,rfl,SqL.of e3,hso.same (s2.trans s3),CF hl h12,λD4 H4 s4 n4 e4=>?_⟩;refine ⟨D4,_,rfl,.inl (SqL.of e4),_,s4 _ _ (s3 _ _ e2),?_,_,rfl,λb o e=>?_,?_⟩
  ·rw[AB,Kp]
   exact Ay (by lia)
  ·rw[Ag (Af e hD)]
   exact s4 _ _ (s3 _ _ (s2 b o e))
  ·rw[Ab,AB]
   show _=some (HO.lst ((cnts as ms i++[(((hits (i:Int) as).filter λk=>decide (k∈ms)).length:Int)]).map V.int));rw[B8];rfl
 ·rintro τ H2 ⟨n,rfl,s2,e2⟩
  exact q D H2 s2 hD e2
end
end K53
end
section
namespace RT
open PySem
theorem noMul:fillsNumberSlot (.type "tuple") "mul" = pure false:=fillsNumberSlot_seq (id:="tuple.__mul__") (r:=some (.builtin "tuple.__rmul__")) IY.lookup (by decide +kernel) ON.lookup (by decide +kernel)
theorem reps:seqRepeat? (.type "tuple")=pure (some (.builtin "tuple.__mul__")):=by
 unfold seqRepeat?;rw[seqSlot_of (T:="tuple") (name:="__mul__") (id:="tuple.__mul__") IY.lookup (by decide +kernel),seqSlot_of (T:="tuple") (name:="__rmul__") (id:="tuple.__rmul__") ON.lookup (by decide +kernel)];rfl
theorem declines(a:Int)(t:Tok)(l:Addr)(c:Nat)(its:Array Ap)(dc:Option Addr)(sl:Array (Option Ap)) :
  Meets (Builtin.«int.__rmul__» ⟨[.int a t,.ref l],[]⟩) (λ_ R s=>s.heap.get? l=some {cls:=.type "tuple",dict:=dc,data:=.seq its c,slots:=sl}/\R (.ok (.ret L5)) s) :=
 .of_wp λP w A R s h=>by
  obtain ⟨hp,g,d,tk,os⟩:=s;obtain ⟨hl,h⟩:=h
  wp_walk
  exact ⟨_,rfl,h⟩
theorem times(l:Addr)(c:Nat)(its:List Ap)(dc:Option Addr)(sl:Array (Option Ap))(k:Int)(t:Tok)(k1:1<k)(k2:k<100)(ne:its≠[])(small:its.length<100) :
  Meets (Builtin.«tuple.__mul__» ⟨[.ref l,.int k t],[]⟩) (λ_ R s=>s.heap.get? l=some {cls:=.type "tuple",dict:=dc,data:=.seq its.toArray c,slots:=sl} /\
   R (.ok (.ret (.ref s.heap.objs.size))) {s with heap:=s.heap.push {cls:=.type "tuple",data:=.seq (BE k.toNat its).flatten.toArray}}) :=
 .of_wp λP w A R s h=>by
  obtain ⟨hp,g,d,tk,os⟩:=s;obtain ⟨hl,h⟩:=h;have ie:its.toArray.isEmpty=false:=by cases its with
   | nil=>exact absurd rfl ne
   | cons=>rfl
  have sz:its.toArray.size=its.length:=by simp
  have c1:¬ (decide (k < -2 ^ 63)||decide (k >= 2 ^ 63))=true:=by
   rw[decide_eq_false (by lia),decide_eq_false (by lia)];exact Be
  have c2:¬ (its.toArray.isEmpty||k==1)=true:=by
   rw[ie,VO];intro z;have:=eq_of_beq z;lia
  have c3:¬ (decide (k<=0)||its.toArray.isEmpty)=true:=by
   rw[ie,VS,decide_eq_false (by lia)];exact Be
  have le:(its.toArray.size:Int)*k<=100*100:=Int.mul_le_mul (by lia) (by lia) (by lia) (by decide);have c4:¬ (its.toArray.size:Int)*k>(2 ^ 63-1) / 8:=by lia
  have c5:¬ Kk ((its.toArray.size:Int)*k)=true:=by
   unfold Kk;intro z;have:=of_decide_eq_true z;have hs:(sizeLine:Nat)=16777216:=rfl;lia
  have fl:QE (λx1 x2=>x1++x2) #[] (BE k.toNat its.toArray)=(BE k.toNat its).flatten.toArray:=by
   have:=L2.foldl_rep its k.toNat [];rw[L8] at this;exact this
  have ln:(BE k.toNat its).flatten.length<=sizeLine:=by
   rw[L2.len_rep];have:k.toNat*its.length<=100*100:=U0 (by lia) (by lia);exact CF this (by decide)
  wp_walk
  rw[if_neg c1];refine As (K2 hl rfl ?_);show wpAny _ _ (if (its.toArray.isEmpty||k==1)=true then _ else _) _ _ _;rw[if_neg c2];show wpAny _ _ (if (decide (k<=0)||its.toArray.isEmpty)=true then _ else _) _ _ _;rw[if_neg c3];show wpAny _ _ (if (its.toArray.size:Int)*k>(2 ^ 63-1) / 8 then _ else _) _ _ _;rw[if_neg c4];show wpAny _ _ (if Kk ((its.toArray.size:Int)*k)=true then _ else _) _ _ _;rw[if_neg c5];show wpAny _ _ (DU _ >>= _) _ _ _;unfold DU;rw[fl];refine As (CH (hd:=?_) (wpAny_pure ⟨_,rfl,h⟩));show (BE k.toNat its).flatten.toArray.size<=sizeLine;rw[A9];exact ln
theorem once(l:Addr)(c:Nat)(its:List Ap)(dc:Option Addr)(sl:Array (Option Ap))(t:Tok) :
  Meets (Builtin.«tuple.__mul__» ⟨[.ref l,.int 1 t],[]⟩) (λ_ R s=>s.heap.get? l=some {cls:=.type "tuple",dict:=dc,data:=.seq its.toArray c,slots:=sl}/\R (.ok (.ret (.ref l))) s) :=
 .of_wp λP w A R s h=>by
  obtain ⟨hp,g,d,tk,os⟩:=s;obtain ⟨hl,h⟩:=h
  wp_walk
  exact ⟨_,rfl,h⟩
end RT
namespace L2
open PySem
section
variable{X:Cx}
def rRepT:R2:=λx y H Q=>∃l k xs,x=.ref l/\y=.int k/\H l=some (.tup xs)/\1<=k/\k<100/\xs≠[]/\xs.length<100 /\
 (k=1->Q (.ref l) H)/\(1<k->∀p,H p=none->Q (.ref p) (upd H p (.tup (BE k.toNat xs).flatten)))
theorem ABt:OpR X (IS .Mult) rRepT:=by
 intro pins s σ H x y v u Q I rx ry h;obtain ⟨l,k,xs,rfl,rfl,hH,h1,h2,ne,sm,q1,q2⟩:=h;cases rx;obtain ⟨t,rfl⟩:=ry;obtain ⟨z,its,r,⟨⟨oc,od,odt,osl⟩,e,hc,c,hd⟩⟩:=(show ObjOk X.prog X.w H s.heap l (.tup xs) from I.hok l _ hH);dsimp only at hc hd;subst hc hd;have lr:=r.length;have ne':its≠[]:=λz=>by rw[z] at lr;exact ne (Fs.mp (by simpa using lr))
 refine NS (T:="tuple") (U:="int") (by decide) ⟨_,e,rfl⟩ (λs'=>NR s' k t) RT.noMul PySem.F.fills_int_mul PU RT.reps PySem.F.slot_int_index.lookup
  (L7 PU (NR s k t) PySem.F.entry_int_rmul (PySem.F.args_int_rmul_2 _ _) (RT.declines k t l c its.toArray od osl) ⟨e,rfl,⟨_,e,rfl⟩,?_⟩)
 by_cases c1:k=1
 ·subst c1
  refine L7 IY ⟨_,e,rfl⟩ OO (OE _ _) (RT.once l c its od osl t) ⟨e,?_⟩;exact ⟨.ref l,H,I,rfl,q1 rfl⟩
 ·refine L7 IY ⟨_,e,rfl⟩ OO (OE _ _) (RT.times l c its od osl k t (by lia) h2 ne' (by lia)) ⟨e,?_⟩
  have hf:H s.heap.objs.size=none:=I.hok.fresh (AF _);refine ⟨.ref s.heap.objs.size,_,I.laid (t':=s.toks) (o:=.tup (BE k.toNat xs).flatten) (λb u e=>AD _ e) (AF _) ?_,rfl,q2 (by lia) _ hf⟩;refine ⟨?_,(BE k.toNat its).flatten,r.rep k.toNat,⟨_,AN _ rfl,rfl,_,rfl⟩⟩;rw[len_rep];have:k.toNat*xs.length<=100*100:=U0 (by lia) (by lia);exact CF this (by decide)
end
end L2
end
section
namespace G
abbrev Row:=Nat×Nat×Nat
def Low(rows:List Row)(t k l:Nat):Prop:=l<k/\(l<=1\/∃r,rows[l-2]?=some r/\t<r.1)
def Ok(n:Nat)(rows:List Row):Prop:=∀(i:Nat) (r:Row),rows[i]?=some r->r.1<n/\Low rows r.1 (i+2) r.2.1/\Low rows r.1 (i+2) r.2.2
structure Least(n:Nat)(rows:List Row):Prop where
 ok:Ok n rows
 pos:∀(i:Nat) (r:Row),rows[i]?=some r->r.2.2≠0
 one:∀(i j:Nat) (r:Row),rows[i]?=some r->rows[j]?=some r->i=j
def rank(n:Nat)(rows:List Row)(k:Nat):Nat:=if k<2 then n+1-k else (rows.getD (k-2) (0,0,0)).1
def ledF(rows:List Row):Nat->Nat->List Nat->Bool
 | 0,_,_=>false
 | f+1,k,s=>if k<=1 then decide (k=1/\s=[]) else
  let r:=rows.getD (k-2) (0,0,0)
  match s with
  | []=>ledF rows f r.2.1 []
  | x::xs=>if x<r.1 then false else if x=r.1 then ledF rows f r.2.2 xs else ledF rows f r.2.1 (x::xs)
def led(rows:List Row)(k:Nat)(s:List Nat):Bool:=ledF rows (k+1) k s
def Knot(rows:List Row)(k:Nat):Prop:=k<rows.length+2
section
variable{n:Nat}{rows:List Row}
theorem Bj{k:Nat}(h:Knot rows k)(h2:2<=k):rows[k-2]?=some (rows.getD (k-2) (0,0,0)):=by
 have:k-2<rows.length:=by unfold Knot at h;lia
 rw[AK this,AC,AK this];rfl
theorem Ok.low(o:Ok n rows){i:Nat}{r:Row}(h:rows[i]?=some r):r.1<n/\r.2.1<i+2/\r.2.2<i+2/\r.1<rank n rows r.2.1/\r.1<rank n rows r.2.2/\Knot rows r.2.1/\Knot rows r.2.2:=by
 obtain ⟨h1,h2,h3⟩:=o i r h;have hi:i<rows.length:=(AJ.mp h).1;have rk:∀l,Low rows r.1 (i+2) l->r.1<rank n rows l/\Knot rows l:=by
  intro l hl;obtain ⟨a,b⟩:=hl;refine ⟨?_,by unfold Knot;lia⟩;unfold rank;by_cases c:l<2
  ·rw[if_pos c];lia
  ·rw[if_neg c]
   rcases b with b | ⟨r',e,z⟩
   ·lia
   ·rw[AC,e];exact z
 exact ⟨h1,h2.1,h3.1,(rk _ h2).1,(rk _ h3).1,(rk _ h2).2,(rk _ h3).2⟩
theorem XS(o:Ok n rows):∀(f k:Nat) (s:List Nat),k<f->Knot rows k->ledF rows (f+1) k s=ledF rows f k s:=by
 intro f
 induction f with
 | zero=>intro k s h;lia
 | succ f ih =>
  intro k s hk kn;unfold ledF;by_cases c:k<=1
  ·rw[if_pos c,if_pos c]
  rw[if_neg c,if_neg c];obtain ⟨h1,h2,h3,_,_,k1,k2⟩:=o.low (Bj kn (by lia));have e1:∀s,ledF rows (f+1) (rows.getD (k-2) (0,0,0)).2.1 s=ledF rows f (rows.getD (k-2) (0,0,0)).2.1 s:=λs=>ih _ _ (by lia) k1;have e2:∀s,ledF rows (f+1) (rows.getD (k-2) (0,0,0)).2.2 s=ledF rows f (rows.getD (k-2) (0,0,0)).2.2 s:=λs=>ih _ _ (by lia) k2;cases s with
  | nil=>exact e1 _
  | cons x xs =>
   show (if _ then _ else if _ then ledF rows (f+1) _ _ else ledF rows (f+1) _ _)=_;rw[e1,e2]
theorem Jy(o:Ok n rows){k:Nat}(s:List Nat)(kn:Knot rows k):∀d,ledF rows (k+1+d) k s=led rows k s
 | 0=>rfl
 | d+1=>by rw[show k+1+(d+1)=(k+1+d)+1 by lia,XS o _ k s (by lia) kn,Jy o s kn d]
theorem Dy(s:List Nat):led rows 1 s=decide (s=[]):=by
 unfold led ledF;simp
theorem Cr(s:List Nat):led rows 0 s=false:=by
 unfold led ledF;simp
theorem Dq(o:Ok n rows){k:Nat}(kn:Knot rows k)(h2:2<=k):led rows k []=led rows (rows.getD (k-2) (0,0,0)).2.1 []:=by
 obtain ⟨h1,h2',h3,_,_,k1,k2⟩:=o.low (Bj kn h2);unfold led
 conv=>lhs;unfold ledF
 rw[if_neg (by lia)];have:=Jy o [] k1 (k-(rows.getD (k-2) (0,0,0)).2.1-1);rw[show (rows.getD (k-2) (0,0,0)).2.1+1+(k-(rows.getD (k-2) (0,0,0)).2.1-1)=k by lia] at this;exact this
theorem Bw(o:Ok n rows){k x:Nat}{xs:List Nat}(kn:Knot rows k)(h2:2<=k):led rows k (x::xs) =
  if x<(rows.getD (k-2) (0,0,0)).1 then false else if x=(rows.getD (k-2) (0,0,0)).1 then led rows (rows.getD (k-2) (0,0,0)).2.2 xs else led rows (rows.getD (k-2) (0,0,0)).2.1 (x::xs):=by
 obtain ⟨h1,h2',h3,_,_,k1,k2⟩:=o.low (Bj kn h2);unfold led
 conv=>lhs;unfold ledF
 rw[if_neg (by lia)];have e1:=Jy o (x::xs) k1 (k-(rows.getD (k-2) (0,0,0)).2.1-1);rw[show (rows.getD (k-2) (0,0,0)).2.1+1+(k-(rows.getD (k-2) (0,0,0)).2.1-1)=k by lia] at e1;have e2:=Jy o xs k2 (k-(rows.getD (k-2) (0,0,0)).2.2-1);rw[show (rows.getD (k-2) (0,0,0)).2.2+1+(k-(rows.getD (k-2) (0,0,0)).2.2-1)=k by lia] at e2;show (if _ then _ else if _ then ledF rows k _ _ else ledF rows k _ _)=_;rw[e1,e2];rfl
def Way(n:Nat)(rows:List Row)(k:Nat)(s:List Nat):Prop:=led rows k s=true/\s.Pairwise (· < ·)/\∀x∈s,x<n/\rank n rows k<=x
theorem Zb(L:Least n rows){k:Nat}{s:List Nat}(kn:Knot rows k)(h2:2<=k)(w:Way n rows (rows.getD (k-2) (0,0,0)).2.2 s):Way n rows k ((rows.getD (k-2) (0,0,0)).1::s):=by
 obtain ⟨w1,w2,w3⟩:=w;obtain ⟨h1,h2',h3,r1,r2,k1,k2⟩:=L.ok.low (Bj kn h2);have rk:rank n rows k=(rows.getD (k-2) (0,0,0)).1:=by unfold rank;rw[if_neg (by lia)]
 refine ⟨?_,?_,?_⟩
 ·rw[Bw L.ok kn h2,if_neg (by lia),if_pos rfl];exact w1
 ·exact R7 (λx hx=>by have:=(w3 x hx).2;lia) w2
 ·intro x hx
  rcases AX.mp hx with rfl | hx
  ·exact ⟨h1,by lia⟩
  ·have:=w3 x hx
   exact ⟨this.1,by lia⟩
theorem ABU:Way n rows 1 []:=⟨by rw[Dy];rfl,.nil,λx hx=>nomatch hx⟩
theorem off(o:Ok n rows){b x:Nat}{xs:List Nat}(kb:Knot rows b)(h:x<rank n rows b):led rows b (x::xs)=false:=by
 unfold rank at h;by_cases c:b<2
 ·have hb:b=0\/b=1:=by lia
  rcases hb with rfl | rfl
  ·exact Cr _
  ·rw[Dy];rfl
 ·rw[if_neg c] at h
  rw[Bw o kb (by lia),if_pos h]
end
section
variable{n t:Nat}{rows nums new:List Row}{rc:List Nat}{pl pl':Nat->Option Nat}
def tieOf(rows:List Row)(k:Nat):Nat:=(rows.getD (k-2) (0,0,0)).1
def outOf(rows:List Row)(k:Nat):Nat:=(rows.getD (k-2) (0,0,0)).2.1
def intoOf(rows:List Row)(k:Nat):Nat:=(rows.getD (k-2) (0,0,0)).2.2
structure Closed(rows:List Row)(rc:List Nat):Prop where
 two:∀k∈rc,2<=k
 knot:∀k∈rc,Knot rows k
 out:∀k∈rc,outOf rows k<=1\/outOf rows k∈rc
 into:∀k∈rc,intoOf rows k<=1\/intoOf rows k∈rc
structure Kept(n t:Nat)(rows:List Row)(rc:List Nat)(nums:List Row)(pl:Nat->Option Nat):Prop where
 least:Least n nums
 ge:∀r∈nums,t<=r.1
 z:pl 0=some 0
 o:pl 1=some 1
 has:∀k∈rc,t<=tieOf rows k->∃p,pl k=some p/\Knot nums p/\tieOf rows k<=rank n nums p
theorem XJ(hn:∀k∈rc,tieOf rows k<n):Kept n n rows rc [] (λk=>if k=0 then some 0 else if k=1 then some 1 else none) :=
 ⟨⟨λi r h=>by simp at h,λi r h=>by simp at h,λi j r h=>by simp at h⟩,λr h=>(nomatch h),rfl,rfl,λk hk h=>absurd (hn k hk) (by lia)⟩
theorem Ls{p:Nat}(h:Knot nums p):rank n (nums++new) p=rank n nums p:=by
 unfold rank;by_cases c:p<2
 ·rw[if_pos c,if_pos c]
 ·rw[if_neg c,if_neg c,AC,AC,A2 (by unfold Knot at h;lia)]
theorem GX{p:Nat}(h:Knot nums p):Knot (nums++new) p:=by unfold Knot at *;rw[By];lia
theorem Kept.low(I:Kept n (t+1) rows rc nums pl)(o:Ok n rows)(hn:t<n){l:Nat}(h:l<=1\/l∈rc)(z:l<=1\/t<tieOf rows l):∃p,pl l=some p/\Knot nums p/\t<rank n nums p:=by
 rcases C4 l 2 with c | c
 ·have e:l=0\/l=1:=by lia
  rcases e with rfl | rfl
  ·exact ⟨0,I.z,by unfold Knot;lia,by unfold rank;rw[if_pos (by decide)];lia⟩
  ·exact ⟨1,I.o,by unfold Knot;lia,by unfold rank;rw[if_pos (by decide)];lia⟩
 ·have hr:l∈rc:=h.resolve_left (by lia)
  have hz:t<tieOf rows l:=z.resolve_left (by lia);obtain ⟨p,h1,h2,h3⟩:=I.has l hr hz;exact ⟨p,h1,h2,by lia⟩
def rowIn(rows:List Row)(pl:Nat->Option Nat)(k:Nat):Row:=(tieOf rows k,(pl (outOf rows k)).getD 0,(pl (intoOf rows k)).getD 0)
theorem Closed.low(c:Closed rows rc)(o:Ok n rows){k:Nat}(h:k∈rc):tieOf rows k<n/\(outOf rows k<=1\/tieOf rows k<tieOf rows (outOf rows k))/\(intoOf rows k<=1\/tieOf rows k<tieOf rows (intoOf rows k)):=by
 obtain ⟨h1,h2,h3⟩:=o _ _ (Bj (c.knot k h) (c.two k h));refine ⟨h1,h2.2.imp id λ⟨r,e,z⟩=>?_,h3.2.imp id λ⟨r,e,z⟩=>?_⟩
 ·show (rows.getD (k-2) (0,0,0)).1<(rows.getD ((rows.getD (k-2) (0,0,0)).2.1-2) (0,0,0)).1
  rw[AC (l:=rows) (i:=(rows.getD (k-2) (0,0,0)).2.1-2),e];exact z
 ·show (rows.getD (k-2) (0,0,0)).1<(rows.getD ((rows.getD (k-2) (0,0,0)).2.2-2) (0,0,0)).1
  rw[AC (l:=rows) (i:=(rows.getD (k-2) (0,0,0)).2.2-2),e];exact z
theorem Kept.row(I:Kept n (t+1) rows rc nums pl)(c:Closed rows rc)(o:Ok n rows)(hn:t<n){k:Nat}(h:k∈rc)(ht:tieOf rows k=t) :
  ∃a b,pl (outOf rows k)=some a/\pl (intoOf rows k)=some b/\rowIn rows pl k=(t,a,b)/\Knot nums a/\Knot nums b/\t<rank n nums a/\t<rank n nums b:=by
 obtain ⟨_,z1,z2⟩:=c.low o h;obtain ⟨a,a1,a2,a3⟩:=I.low o hn (c.out k h) (by rw[<- ht];exact z1);obtain ⟨b,b1,b2,b3⟩:=I.low o hn (c.into k h) (by rw[<- ht];exact z2);exact ⟨a,b,a1,b1,by unfold rowIn;rw[a1,b1,ht];rfl,a2,b2,a3,b3⟩
theorem Zz{p k:Nat}(h:Knot nums p)(hk:nums.length+2<=k)(z:t<rank n nums p):Low (nums++new) t k p:=by
 refine ⟨by unfold Knot at h;lia,?_⟩;rcases C4 p 2 with c | c
 ·exact .inl (by lia)
 ·refine .inr ⟨nums.getD (p-2) (0,0,0),?_,?_⟩
  ·rw[A2 (by unfold Knot at h;lia)]
   exact Bj h c
  ·unfold rank at z
   rw[if_neg (by lia)] at z;exact z
theorem Kept.step(I:Kept n (t+1) rows rc nums pl)(c:Closed rows rc)(o:Ok n rows)(hn:t<n)(hw:∀r,r∈new->∃k,k∈rc/\tieOf rows k=t/\r=rowIn rows pl k/\r.2.2≠0)(nd:new.Nodup)
  (h1:∀k,k∉rc\/tieOf rows k≠t->pl' k=pl k)
  (h2:∀k∈rc,tieOf rows k=t->∃p,pl' k=some p/\((∃i,(nums++new)[i]?=some (rowIn rows pl k)/\p=i+2)\/(rowIn rows pl k∉nums++new/\p=(rowIn rows pl k).2.1))) :
  Kept n t rows rc (nums++new) pl':=by
 have at_new:∀(i:Nat) (r:Row),nums.length<=i->(nums++new)[i]?=some r->new[i-nums.length]?=some r:=λi r hi e=>by rw[Cs hi] at e;exact e
 have at_old:∀(i:Nat) (r:Row),i<nums.length->(nums++new)[i]?=some r->nums[i]?=some r:=λi r hi e=>by rw[A2 hi] at e;exact e
 have tn:∀r∈new,∃a b,r=(t,a,b)/\b≠0/\Knot nums a/\Knot nums b/\t<rank n nums a/\t<rank n nums b:=λr hr=>by
  obtain ⟨k,k1,k2,k3,k4⟩:=hw r hr;obtain ⟨a,b,_,_,e,x1,x2,x3,x4⟩:=I.row c o hn k1 k2;rw[e] at k3;refine ⟨a,b,k3,?_,x1,x2,x3,x4⟩;rw[k3] at k4;exact k4
 have two:∀k∈rc,k≠0/\k≠1:=λk hk=>by have:=c.two k hk;lia
 refine ⟨⟨?_,?_,?_⟩,?_,?_,?_,?_⟩
 ·intro i r e
  rcases C4 i nums.length with hi | hi
  ·obtain ⟨z1,z2,z3⟩:=I.least.ok i r (at_old i r hi e)
   refine ⟨z1,⟨z2.1,z2.2.imp id λ⟨q,e,z⟩=>⟨q,?_,z⟩⟩,⟨z3.1,z3.2.imp id λ⟨q,e,z⟩=>⟨q,?_,z⟩⟩⟩
   ·rw[A2 (by have:=(AJ.mp e).1;lia)];exact e
   ·rw[A2 (by have:=(AJ.mp e).1;lia)];exact e
  ·obtain ⟨a,b,rfl,_,x1,x2,x3,x4⟩:=tn r (BH (at_new i r hi e))
   exact ⟨hn,Zz x1 (by lia) x3,Zz x2 (by lia) x4⟩
 ·intro i r e
  rcases C4 i nums.length with hi | hi
  ·exact I.least.pos i r (at_old i r hi e)
  ·obtain ⟨a,b,rfl,x,_⟩:=tn r (BH (at_new i r hi e))
   exact x
 ·intro i j r e1 e2
  have cross:∀(i j:Nat),i<nums.length->nums.length<=j->(nums++new)[i]?=some r->(nums++new)[j]?=some r->False:=λi j hi hj e1 e2=>by
   have g:=I.ge r (BH (at_old i r hi e1));obtain ⟨a,b,rfl,_⟩:=tn r (BH (at_new j r hj e2));have g':t+1<=t:=g;lia
  rcases C4 i nums.length with hi | hi
  ·rcases C4 j nums.length with hj | hj
   ·exact I.least.one i j r (at_old i r hi e1) (at_old j r hj e2)
   ·exact (cross i j hi hj e1 e2).elim
  ·rcases C4 j nums.length with hj | hj
   ·exact (cross j i hj hi e2 e1).elim
   ·have a1:=at_new i r hi e1
    have a2:=at_new j r hj e2;have:=(Lu (AJ.mp a1).1 nd).mp (a1.trans a2.symm);lia
 ·intro r hr
  rcases Co.mp hr with hr | hr
  ·have:=I.ge r hr;lia
  ·obtain ⟨a,b,rfl,_⟩:=tn r hr
   exact AF t
 ·rw[h1 0 (.inl λh=>(two 0 h).1 rfl)];exact I.z
 ·rw[h1 1 (.inl λh=>(two 1 h).2 rfl)];exact I.o
 ·intro k hk hk2
  by_cases e:tieOf rows k=t
  ·obtain ⟨p,p1,p2⟩:=h2 k hk e
   refine ⟨p,p1,?_⟩;obtain ⟨a,b,_,_,re,x1,x2,x3,x4⟩:=I.row c o hn hk e;rcases p2 with⟨i,i1,rfl⟩ | ⟨i1,rfl⟩
   ·have il:=(AJ.mp i1).1
    refine ⟨by unfold Knot;lia,?_⟩;unfold rank;rw[if_neg (by lia),DS,AC,i1,re];show tieOf rows k<=t;lia
   ·rw[re]
    refine ⟨GX x1,?_⟩;rw[Ls x1,e];exact De x3
  ·obtain ⟨p,p1,p2,p3⟩:=I.has k hk (by lia)
   exact ⟨p,by rw[h1 k (.inr e)];exact p1,GX p2,by rw[Ls p2];exact p3⟩
end
section
variable{n lo d t k1 k2 m1 m2 m:Nat}{ss:List (List Int)}{rows more more1 more2:List Row}
theorem Jt{l k:Nat}(h:Low rows t k l):Low (rows++more) t k l:=⟨h.1,h.2.imp id λ⟨q,e,z⟩=>⟨q,by rw[A2 (AJ.mp e).1];exact e,z⟩⟩
theorem AEU(o:Ok n rows)(ht:t<n)(h1:Low rows t (rows.length+2) k1)(h2:Low rows t (rows.length+2) k2):Ok n (rows++[(t,k1,k2)]):=by
 intro j r e;rcases C4 j rows.length with c | c
 ·rw[A2 c] at e
  obtain ⟨z1,z2,z3⟩:=o j r e;exact ⟨z1,Jt z2,Jt z3⟩
 ·rw[Cs c] at e
  have j0:j=rows.length:=by
   have:=(AJ.mp e).1;simp at this;lia
  subst j0;rw[Iy] at e;cases e;exact ⟨ht,Jt h1,Jt h2⟩
theorem Qi{k:Nat}(kn:Knot rows k)(up:k<=1\/t+1<=tieOf rows k):Low rows t (rows.length+2) k:=by
 refine ⟨kn,?_⟩;rcases C4 k 2 with c | c
 ·exact .inl (by lia)
 ·exact .inr ⟨_,Bj kn c,by have:=up.resolve_left (by lia);unfold tieOf at this;lia⟩
theorem ACm{k:Nat}(kn:Knot rows k)(h2:2<=k):tieOf (rows++more) k=tieOf rows k:=by
 unfold tieOf;rw[AC,AC,A2 (by unfold Knot at kn;lia)]
end
section
variable{n t:Nat}{rows nums new more:List Row}{rc:List Nat}{pl pl':Nat->Option Nat}
theorem AAQ(o:Ok n rows):∀(f k:Nat) (s:List Nat),Knot rows k->ledF (rows++more) f k s=ledF rows f k s:=by
 intro f
 induction f with
 | zero=>intro k s h;rfl
 | succ f ih =>
  intro k s kn;unfold ledF;by_cases c:k<=1
  ·rw[if_pos c,if_pos c]
  rw[if_neg c,if_neg c];have eg:(rows++more).getD (k-2) (0,0,0)=rows.getD (k-2) (0,0,0):=by
   rw[AC,AC,A2 (by unfold Knot at kn;lia)]
  obtain ⟨h1,h2,h3,_,_,k1,k2⟩:=o.low (Bj kn (by lia));rw[eg];cases s with
  | nil=>exact ih _ _ k1
  | cons x xs =>
   show (if _ then _ else if _ then ledF (rows++more) f _ _ else ledF (rows++more) f _ _)=_;rw[ih _ _ k1,ih _ _ k2]
theorem Dd(o:Ok n rows){k:Nat}(s:List Nat)(kn:Knot rows k):led (rows++more) k s=led rows k s:=AAQ o _ _ _ kn
def RowLt(a b:Row):Prop:=b.1<a.1\/(a.1=b.1/\(a.2.1<b.2.1\/(a.2.1=b.2.1/\a.2.2<b.2.2)))
structure Kept2(n t:Nat)(rows:List Row)(rc:List Nat)(nums:List Row)(pl:Nat->Option Nat):Prop where
 base:Kept n t rows rc nums pl
 sem:∀k∈rc,t<=tieOf rows k->∀p,pl k=some p->∀s,led nums p s=led rows k s
 img:∀k∈rc,t<=tieOf rows k->∀p,pl k=some p->(2<=p/\nums[p-2]?=some (rowIn rows pl k))\/((rowIn rows pl k).2.2=0/\p=(rowIn rows pl k).2.1)
 sur:∀(i:Nat) (r:Row),nums[i]?=some r->∃k∈rc,t<=tieOf rows k/\pl k=some (i+2)
 srt:nums.Pairwise RowLt
theorem Tv(hn:∀k∈rc,tieOf rows k<n):Kept2 n n rows rc [] (λk=>if k=0 then some 0 else if k=1 then some 1 else none) :=
 ⟨XJ hn,λk hk h=>absurd (hn k hk) (by lia),λk hk h=>absurd (hn k hk) (by lia),λi r h=>by simp at h,.nil⟩
theorem VD(c:Closed rows rc)(o:Ok n rows)(h1:∀k,k∉rc\/tieOf rows k≠t->pl' k=pl k){k:Nat}(hk:k∈rc)(ht:t<=tieOf rows k):rowIn rows pl' k=rowIn rows pl k:=by
 have two:∀k,k<=1->k∉rc:=λk h z=>by have:=c.two k z;lia
 obtain ⟨_,z1,z2⟩:=c.low o hk;have e1:pl' (outOf rows k)=pl (outOf rows k):=by
  rcases z1 with z | z
  ·exact h1 _ (.inl (two _ z))
  ·exact h1 _ (.inr (by lia))
 have e2:pl' (intoOf rows k)=pl (intoOf rows k):=by
  rcases z2 with z | z
  ·exact h1 _ (.inl (two _ z))
  ·exact h1 _ (.inr (by lia))
 unfold rowIn;rw[e1,e2]
theorem Kept2.low(I:Kept2 n (t+1) rows rc nums pl){l p:Nat}(h:l<=1\/l∈rc)(z:l<=1\/t<tieOf rows l)(hp:pl l=some p)(s:List Nat):led nums p s=led rows l s:=by
 rcases C4 l 2 with c | c
 ·have e:l=0\/l=1:=by lia
  rcases e with rfl | rfl
  ·rw[I.base.z] at hp
   cases hp;rw[Cr,Cr]
  ·rw[I.base.o] at hp
   cases hp;rw[Dy,Dy]
 ·exact I.sem l (h.resolve_left (by lia)) (z.resolve_left (by lia)) p hp s
theorem Kept2.step(I:Kept2 n (t+1) rows rc nums pl)(c:Closed rows rc)(o:Ok n rows)(hn:t<n)(hw:∀r,r∈new->∃k,k∈rc/\tieOf rows k=t/\r=rowIn rows pl k/\r.2.2≠0)(nd:new.Nodup)
  (hw2:∀k∈rc,tieOf rows k=t->(rowIn rows pl k).2.2≠0->rowIn rows pl k∈new) (so:new.Pairwise RowLt)
  (h1:∀k,k∉rc\/tieOf rows k≠t->pl' k=pl k)
  (h2:∀k∈rc,tieOf rows k=t->∃p,pl' k=some p/\((∃i,(nums++new)[i]?=some (rowIn rows pl k)/\p=i+2)\/(rowIn rows pl k∉nums++new/\p=(rowIn rows pl k).2.1))) :
  Kept2 n t rows rc (nums++new) pl':=by
 have B:=I.base.step c o hn hw nd h1 h2;have okN:=I.base.least.ok;have at_:∀k∈rc,tieOf rows k=t->∀p,pl' k=some p->(∃i,(nums++new)[i]?=some (rowIn rows pl k)/\p=i+2)\/((rowIn rows pl k).2.2=0/\p=(rowIn rows pl k).2.1):=λk hk ht p hp=>by
  obtain ⟨p',e,h⟩:=h2 k hk ht;rw[hp] at e;cases e;rcases h with h | ⟨nm,e⟩
  ·exact .inl h
  ·refine .inr ⟨?_,e⟩
   rcases Sj (rowIn rows pl k).2.2 with z | z
   ·exact z
   ·exact absurd (BS _ (hw2 k hk ht (by lia))) nm
 have old:∀k∈rc,t+1<=tieOf rows k->∀p,pl' k=some p->pl k=some p:=λk hk ht p hp=>by rw[h1 k (.inr (by lia))] at hp;exact hp
 refine ⟨B,λk hk ht p hp s=>?_,λk hk ht p hp=>?_,λi r e=>?_,?_⟩
 ·by_cases e:tieOf rows k=t
  ·obtain ⟨a,b,ea,eb,re,x1,x2,x3,x4⟩:=I.base.row c o hn hk e
   obtain ⟨_,z1,z2⟩:=c.low o hk;have la:∀s,led nums a s=led rows (outOf rows k) s:=I.low (c.out k hk) (by rw[<- e];exact z1) ea;have lb:∀s,led nums b s=led rows (intoOf rows k) s:=I.low (c.into k hk) (by rw[<- e];exact z2) eb;have kk:=c.knot k hk;have k2:=c.two k hk;have et:(rows.getD (k-2) (0,0,0)).1=t:=e;rcases at_ k hk e p hp with⟨i,hi,rfl⟩ | ⟨w0,rfl⟩
   ·have il:=(AJ.mp hi).1
    have kp:Knot (nums++new) (i+2):=by unfold Knot;lia
    have eg:(nums++new).getD (i+2-2) (0,0,0)=(t,a,b):=by rw[DS,AC,hi,re];rfl
    cases s with
    | nil =>
     rw[Dq B.least.ok kp (by lia),eg,Dq o kk k2];show led (nums++new) a []=_;rw[Dd okN [] x1];exact la []
    | cons x xs =>
     rw[Bw B.least.ok kp (by lia),eg,Bw o kk k2,et];show (if x<t then false else if x=t then led (nums++new) b xs else led (nums++new) a (x::xs))=_;rw[Dd okN _ x1,Dd okN _ x2,la,lb];rfl
   ·rw[re] at w0
    have b0:b=0:=w0;rw[re];show led (nums++new) a s=_;rw[Dd okN _ x1,la];have into0:∀s,led rows (intoOf rows k) s=false:=λs=>by rw[<- lb,b0,Cr]
    have offA:∀x xs,x<=t->led rows (outOf rows k) (x::xs)=false:=λx xs h=>by rw[<- la];exact off okN x1 (by lia)
    cases s with
    | nil=>rw[Dq o kk k2];rfl
    | cons x xs =>
     rw[Bw o kk k2,et];by_cases c1:x<t
     ·rw[if_pos c1];exact offA x xs (by lia)
     ·rw[if_neg c1]
      by_cases c2:x=t
      ·rw[if_pos c2]
       show _=led rows (intoOf rows k) xs;rw[into0];exact offA x xs (by lia)
      ·rw[if_neg c2];rfl
  ·have hp':=old k hk (by lia) p hp
   obtain ⟨p',e1,e2,_⟩:=I.base.has k hk (by lia);rw[hp'] at e1;cases e1;rw[Dd okN s e2];exact I.sem k hk (by lia) p hp' s
 ·rw[VD c o h1 hk ht]
  by_cases e:tieOf rows k=t
  ·rcases at_ k hk e p hp with⟨i,hi,rfl⟩ | h
   ·exact .inl ⟨by lia,hi⟩
   ·exact .inr h
  ·rcases I.img k hk (by lia) p (old k hk (by lia) p hp) with⟨h2,h3⟩ | h
   ·refine .inl ⟨h2,?_⟩
    rw[A2 (AJ.mp h3).1];exact h3
   ·exact .inr h
 ·rcases C4 i nums.length with hi | hi
  ·rw[A2 hi] at e
   obtain ⟨k,hk,ht,hp⟩:=I.sur i r e;exact ⟨k,hk,by lia,by rw[h1 k (.inr (by lia))];exact hp⟩
  ·have e':=e
   rw[Cs hi] at e';obtain ⟨k,hk,ht,rfl,w0⟩:=hw r (BH e');obtain ⟨p,hp,h⟩:=h2 k hk ht;refine ⟨k,hk,by lia,?_⟩;rcases h with⟨j,hj,rfl⟩ | ⟨nm,_⟩
   ·rw[B.least.one i j _ e hj]
    exact hp
   ·exact absurd (BH e) nm
 ·refine C5.mpr ⟨I.srt,so,λa ha b hb=>.inl ?_⟩
  have:=I.base.ge a ha;obtain ⟨k,_,hk,rfl,_⟩:=hw b hb;show tieOf rows k<a.1;lia
structure Canon(n:Nat)(nums:List Row)(top:Nat):Prop where
 least:Least n nums
 srt:nums.Pairwise RowLt
 knot:Knot nums top
 led:∀p,2<=p->Knot nums p->p=top\/∃r∈nums,r.2.1=p\/r.2.2=p
theorem Kept2.canon(I:Kept2 n 0 rows rc nums pl)(c:Closed rows rc)(o:Ok n rows){top hd:Nat}(ht:top<=1\/top∈rc)(hp:pl top=some hd)(par:∀k∈rc,k=top\/∃k'∈rc,k<k'/\(outOf rows k'=k\/intoOf rows k'=k)) :
  Canon n nums hd/\∀s,led nums hd s=led rows top s:=by
 have key:∀d k p,k∈rc->rows.length+2-k<=d->pl k=some p->2<=p->p=hd\/∃r∈nums,r.2.1=p\/r.2.2=p:=by
  intro d
  induction d with
  | zero =>
   intro k p hk hd' _ _;have:=c.knot k hk;unfold Knot at this;lia
  | succ d ih =>
   intro k p hk hd' hkp p2;rcases par k hk with rfl | ⟨k',hk',lt,ch⟩
   ·rw[hp] at hkp
    exact .inl (BY hkp).symm
   ·obtain ⟨p',hp',_⟩:=I.base.has k' hk' (Bi _)
    have im:=I.img k' hk' (Bi _) p' hp';rcases ch with e | e
    ·have ep:(rowIn rows pl k').2.1=p:=by
      show (pl (outOf rows k')).getD 0=p;rw[e,hkp];rfl
     rcases im with⟨_,h3⟩ | ⟨_,h4⟩
     ·exact .inr ⟨_,BH h3,.inl ep⟩
     ·rw[ep] at h4
      subst h4;have:=c.knot k' hk';unfold Knot at this;exact ih k' p' hk' (by lia) hp' p2
    ·have ep:(rowIn rows pl k').2.2=p:=by
      show (pl (intoOf rows k')).getD 0=p;rw[e,hkp];rfl
     rcases im with⟨_,h3⟩ | ⟨h4,_⟩
     ·exact .inr ⟨_,BH h3,.inr ep⟩
     ·lia
 refine ⟨⟨I.base.least,I.srt,?_,λp p2 kp=>?_⟩,λs=>?_⟩
 ·rcases ht with h | h
  ·have:top=0\/top=1:=by lia
   rcases this with rfl | rfl
   ·rw[I.base.z] at hp;cases hp;unfold Knot;lia
   ·rw[I.base.o] at hp;cases hp;unfold Knot;lia
  ·obtain ⟨p,e,kn,_⟩:=I.base.has top h (Bi _)
   rw[hp] at e;cases e;exact kn
 ·obtain ⟨k,hk,_,hkp⟩:=I.sur (p-2) _ (Bj kp p2)
  rw[show p-2+2=p by lia] at hkp;exact key _ k p hk (AF _) hkp p2
 ·rcases ht with h | h
  ·have:top=0\/top=1:=by lia
   rcases this with rfl | rfl
   ·rw[I.base.z] at hp;cases hp;rw[Cr,Cr]
   ·rw[I.base.o] at hp;cases hp;rw[Dy,Dy]
  ·exact I.sem top h (Bi _) hd hp s
end
theorem Kg{α:Type}{R:α->α->Prop}(as:∀a b,R a b->R b a->False):∀{l m:List α},l.Pairwise R->m.Pairwise R->(∀x,x∈l↔x∈m)->l=m
 | [],[],_,_,_=>rfl
 | [],b::m,_,_,h=>absurd ((h b).mpr AG) (λz=>nomatch z)
 | a::l,[],_,_,h=>absurd ((h a).mp AG) (λz=>nomatch z)
 | a::l,b::m,hl,hm,h=>by
  obtain ⟨l1,l2⟩:=CI.mp hl;obtain ⟨m1,m2⟩:=CI.mp hm;have e:a=b:=by
   rcases AX.mp ((h a).mp AG) with e | e
   ·exact e
   ·rcases AX.mp ((h b).mpr AG) with e' | e'
    ·exact e'.symm
    ·exact (as _ _ (m1 a e) (l1 b e')).elim
  subst e
  congr 1
  refine Kg as l2 m2 λx=>⟨λhx=>?_,λhx=>?_⟩
  ·rcases AX.mp ((h x).mp (AH _ hx)) with e | e
   ·rw[e] at hx;exact (as _ _ (l1 a hx) (l1 a hx)).elim
   ·exact e
  ·rcases AX.mp ((h x).mpr (AH _ hx)) with e | e
   ·rw[e] at hx;exact (as _ _ (m1 a hx) (m1 a hx)).elim
   ·exact e
theorem RV(a b:Row)(h:RowLt a b)(k:RowLt b a):False:=by
 unfold RowLt at h k;lia
theorem Gz(t:Nat):∀{A:List Row},A.Pairwise RowLt->A=A.filter (λr=>decide (t<=r.1))++A.filter (λr=>!decide (t<=r.1))
 | [],_=>rfl
 | a::l,h=>by
  obtain ⟨h1,h2⟩:=CI.mp h;by_cases c:t<=a.1
  ·rw[DV,DV,if_pos (by simpa using c),if_neg (by simpa using c),OB,<- Gz t h2]
  ·have z:∀r∈l,¬ t<=r.1:=λr hr=>by
    have:=h1 r hr;unfold RowLt at this;lia
   have e1:l.filter (λr=>decide (t<=r.1))=[]:=IZ.mpr λr hr=>by simpa using z r hr
   have e2:l.filter (λr=>!decide (t<=r.1))=l:=List.filter_eq_self.mpr λr hr=>by simpa using z r hr
   rw[DV,DV,if_neg (by simpa using c),if_pos (by simpa using c),e1,e2];rfl
section
variable{n:Nat}{A B:List Row}{a b k k':Nat}
theorem Lj(L:Least n A):∀(f k:Nat),k<f->Knot A k->k≠0->∃s,Way n A k s/\(2<=k->∃xs,s=rank n A k::xs)/\(k=1->s=[])
 | 0,k,h,_,_=>by lia
 | f+1,k,h,kn,k0=>by
  rcases C4 k 2 with c | c
  ·have e:k=1:=by lia
   subst e;exact ⟨[],ABU,λz=>by lia,λ_=>rfl⟩
  ·obtain ⟨_,_,h3,_,_,_,k2⟩:=L.ok.low (Bj kn c)
   have w0:=L.pos _ _ (Bj kn c);obtain ⟨s,hs,_⟩:=Lj L f _ (by lia) k2 w0;refine ⟨_,Zb L kn c hs,λ_=>⟨s,?_⟩,λz=>by lia⟩;unfold rank;rw[if_neg (by lia)]
structure Sim(A B:List Row)(k k':Nat):Prop where
 ka:Knot A k
 kb:Knot B k'
 eq:∀s,led A k s=led B k' s
theorem Sim.symm(S:Sim A B k k'):Sim B A k' k:=⟨S.kb,S.ka,λs=>(S.eq s).symm⟩
theorem Sim.no(LA:Least n A)(LB:Least n B)(S:Sim A B k k'):¬ rank n A k<rank n B k':=λh=>by
 have k0:k≠0:=λe=>by
  subst e;have:rank n B k'<=n+1:=by
   unfold rank;by_cases c:k'<2
   ·rw[if_pos c];lia
   ·rw[if_neg c]
    have:=(LB.ok.low (Bj S.kb (by lia))).1;lia
  have e:rank n A 0=n+1:=by unfold rank;rw[if_pos (by decide)];rfl
  lia
 obtain ⟨s,⟨w1,_,_⟩,s2,s1⟩:=Lj LA _ k (EB _) S.ka k0;rcases C4 k 2 with c | c
 ·have e:k=1:=by lia
  subst e;rw[s1 rfl,S.eq] at w1;have e1:rank n A 1=n:=by unfold rank;rw[if_pos (by decide)];rfl
  have k1:k'=0:=by
   unfold rank at h e1;rw[e1] at h;by_cases c':k'<2
   ·rw[if_pos c'] at h;lia
   ·rw[if_neg c'] at h
    have:=(LB.ok.low (Bj S.kb (by lia))).1;lia
  rw[k1,Cr] at w1;cases w1
 ·obtain ⟨xs,rfl⟩:=s2 c
  rw[S.eq,off LB.ok S.kb h] at w1;cases w1
theorem Sim.rank_eq(LA:Least n A)(LB:Least n B)(S:Sim A B k k'):rank n A k=rank n B k':=by
 have h1:=S.no LA LB;have h2:=S.symm.no LB LA;lia
theorem Fy(L:Least n A)(kn:Knot A k):2<=k↔rank n A k<n:=by
 unfold rank;constructor
 ·intro h
  rw[if_neg (by lia)];exact (L.ok.low (Bj kn h)).1
 ·intro h
  rcases C4 k 2 with c | c
  ·rw[if_pos c] at h;lia
  ·exact c
theorem Sim.small(LA:Least n A)(LB:Least n B)(S:Sim A B k k')(h:k<=1):k=k':=by
 have e:=S.rank_eq LA LB;have z:=Fy LA S.ka;have z':=Fy LB S.kb;have:¬ 2<=k':=λc=>by have:=z'.mp c;rw[<- e] at this;have:=z.mpr this;lia
 unfold rank at e;rw[if_pos (by lia),if_pos (by lia)] at e;lia
theorem Sim.child(LA:Least n A)(LB:Least n B)(S:Sim A B k k')(h:2<=k):2<=k'/\tieOf A k=tieOf B k'/\Sim A B (outOf A k) (outOf B k')/\Sim A B (intoOf A k) (intoOf B k'):=by
 have e:=S.rank_eq LA LB;have k2:2<=k':=(Fy LB S.kb).mpr (by rw[<- e];exact (Fy LA S.ka).mp h);have et:tieOf A k=tieOf B k':=by
  unfold rank at e;rw[if_neg (by lia),if_neg (by lia)] at e;exact e
 obtain ⟨_,_,_,ra,_,ka1,ka2⟩:=LA.ok.low (Bj S.ka h);obtain ⟨_,_,_,rb,_,kb1,kb2⟩:=LB.ok.low (Bj S.kb k2);refine ⟨k2,et,⟨ka1,kb1,λs=>?_⟩,⟨ka2,kb2,λs=>?_⟩⟩
 ·cases s with
  | nil =>
   have:=S.eq [];rw[Dq LA.ok S.ka h,Dq LB.ok S.kb k2] at this;exact this
  | cons x xs =>
   by_cases c:x<=tieOf A k
   ·rw[show led A (outOf A k) (x::xs)=false from off LA.ok ka1 (by show x<rank n A (A.getD (k-2) (0,0,0)).2.1;unfold tieOf at c;lia),show led B (outOf B k') (x::xs)=false from off LB.ok kb1 (by show x<rank n B (B.getD (k'-2) (0,0,0)).2.1;unfold tieOf at c et;lia)]
   ·have:=S.eq (x::xs)
    rw[Bw LA.ok S.ka h,Bw LB.ok S.kb k2] at this;unfold tieOf at c et;rw[if_neg (by lia),if_neg (by lia),if_neg (by lia),if_neg (by lia)] at this;exact this
 ·have:=S.eq (tieOf A k::s)
  rw[Bw LA.ok S.ka h,Bw LB.ok S.kb k2] at this;unfold tieOf at this et;rw[if_neg (by lia),if_pos rfl,if_neg (by lia),if_pos et] at this;exact this
theorem Sim.all(CA:Canon n A a)(CB:Canon n B b)(S:Sim A B a b):∀(d k:Nat),A.length+2-k<=d->2<=k->Knot A k->∃k',Sim A B k k'
 | 0,k,h,_,kn=>by unfold Knot at kn;lia
 | d+1,k,h,k2,kn=>by
  rcases CA.led k k2 kn with rfl | ⟨r,hr,ch⟩
  ·exact ⟨b,S⟩
  ·obtain ⟨i,hi⟩:=Db.mp hr
   have il:=(AJ.mp hi).1;obtain ⟨_,lo,li,_⟩:=CA.least.ok.low hi;have er:A.getD (i+2-2) (0,0,0)=r:=by rw[DS,AC,hi];rfl
   obtain ⟨j,SJ⟩:=Sim.all CA CB S d (i+2) (by unfold Knot at kn;rcases ch with e | e<;>lia) (by lia) (by unfold Knot;lia);obtain ⟨_,_,s1,s2⟩:=SJ.child CA.least CB.least (by lia);unfold outOf at s1;unfold intoOf at s2;rw[er] at s1 s2;rcases ch with e | e
   ·rw[e] at s1;exact ⟨_,s1⟩
   ·rw[e] at s2;exact ⟨_,s2⟩
theorem half(CA:Canon n A a)(CB:Canon n B b)(S:Sim A B a b){t:Nat}(P:∀k k',Sim A B k k'->t+1<=rank n A k->k=k'){r:Row}(hr:r∈A)(ht:r.1=t):r∈B:=by
 obtain ⟨i,hi⟩:=Db.mp hr;have il:=(AJ.mp hi).1;have er:A.getD (i+2-2) (0,0,0)=r:=by rw[DS,AC,hi];rfl
 obtain ⟨j,SJ⟩:=Sim.all CA CB S _ (i+2) (AF _) (by lia) (by unfold Knot;lia);obtain ⟨j2,et,s1,s2⟩:=SJ.child CA.least CB.least (by lia);obtain ⟨_,_,_,r1,r2,_,_⟩:=CA.least.ok.low hi;have e1:r.2.1=outOf B j:=by
  have:=P _ _ s1 (by unfold outOf;rw[er];lia);unfold outOf at this ⊢;rw[er] at this;exact this
 have e2:r.2.2=intoOf B j:=by
  have:=P _ _ s2 (by unfold intoOf;rw[er];lia);unfold intoOf at this ⊢;rw[er] at this;exact this
 have e3:r.1=tieOf B j:=by
  unfold tieOf at et ⊢;rw[er] at et;exact et
 have:r=B.getD (j-2) (0,0,0):=J9 e3 (J9 e1 e2);rw[this];exact BH (Bj SJ.kb j2)
theorem YS(CA:Canon n A a)(CB:Canon n B b)(S:Sim A B a b):∀d,(∀r:Row,n<=r.1+d->(r∈A↔r∈B))/\∀k k',Sim A B k k'->n<=rank n A k+d->k=k':=by
 intro d
 induction d with
 | zero =>
  have hA:∀r∈A,r.1<n:=λr hr=>by
   obtain ⟨i,hi⟩:=Db.mp hr;exact (CA.least.ok.low hi).1
  have hB:∀r∈B,r.1<n:=λr hr=>by
   obtain ⟨i,hi⟩:=Db.mp hr;exact (CB.least.ok.low hi).1
  refine ⟨λr h=>⟨λz=>?_,λz=>?_⟩,λk k' s h=>?_⟩
  ·have:=hA r z;lia
  ·have:=hB r z;lia
  ·refine s.small CA.least CB.least ?_
   have:=Fy CA.least s.ka;rcases C4 k 2 with c | c
   ·lia
   ·have:=this.mp c;lia
 | succ d ih =>
  obtain ⟨M,P⟩:=ih;have M':∀r:Row,n<=r.1+(d+1)->(r∈A↔r∈B):=λr h=>by
   by_cases c:n<=r.1+d
   ·exact M r c
   ·refine ⟨λz=>half CA CB S (λk k' s hk=>P k k' s (by lia)) z rfl,λz=>half CB CA S.symm (λk k' s hk=>?_) z rfl⟩
    have e:=s.rank_eq CB.least CA.least;exact (P k' k s.symm (by lia)).symm
  refine ⟨M',λk k' s h=>?_⟩;by_cases c:n<=rank n A k+d
  ·exact P k k' s c
  rcases C4 k 2 with k2 | k2
  ·exact s.small CA.least CB.least (by lia)
  obtain ⟨k2',et,s1,s2⟩:=s.child CA.least CB.least k2;obtain ⟨_,_,_,r1,r2,_,_⟩:=CA.least.ok.low (Bj s.ka k2);have rk:rank n A k=tieOf A k:=by unfold rank tieOf;rw[if_neg (by lia)]
  have e1:=P _ _ s1 (by unfold outOf;unfold tieOf at rk;lia);have e2:=P _ _ s2 (by unfold intoOf;unfold tieOf at rk;lia);have er:A.getD (k-2) (0,0,0)=B.getD (k'-2) (0,0,0):=J9 et (J9 e1 e2);have ef:A.filter (λr=>decide (tieOf A k<=r.1))=B.filter (λr=>decide (tieOf A k<=r.1)):=by
   refine Kg RV (CA.srt.filter _) (CB.srt.filter _) λr=>?_;rw[C7,C7];constructor
   ·rintro⟨h1,h2⟩
    exact ⟨(M' r (by have:=of_decide_eq_true h2;lia)).mp h1,h2⟩
   ·rintro⟨h1,h2⟩
    exact ⟨(M' r (by have:=of_decide_eq_true h2;lia)).mpr h1,h2⟩
  have mem:A.getD (k-2) (0,0,0)∈A.filter (λr=>decide (tieOf A k<=r.1)):=C7.mpr ⟨BH (Bj s.ka k2),decide_eq_true (AF _)⟩;obtain ⟨i,hi⟩:=Db.mp mem;have il:=(AJ.mp hi).1;have iA:A[i]?=some (A.getD (k-2) (0,0,0)):=by
   rw[Gz (tieOf A k) CA.srt,A2 il];rw[<- Gz (tieOf A k) CA.srt];exact hi
  have iB:B[i]?=some (B.getD (k'-2) (0,0,0)):=by
   rw[<- er];rw[ef] at hi il;rw[Gz (tieOf A k) CB.srt,A2 il];exact hi
  have j1:=CA.least.one _ _ _ iA (Bj s.ka k2);have j2:=CB.least.one _ _ _ iB (Bj s.kb k2');lia
theorem Canon.unique(CA:Canon n A a)(CB:Canon n B b)(h:∀s,G.led A a s=G.led B b s):A=B/\a=b:=by
 have S:Sim A B a b:=⟨CA.knot,CB.knot,h⟩;obtain ⟨M,P⟩:=YS CA CB S n;exact ⟨Kg RV CA.srt CB.srt λr=>M r (by lia),P a b S (by lia)⟩
end
def up(s:List Nat):List Int:=s.map λ(x:Nat)=>(x:Int)
theorem YX{n:Nat}{rows nums:List Row}{rc:List Nat}{pl:Nat->Option Nat}(I:Kept2 n 0 rows rc nums pl)(c:Closed rows rc):nums.length<=rows.length:=by
 have ex:∀i,i<nums.length->∃k,k∈rc/\pl k=some (i+2):=λi hi=>by
  obtain ⟨k,hk,_,e⟩:=I.sur i _ (AK hi);exact ⟨k,hk,e⟩
 let g:Nat->Nat:=λi=>if h:i<nums.length then Fa (ex i h) else 0
 have hg:∀i,i<nums.length->g i∈rc/\pl (g i)=some (i+2):=λi hi=>by
  have z:=FS (ex i hi);show (if h:i<nums.length then Fa (ex i h) else 0)∈rc/\pl (if h:i<nums.length then Fa (ex i h) else 0)=some (i+2);rw[dif_pos hi];exact z
 have nd:((AZ nums.length).map g).Nodup:=by
  unfold QQ;rw[D2];refine Fc (λ{a b} ha hb h e=>?_) (G0 (n:=nums.length));have h1:=(hg a (BC.mp ha)).2;have h2:=(hg b (BC.mp hb)).2;rw[e,h2] at h1;injection h1 with h1
  lia
 have z:=ST.CZ nd (l₂:=(AZ rows.length).map (·+2)) λx hx=>by
  obtain ⟨i,hi,rfl⟩:=B6.mp hx;have hk:=(hg i (BC.mp hi)).1;have a:=c.two _ hk;have b:g i<rows.length+2:=c.knot _ hk;exact B6.mpr ⟨g i-2,BC.mpr (by lia),by lia⟩
 rw[AB,AB,CS,CS] at z;exact z
section
variable{n t:Nat}{A rows nums:List Row}{rc:List Nat}{pl:Nat->Option Nat}
theorem Sim.inj(L:Least n A):∀(f k k':Nat),k<f->Sim A A k k'->k=k':=by
 intro f
 induction f with
 | zero=>intro k k' h;lia
 | succ f ih =>
  intro k k' hk S;rcases C4 k 2 with c | c
  ·exact S.small L L (by lia)
  ·obtain ⟨c',et,so,si⟩:=S.child L L c
   have ra:=Bj S.ka c;have rb:=Bj S.kb c';obtain ⟨_,a1,a2,_⟩:=L.ok.low ra;have e1:outOf A k=outOf A k':=ih _ _ (by show (A.getD (k-2) (0,0,0)).2.1<f;lia) so;have e2:intoOf A k=intoOf A k':=ih _ _ (by show (A.getD (k-2) (0,0,0)).2.2<f;lia) si;have er:A.getD (k-2) (0,0,0)=A.getD (k'-2) (0,0,0):=J9 et (J9 e1 e2);rw[er] at ra;have:=L.one _ _ _ ra rb;lia
theorem Wf(L:Least n A){a b:Nat}(ka:Knot A a)(kb:Knot A b)(h:∀s,led A a s=led A b s):a=b:=Sim.inj L (a+1) a b (EB _) ⟨ka,kb,h⟩
theorem YC{P:Nat->Prop}{top:Nat}(pt:P top)(ps:∀k,P k->2<=k->Knot rows k->P (outOf rows k)/\P (intoOf rows k))(c:Closed rows rc)(par:∀k∈rc,k=top\/∃k'∈rc,k<k'/\(outOf rows k'=k\/intoOf rows k'=k)):∀(d k:Nat),rows.length+2-k<=d->k∈rc->P k:=by
 intro d
 induction d with
 | zero=>intro k h hk;have:k<rows.length+2:=c.knot k hk;lia
 | succ d ih =>
  intro k h hk;rcases par k hk with rfl | ⟨k',hk',lt,e⟩
  ·exact pt
  ·have:k<rows.length+2:=c.knot k hk
   have z:=ps k' (ih k' (by lia) hk') (c.two k' hk') (c.knot k' hk');rcases e with rfl | rfl
   ·exact z.1
   ·exact z.2
def lowH(t:Nat):List Nat->Bool
 | []=>false
 | x::_=>decide (x<=t)
end
section
variable{n:Nat}{A rows more:List Row}{m k:Nat}
theorem ACO(rows:List Row)(r:Row):(rows++[r]).getD (rows.length+2-2) (0,0,0)=r:=by
 rw[DS,AC,Cs (by lia),Iy];rfl
theorem AAe(rows:List Row)(r:Row):Knot (rows++[r]) (rows.length+2):=by
 unfold Knot;rw[By,DC];lia
theorem YM{t:Nat}(ks:List Nat)(hk:∀k∈ks,2<=k/\Knot A k/\tieOf A k=t)(nd:ks.Nodup):ks.length<=(A.filter λr=>decide (r.1=t)).length:=by
 have hsub:∀i∈(ks.map (· - 2)),i<A.length/\(A.getD i (0,0,0)).1=t:=λi hi=>by
  obtain ⟨k,hk',rfl⟩:=B6.mp hi;obtain ⟨k2,kn,ht⟩:=hk k hk';exact ⟨by unfold Knot at kn;lia,ht⟩
 have nd2:(ks.map (· - 2)).Nodup:=by
  unfold QQ;rw[D2];refine Fc (λ{a b} ha hb h e=>h ?_) nd;have:=(hk a ha).1;have:=(hk b hb).1;lia
 have z:=ST.CZ nd2 (l₂:=(AZ A.length).filter λi=>decide ((A.getD i (0,0,0)).1=t)) λi hi=>by
  obtain ⟨h1,h2⟩:=hsub i hi;exact C7.mpr ⟨BC.mpr h1,decide_eq_true h2⟩
 rw[AB] at z;refine CF z (KO ?_);have e:A=(AZ A.length).map λi=>A.getD i (0,0,0):=by
  apply F8;intro i;rw[BM];by_cases c:i<A.length
  ·rw[Go c,AK c]
   simp[AC,c]
  ·rw[D1 (by lia),D1 (by rw[CS];lia)]
   rfl
 conv=>rhs;rw[e,Md,AB]
 rfl
def behind(rows:List Row)(t:Nat)(ks:List Nat):List Nat:=ks.filter λk=>decide (k<2)||decide (t<tieOf rows k)
end
def addRow(S:List (List (List Nat)))(r:Row):List (List (List Nat)):=S++[S.getD r.2.1 []++(S.getD r.2.2 []).map (r.1::·)]
def setsUp(rows:List Row):List (List (List Nat)):=rows.foldl addRow [[],[[]]]
def setsOf(rows:List Row)(k:Nat):List (List Nat):=(setsUp rows).getD k []
theorem Jk(rows:List Row)(r:Row):setsUp (rows++[r])=addRow (setsUp rows) r:=by unfold setsUp;rw[List.foldl_append];rfl
theorem Hl:∀(rows:List Row),(setsUp rows).length=rows.length+2:=by
 intro rows
 suffices h:∀(l:List Row) (S:List (List (List Nat))),(l.foldl addRow S).length=S.length+l.length by
  unfold setsUp;rw[h];show 2+_=_;lia
 intro l
 induction l with
 | nil=>intro S;simp
 | cons a l ih =>
  intro S;rw[L6,ih];unfold addRow;rw[By];simp;lia
def num(n:Nat):List Nat->Nat
 | []=>0
 | x::xs=>2 ^ (n-1-x)+num n xs
theorem Yx{n:Nat}:∀{s:List Nat}{t:Nat},s.Pairwise (· < ·)->(∀x∈s,t<=x/\x<n)->num n s<2 ^ (n-t)
 | [],t,_,_=>Nat.two_pow_pos _
 | x::xs,t,h,hr=>by
  obtain ⟨h1,h2⟩:=CI.mp h;obtain ⟨x1,x2⟩:=hr x AG;have ih:=Yx (t:=x+1) h2 λy hy=>⟨h1 y hy,(hr y (AH _ hy)).2⟩;have e:2 ^ (n-x)=2 ^ (n-1-x)+2 ^ (n-1-x):=by
   rw[show n-x=(n-1-x)+1 by lia,Me];lia
  have le:2 ^ (n-x)<=2 ^ (n-t):=Mm (by decide) (by lia);have e2:n-(x+1)=n-1-x:=by lia
  rw[e2] at ih;show 2 ^ (n-1-x)+num n xs<_;lia
section
variable{n:Nat}{rows:List Row}
structure InOrder(n:Nat)(rows:List Row)(k:Nat)(L:List (List Nat)):Prop where
 mem:∀s,s∈L↔led rows k s=true
 ord:L.Pairwise λs u=>num n s<num n u
 way:∀s∈L,s.Pairwise (· < ·)/\∀x∈s,rank n rows k<=x/\x<n
theorem ABL{α:Type}{l m:List α}{k:Nat}{d:α}(h:k<l.length):(l++m).getD k d=l.getD k d:=by
 rw[AC,AC,A2 h]
theorem Uw(o:Ok n rows)(r:Row){k:Nat}(kn:Knot rows k):setsOf (rows++[r]) k=setsOf rows k:=by
 unfold setsOf;rw[Jk];unfold addRow;exact ABL (by rw[Hl];exact kn)
theorem Tt(rows:List Row)(r:Row):setsOf (rows++[r]) (rows.length+2)=setsOf rows r.2.1++(setsOf rows r.2.2).map (r.1::·):=by
 unfold setsOf;rw[Jk];unfold addRow;rw[AC,Cs (by rw[Hl];exact AF _),Hl,Iy];rfl
theorem InOrder.app(o:Ok n rows){r:Row}{k:Nat}{L:List (List Nat)}(kn:Knot rows k)(I:InOrder n rows k L):InOrder n (rows++[r]) k L :=
 ⟨λs=>by rw[Dd o s kn];exact I.mem s,I.ord,λs hs=>by rw[Ls kn];exact I.way s hs⟩
theorem Hr{r:Row}(o:Ok n (rows++[r])):Ok n rows:=λi q e=>by
 have il:=(AJ.mp e).1;obtain ⟨h1,h2,h3⟩:=o i q (by rw[A2 il];exact e);have low:∀l,Low (rows++[r]) q.1 (i+2) l->Low rows q.1 (i+2) l:=λl ⟨a,b⟩=>⟨a,b.imp id λ⟨u,e,z⟩=>⟨u,by rw[A2 (by lia)] at e;exact e,z⟩⟩;exact ⟨h1,low _ h2,low _ h3⟩
theorem AAc:∀(m:Nat) (rows:List Row),rows.length=m->Ok n rows->∀k,Knot rows k->InOrder n rows k (setsOf rows k):=by
 intro m
 induction m with
 | zero =>
  intro rows h o k kn;have e:rows=[]:=Fs.mp h;subst e;have:k=0\/k=1:=by unfold Knot at kn;simp at kn;lia
  rcases this with rfl | rfl
  ·refine ⟨λs=>?_,.nil,λs hs=>by cases hs⟩
   rw[Cr];exact ⟨λh=>(by cases h),λh=>(by cases h)⟩
  ·refine ⟨λs=>?_,IH _ _,λs hs=>?_⟩
   ·rw[Dy,decide_eq_true_iff]
    exact Cn
   ·rw[Cn.mp hs]
    exact ⟨.nil,λx hx=>by cases hx⟩
 | succ m ih =>
  intro rows h o k kn;have ne:rows≠[]:=λe=>by rw[e] at h;cases h
  obtain ⟨init,r,rfl⟩:∃init r,rows=init++[r]:=⟨rows.dropLast,rows.getLast ne,(List.dropLast_concat_getLast ne).symm⟩;have hl:init.length=m:=by simpa using h
  have oi:=Hr o;have I:=ih init hl oi;by_cases c:k<init.length+2
  ·rw[Uw oi r c]
   exact (I k c).app oi c
  ·have ek:k=init.length+2:=by unfold Knot at kn;simp at kn;lia
   subst ek;have hi:(init++[r])[init.length]?=some r:=by simp
   obtain ⟨t1,l1,l2,r1,r2,_,_⟩:=o.low hi;have kn1:Knot init r.2.1:=l1;have kn2:Knot init r.2.2:=l2;have I1:=(I _ kn1).app (r:=r) oi kn1;have I2:=(I _ kn2).app (r:=r) oi kn2;have eg:(init++[r]).getD (init.length+2-2) (0,0,0)=r:=by rw[DS,AC,hi];rfl
   have rk:rank n (init++[r]) (init.length+2)=r.1:=by unfold rank;rw[if_neg (by lia),eg]
   rw[Tt];refine ⟨λs=>?_,?_,λs hs=>?_⟩
   ·rw[Co,B6]
    cases s with
    | nil =>
     rw[Dq o kn (by lia),eg,I1.mem];exact ⟨λh=>h.elim id λ⟨u,_,e⟩=>(by cases e),.inl⟩
    | cons x xs =>
     rw[Bw o kn (by lia),eg,I1.mem];by_cases c1:x<r.1
     ·rw[if_pos c1]
      refine ⟨λh=>?_,λh=>by cases h⟩;rcases h with h | ⟨u,_,e⟩
      ·rw[off o (GX kn1) (by lia)] at h;exact h
      ·injection e with e _;lia
     ·rw[if_neg c1]
      by_cases c2:x=r.1
      ·rw[if_pos c2]
       subst c2;refine ⟨λh=>?_,λh=>.inr ⟨xs,(I2.mem xs).mpr h,rfl⟩⟩;rcases h with h | ⟨u,hu,e⟩
       ·rw[off o (GX kn1) (by lia)] at h;cases h
       ·injection e with _ e
        rw[<- e];exact (I2.mem u).mp hu
      ·rw[if_neg c2]
       refine ⟨λh=>h.elim id λ⟨u,_,e⟩=>(by injection e with e _;lia),.inl⟩
   ·refine C5.mpr ⟨I1.ord,?_,λs hs u hu=>?_⟩
    ·rw[D2]
     exact I2.ord.imp λ{a b} h=>by show 2 ^ _+_<2 ^ _+_;lia
    ·obtain ⟨v,hv,rfl⟩:=B6.mp hu
     obtain ⟨w1,w2⟩:=I1.way s hs;have:=Yx (n:=n) (t:=r.1+1) w1 λx hx=>⟨by have:=(w2 x hx).1;lia,(w2 x hx).2⟩;rw[show n-(r.1+1)=n-1-r.1 by lia] at this;show _<2 ^ (n-1-r.1)+_;lia
   ·rw[rk]
    rcases Co.mp hs with hs | hs
    ·obtain ⟨w1,w2⟩:=I1.way s hs
     exact ⟨w1,λx hx=>⟨by have:=(w2 x hx).1;lia,(w2 x hx).2⟩⟩
    ·obtain ⟨v,hv,rfl⟩:=B6.mp hs
     obtain ⟨w1,w2⟩:=I2.way v hv;refine ⟨.cons (λx hx=>by have:=(w2 x hx).1;lia) w1,λx hx=>?_⟩;rcases AX.mp hx with rfl | hx
     ·exact ⟨AF _,t1⟩
     ·exact ⟨by have:=(w2 x hx).1;lia,(w2 x hx).2⟩
end
abbrev Sta:=List Int
section
variable (lef tak pas:Nat->Sta->Option Sta)(ful:Sta->Bool)
def stepS(t:Nat)(g:Option Sta->List Nat->Bool)(st:Sta):List Nat->Bool
 | []=>g (lef t st) []
 | x::xs=>if x<t then false else if x=t then g (tak t st) xs else g (lef t st) (x::xs)
def semG:Nat->Nat->Option Sta->List Nat->Bool
 | _,_,none,_=>false
 | 0,t,some r,s=>match pas t r with
  | none=>false
  | some st=>ful st&&decide (s=[])
 | d+1,t,some r,s=>match pas t r with
  | none=>false
  | some st=>stepS lef tak t (semG d (t+1)) st s
end
section
variable{n t k kl kr:Nat}{rows more:List Row}{f:List Nat->Bool}
structure Lead(rows:List Row)(t k:Nat)(f:List Nat->Bool):Prop where
 kn:Knot rows k
 up:k<=1\/t<=tieOf rows k
 eq:∀s,led rows k s=f s
theorem Lead.app(o:Ok n rows)(h:Lead rows t k f):Lead (rows++more) t k f:=by
 refine ⟨GX h.kn,?_,λs=>by rw[Dd o s h.kn,h.eq]⟩;rcases C4 1 k with c | c
 ·rw[ACm h.kn c];exact h.up
 ·exact .inl c
theorem Wz(h:∀s,f s=false):Lead rows t 0 f:=⟨by unfold Knot;lia,.inl (by lia),λs=>by rw[Cr,h]⟩
theorem Zj(h:∀s,f s=decide (s=[])):Lead rows t 1 f:=⟨by unfold Knot;lia,.inl (by lia),λs=>by rw[Dy,h]⟩
theorem AAm{lef tak:Nat->Sta->Option Sta}{g:Option Sta->List Nat->Bool}{st:Sta}(o:Ok n rows)(tn:t<n)(hl:Lead rows (t+1) kl (g (lef t st)))(hr:Lead rows (t+1) kr (g (tak t st))) :
  Ok n (rows++[(t,kl,kr)])/\Lead (rows++[(t,kl,kr)]) t (rows.length+2) (stepS lef tak t g st):=by
 have o2:Ok n (rows++[(t,kl,kr)]):=AEU o tn (Qi hl.kn hl.up) (Qi hr.kn hr.up);have e:=ACO rows (t,kl,kr);have kn:=AAe rows (t,kl,kr);refine ⟨o2,kn,.inr ?_,λs=>?_⟩
 ·unfold tieOf
  rw[e];exact AF _
 ·cases s with
  | nil =>
   rw[Dq o2 kn (by lia),e,Dd o _ hl.kn,hl.eq];rfl
  | cons x xs =>
   rw[Bw o2 kn (by lia),e,Dd o _ hl.kn,Dd o _ hr.kn,hl.eq,hr.eq];rfl
def Cnt(t:Nat)(more:List Row):Prop:=∀j,(more.filter λr=>decide (r.1=j)).length<=if j<t then 0 else 2 ^ (j-t)
theorem cnt_nil:Cnt t []:=λj=>Bi _
theorem AAP{m1 m2:List Row}(h1:Cnt (t+1) m1)(h2:Cnt (t+1) m2):Cnt t (m1++m2++[(t,kl,kr)]):=λj=>by
 have a:=h1 j;have b:=h2 j;rw[Ex,Ex,By,By];rcases NL j t with c | c | c
 ·rw[if_pos (by lia)] at a b
  rw[if_pos c,K7 (by simp;lia)];show _+_+0<=0;lia
 ·subst c
  rw[if_pos (by lia)] at a b;rw[if_neg (by lia),Iy,OP (by simp)];show _+_+1<=1;lia
 ·rw[if_neg (by lia)] at a b
  rw[if_neg (by lia),K7 (by simp;lia)];have e:2 ^ (j-t)=2 ^ (j-(t+1))+2 ^ (j-(t+1)):=by
   rw[show j-t=(j-(t+1))+1 by lia,Me];lia
  show _+_+0<=_;lia
end
section
variable (on:Nat->Nat->Bool)(L:Nat->Nat)(z n:Nat)
def tkC(t:Nat)(st:Sta):Sta:=(AZ st.length).map λp=>if on p t=true then min (st.getD p 0+1) 2 else st.getD p 0
def lefC(_:Nat)(st:Sta):Option Sta:=some st
end
theorem Im(l:Sta)(p q:Nat)(h:q≠p):(l.set p 0).getD q 0=l.getD q 0:=by
 rw[AC,AC,J6 (DM h)]
section
variable{on:Nat->Nat->Bool}{L:Nat->Nat}{z n:Nat}
theorem Jz{t p:Nat}{st:Sta}(h:p<st.length):(tkC on t st).getD p 0=if on p t=true then min (st.getD p 0+1) 2 else st.getD p 0:=by
 unfold tkC;rw[AC,BM,Go h];rfl
theorem Ip{t:Nat}{st:Sta}:(tkC on t st).length=st.length:=by unfold tkC;rw[AB,CS]
end
section
variable (al:Int->Bool)(on:Nat->Nat->Bool)(L:Nat->Nat)(z n:Nat)
def passT:Sta->List Nat->Option Sta
 | st,[]=>some st
 | st,p::ps=>if al (st.getD p 0)=true then passT (st.set p 0) ps else none
def pasT(t:Nat)(st:Sta):Option Sta:=passT al st ((AZ z).filter λp=>decide (L p=t))
def takT(t:Nat)(st:Sta):Option Sta:=if (2:Int)∈tkC on t st/\al 2=false then none else some (tkC on t st)
def cntS(p:Nat)(s:List Nat):Nat:=(s.filter λx=>on p x).length
def Tied(t:Nat)(r:Sta)(s:List Nat):Prop:=s.Pairwise (· < ·)/\(∀x∈s,t<=x/\x<n)/\∀p,p<z->t<=L p->al (min (r.getD p 0+(cntS on p s:Nat)) 2)=true
end
section
variable{al:Int->Bool}
theorem Hq:∀(ps:List Nat) (st st':Sta),ps.Nodup->passT al st ps=some st'->(∀p∈ps,al (st.getD p 0)=true)/\st'.length=st.length/\(∀q,q∉ps->st'.getD q 0=st.getD q 0)/\∀q,(st'.getD q 0=st.getD q 0\/st'.getD q 0=0)
 | [],st,st',_,h=>by cases h;exact ⟨λp hp=>(nomatch hp),rfl,λq _=>rfl,λq=>.inl rfl⟩
 | p::ps,st,st',nd,h=>by
  unfold passT at h;by_cases c:al (st.getD p 0)=true
  ·rw[if_pos c] at h
   obtain ⟨np,nd'⟩:=Ev.mp nd;obtain ⟨h1,h2,h3,h4⟩:=Hq ps _ _ nd' h;refine ⟨λq hq=>?_,by rw[h2,Mn],λq hq=>?_,λq=>?_⟩
   ·rcases AX.mp hq with rfl | hq
    ·exact c
    ·have:=h1 q hq
     rwa [Im _ _ _ (λe=>np (by rw[<- e];exact hq))] at this
   ·rw[h3 q (λe=>hq (AH _ e)),Im _ _ _ (λe=>hq (by rw[e];exact AG ..))]
   ·rcases h4 q with e | e
    ·by_cases cq:q=p
     ·subst cq
      by_cases l:q<st.length
      ·right
       rw[e,AC,IR l];rfl
      ·left
       rw[e,AC,AC,D1 (by rw[Mn];lia),D1 (by lia)]
     ·left
      rw[e,Im _ _ _ cq]
    ·exact .inr e
  ·rw[if_neg c] at h
   cases h
theorem passT_none:∀(ps:List Nat) (st:Sta),ps.Nodup->passT al st ps=none->∃p∈ps,al (st.getD p 0)=false
 | [],st,_,h=>by cases h
 | p::ps,st,nd,h=>by
  unfold passT at h;by_cases c:al (st.getD p 0)=true
  ·rw[if_pos c] at h
   obtain ⟨np,nd'⟩:=Ev.mp nd;obtain ⟨q,hq,hn⟩:=passT_none ps _ nd' h;rw[Im _ _ _ (λe=>np (by rw[<- e];exact hq))] at hn;exact ⟨q,AH _ hq,hn⟩
  ·exact ⟨p,AG ..,by cases e:al (st.getD p 0) with | true=>exact absurd e c | false=>rfl⟩
end
section
variable{al:Int->Bool}{on:Nat->Nat->Bool}{L:Nat->Nat}{z n:Nat}
theorem Qd{p:Nat}:∀{s:List Nat},(∀x∈s,on p x=false)->cntS on p s=0
 | s,h=>by
  unfold cntS;rw[Fs,IZ];intro x hx;rw[h x hx];decide
theorem cnt_cons(p x:Nat)(s:List Nat):cntS on p (x::s)=(if on p x=true then 1 else 0)+cntS on p s:=by
 unfold cntS;rw[DV];split
 ·rw[Dx];lia
 ·lia
def Sml(al:Int->Bool)(r:Sta):Prop:=(∀p,0<=r.getD p 0/\r.getD p 0<=2)/\(al 2=false->∀p,r.getD p 0<=1)
theorem Vj{t p:Nat}{st:Sta}(h:¬ p<st.length):(tkC on t st).getD p 0=0:=by
 rw[AC,D1 (by rw[Ip];lia)];rfl
theorem Sml.take{t:Nat}{st:Sta}(h:Sml al st)(hn:¬ ((2:Int)∈tkC on t st/\al 2=false)):Sml al (tkC on t st):=by
 have b:∀p,0<=(tkC on t st).getD p 0/\(tkC on t st).getD p 0<=2:=λp=>by
  by_cases c:p<st.length
  ·rw[Jz c]
   have:=h.1 p;split<;>lia
  ·rw[Vj c];lia
 refine ⟨b,λa p=>?_⟩;have hb:=b p;by_cases c:p<st.length
 ·have ne:(tkC on t st).getD p 0≠2:=λe=>hn ⟨by
   have pl:p<(tkC on t st).length:=by rw[Ip];exact c
   rw[AC,AK pl] at e;have e':(tkC on t st)[p]=2:=e;rw[<- e'];exact Ix pl,a⟩
  lia
 ·rw[Vj c];decide
theorem Zo(hL:∀p x,p<z->x<n->on p x=true->x<L p)(hn:∀p,p<z->L p<=n):∀(d t:Nat) (r:Sta) (s:List Nat),t+d=n->r.length=z->Sml al r ->
  (semG lefC (takT al on) (pasT al L z) (λ_=>true) d t (some r) s=true↔Tied al on L z n t r s):=by
 have small:∀{c:Int},0<=c->c<=2->min (c+((0:Nat):Int)) 2=c:=λ{c} a b=>by lia
 intro d
 induction d with
 | zero =>
  intro t r s tn rl r0;obtain rfl:t=n:=by lia
  have nil:∀{s:List Nat},(∀x∈s,t<=x/\x<t)->s=[]:=λ{s} h=>by
   cases s with
   | nil=>rfl
   | cons x xs=>have:=h x (AG ..);lia
  have nd:((AZ z).filter λp=>decide (L p=t)).Nodup:=G0.filter _;show (match pasT al L z t r with | none=>false | some st=>true&&decide (s=[]))=true↔_;cases e:pasT al L z t r with
  | none =>
   obtain ⟨p,hp,hb⟩:=passT_none _ _ nd e;obtain ⟨h1,h2⟩:=C7.mp hp;refine ⟨λh=>(by cases h),λ⟨_,h,c⟩=>?_⟩;have:=nil h;subst this;have c':=c p (BC.mp h1) (KO (of_decide_eq_true h2).symm);rw[Qd (s:=[]) (λx hx=>(by cases hx)),small (r0.1 p).1 (r0.1 p).2,hb] at c';cases c'
  | some st =>
   obtain ⟨h1,_⟩:=Hq _ _ _ nd e;dsimp only;rw[VT,decide_eq_true_iff];constructor
   ·rintro rfl
    refine ⟨.nil,λx hx=>(nomatch hx),λp hp hl=>?_⟩;rw[Qd (s:=[]) (λx hx=>(by cases hx)),small (r0.1 p).1 (r0.1 p).2];refine h1 p (C7.mpr ⟨BC.mpr hp,decide_eq_true ?_⟩);have:=hn p hp;lia
   ·exact λ⟨_,h,_⟩=>nil h
 | succ d ih =>
  intro t r s tn rl r0;have nd:((AZ z).filter λp=>decide (L p=t)).Nodup:=G0.filter _;have off:∀{p:Nat}{s:List Nat},p<z->L p=t->(∀x∈s,t<=x/\x<n)->cntS on p s=0:=λ{p s} hp e h=>Qd λx hx=>by
   cases ho:on p x with
   | false=>rfl
   | true =>
    have:=hL p x hp (h x hx).2 ho;have:=(h x hx).1;lia
  show (match pasT al L z t r with | none=>false | some st=>stepS lefC (takT al on) t (semG lefC (takT al on) (pasT al L z) (λ_=>true) d (t+1)) st s)=true↔_;cases e:pasT al L z t r with
  | none =>
   obtain ⟨p,hp,hb⟩:=passT_none _ _ nd e;obtain ⟨h1,h2⟩:=C7.mp hp;refine ⟨λh=>(by cases h),λ⟨_,h,c⟩=>?_⟩;have e2:L p=t:=of_decide_eq_true h2;have c':=c p (BC.mp h1) (KO e2.symm);rw[off (BC.mp h1) e2 h,small (r0.1 p).1 (r0.1 p).2,hb] at c';cases c'
  | some st =>
   obtain ⟨h1,h2,h3,h4⟩:=Hq _ _ _ nd e;have sl:st.length=z:=by rw[h2,rl]
   have s0:Sml al st:=⟨λp=>by
    rcases h4 p with e | e
    ·rw[e];exact r0.1 p
    ·rw[e];decide,λa p=>by
    rcases h4 p with e | e
    ·rw[e];exact r0.2 a p
    ·rw[e];decide⟩
   dsimp only;have key:Tied al on L z n t r s↔(s.Pairwise (· < ·)/\(∀x∈s,t<=x/\x<n)/\∀p,p<z->t+1<=L p->al (min (st.getD p 0+(cntS on p s:Nat)) 2)=true):=by
    constructor
    ·rintro⟨a,b,c⟩
     refine ⟨a,b,λp hp hl=>?_⟩;rw[h3 p (λhm=>by have:=of_decide_eq_true (C7.mp hm).2;lia)];exact c p hp (by lia)
    ·rintro⟨a,b,c⟩
     refine ⟨a,b,λp hp hl=>?_⟩;by_cases lt:L p=t
     ·rw[off hp lt b,small (r0.1 p).1 (r0.1 p).2]
      exact h1 p (C7.mpr ⟨BC.mpr hp,decide_eq_true lt⟩)
     ·have:=c p hp (by lia)
      rwa [h3 p (λhm=>lt (of_decide_eq_true (C7.mp hm).2))] at this
   rw[key];cases s with
   | nil =>
    show semG lefC (takT al on) (pasT al L z) (λ_=>true) d (t+1) (some st) []=true↔_;rw[ih (t+1) st [] (by lia) sl s0];exact ⟨λ⟨a,b,c⟩=>⟨a,λx hx=>(nomatch hx),c⟩,λ⟨a,b,c⟩=>⟨a,λx hx=>(nomatch hx),c⟩⟩
   | cons x xs =>
    show (if x<t then false else if x=t then semG lefC (takT al on) (pasT al L z) (λ_=>true) d (t+1) (takT al on t st) xs else semG lefC (takT al on) (pasT al L z) (λ_=>true) d (t+1) (some st) (x::xs))=true↔_;by_cases c1:x<t
    ·rw[if_pos c1]
     exact ⟨λh=>(by cases h),λ⟨_,b,_⟩=>by have:=b x (AG ..);lia⟩
    rw[if_neg c1];by_cases c2:x=t
    ·subst c2
     rw[if_pos rfl];by_cases dead:(2:Int)∈tkC on x st/\al 2=false
     ·have e0:takT al on x st=none:=by unfold takT;rw[if_pos dead]
      rw[e0];refine ⟨λh=>(by cases d<;>cases h),λ⟨a,b,c⟩=>?_⟩;obtain ⟨p,hp,e⟩:=CL.mp dead.1;have pl:p<st.length:=by rw[Ip] at hp;exact hp
      have g:=Jz (on:=on) (t:=x) pl;rw[AC,AK hp] at g;have g':(tkC on x st)[p]=if on p x=true then min (st.getD p 0+1) 2 else st.getD p 0:=g
      rw[e] at g';have b1:=s0.2 dead.2 p;have ho:on p x=true:=by
       cases q:on p x with
       | true=>rfl
       | false=>rw[q,if_neg (by decide)] at g';lia
      rw[if_pos ho] at g';have pz:p<z:=by lia
      have lx:=hL p x pz (b x (AG ..)).2 ho;have c':=c p pz (by lia);rw[cnt_cons,if_pos ho] at c';have e2:min (st.getD p 0+((1+cntS on p xs:Nat):Int)) 2=2:=by lia
      rw[e2,dead.2] at c';cases c'
     ·have e0:takT al on x st=some (tkC on x st):=by unfold takT;rw[if_neg dead]
      rw[e0,ih (x+1) (tkC on x st) xs (by lia) (by rw[Ip,sl]) (s0.take dead)];have mm:∀p,p<z->min ((tkC on x st).getD p 0+((cntS on p xs:Nat):Int)) 2=min (st.getD p 0+((cntS on p (x::xs):Nat):Int)) 2:=λp hp=>by
       rw[Jz (by lia),cnt_cons];have:=s0.1 p;split<;>lia
      constructor
      ·rintro⟨a,b,c⟩
       refine ⟨CI.mpr ⟨λy hy=>by have:=(b y hy).1;lia,a⟩,λy hy=>?_,λp hp hl=>?_⟩
       ·rcases AX.mp hy with rfl | hy
        ·lia
        ·have:=b y hy;lia
       ·rw[<- mm p hp]
        exact c p hp hl
      ·rintro⟨a,b,c⟩
       obtain ⟨a1,a2⟩:=CI.mp a;refine ⟨a2,λy hy=>⟨a1 y hy,(b y (AH _ hy)).2⟩,λp hp hl=>?_⟩;rw[mm p hp];exact c p hp hl
    ·rw[if_neg c2,ih (t+1) st (x::xs) (by lia) sl s0]
     constructor
     ·rintro⟨a,b,c⟩
      exact ⟨a,λy hy=>by have:=b y hy;lia,c⟩
     ·rintro⟨a,b,c⟩
      refine ⟨a,λy hy=>?_,c⟩;rcases AX.mp hy with rfl | hy
      ·have:=b y (AG ..);lia
      ·have:=(CI.mp a).1 y hy
       have:=b y (AH _ hy);lia
end
end G
end
section
namespace K53
open PySem L2 G
structure Ru where
 rf:List (Str×V)
 al:Int->Bool
structure Rul(u:Ru)(K:Au)(mg:Str->Option Ap)(D:Addr):Prop where
 cl:Cls K D
 no:∀{m:Str},¬ m = "full"->u.rf.lookup m=none
 sev:∃t,mg "SEVERAL" = some (.int 2 t)
def pf(fu:Bool):List (Str×V):=putF "full" (.bl fu) []
def alP(fu:Bool)(c:Int):Bool:=decide (c=1)||(decide (c=0) && !fu)
def uP(fu:Bool):Ru:=⟨pf fu,alP fu⟩
theorem ZX{fu:Bool}{m:Str}(h:¬ m = "full"):(pf fu).lookup m=none:=by
 unfold pf;rw[Ai,if_neg h];rfl
theorem ACh{fu:Bool}:(pf fu).lookup ("full" : Str)=some (.bl fu):=by
 unfold pf;rw[Ai,if_pos rfl]
def Fw(u:Ru)(D:Addr):Sp:=λvs H Q _=>∃(p dx:Addr) (c:Int),vs=[.ref p,.int c]/\H p=some (.ins D dx u.rf)/\Q (.bl (u.al c)) H
section
variable{P:AM}{w:AT}{K:Au}{mg:Str->Option Ap}{base:Heap}{f C D R:Addr}{fd:BV}
theorem Zh:FnScope ["self","count"] ["self","count"] (Ac Gm):=⟨rfl,rfl,rfl,by decide +kernel,rfl,by decide +kernel,by decide +kernel⟩
theorem Xk{fu:Bool}(F:Fun K "allows" "Pairs.allows" Gm f fd)(cl:Cls K D)(nF:NoAttr K D "full"):FnOk P w K mg base CX0 1 f fd ["self","count"] (Fw (uP fu) D):=by
 refine F.ok Zh (λvs H Q E h=>?_) (λcdv A outer s H vs Q E hr h=>?_)
 ·obtain ⟨p,dx,c,rfl,_⟩:=h
  rfl
 obtain ⟨p,dx,c,rfl,hp,q⟩:=h;refine ⟨_,Aj (Av (AEw (Cm Eu (pv 1) Ah (nomark _)) (Ow (Tz (Cm Eu (pv 1) Ah (nomark _)) (Ow (ADx (Br (pv 0) rfl))))))),?_⟩;refine ⟨_,rfl,rfl,_,rfl,?_⟩;by_cases c1:c=1
 ·refine iteP (by rw[c1]) ?_
  have e:(uP fu).al c=true:=by show (decide (c=1)||_)=true;rw[decide_eq_true c1];rfl
  rw[e] at q;exact q
 ·refine iteN (λz=>c1 (by injection z)) ?_
  refine ⟨_,rfl,rfl,_,rfl,?_⟩;by_cases c0:c=0
  ·refine iteP (by rw[c0]) ?_
   have e:(uP fu).al c=!fu:=by show (decide (c=1)||(decide (c=0) && !fu))=!fu;rw[decide_eq_false c1,decide_eq_true c0];rfl
   rw[e] at q;exact ⟨_,rfl,p,D,dx,_,_,rfl,hp,cl,nF,ACh,_,rfl,q⟩
  ·have e:(uP fu).al c=false:=by show (decide (c=1)||(decide (c=0) && !fu))=false;rw[decide_eq_false c1,decide_eq_false c0];rfl
   rw[e] at q;exact iteN (λz=>c0 (by injection z)) q
def Wc(D:Addr):Sp:=λvs H Q _=>∃(r dx:Addr) (fu:Bool),vs=[.ref r,.bl fu]/\H r=some (.ins D dx [])/\Q .non (upd H r (.ins D dx (pf fu)))
theorem ACn:FnScope ["self","full"] ["self","full"] (Ac JK):=⟨rfl,rfl,rfl,by decide +kernel,rfl,by decide +kernel,by decide +kernel⟩
end
variable{u:Ru}
def onB(bs:List (List Int))(p x:Nat):Bool:=decide ((p:Int)∈bs.getD x [])
def StAt(H:Hp)(b:Addr)(st:Sta):Prop:=H b=some (.tup (st.map V.int))
def RS(z:Nat)(H:Hp)(v:V):Option Sta->Prop
 | none=>v=.non
 | some st=>∃b,v=.ref b/\StAt H b st/\st.length=z
def Vz(K:Au)(C D:Addr):Sp:=λvs H Q _=>∃(r p:Addr) (z:Nat) (bs:List (List Int)),vs=[.ref r,.ref p]/\WebAt K C H p z bs/\1<=z/\z<=10/\∀(b:Addr) (H':Hp),Same H H'->StAt H' b (BE z 0)->Q (.ref b) H'
def Ug:Sp:=λvs H Q _=>∃(r p b x:V),vs=[r,p,b,x]/\Q b H
def AAq:Sp:=λvs H Q _=>∃(r p b:V),vs=[r,p,b]/\Q (.bl true) H
def Qp(u:Ru)(D:Addr):Sp:=λvs H Q _=>∃(r p:V) (b dx:Addr) (a:Addr) (q:Nat) (st:Sta),vs=[.ref a,p,.ref b,.int q]/\H a=some (.ins D dx u.rf)/\StAt H b st/\q<st.length/\st.length<=10 /\
 (u.al (st.getD q 0)=true->∀(b':Addr) (H':Hp),Same H H'->StAt H' b' (st.set q 0)->Q (.ref b') H')/\(¬ u.al (st.getD q 0)=true->∀H',Same H H'->Q .non H')
def Py(u:Ru)(K:Au)(C D:Addr):Sp:=λvs H Q _=>∃(a p b dx:Addr) (t z:Nat) (bs:List (List Int)) (st:Sta),vs=[.ref a,.ref p,.ref b,.int t]/\H a=some (.ins D dx u.rf)/\WebAt K C H p z bs/\StAt H b st/\t<bs.length/\st.length<=10 /\
 st.length=z/\∀(v':V) (H':Hp),Same H H'->RS z H' v' (takT u.al (onB bs) t st)->Q v' H'
section
variable{P:AM}{w:AT}{K:Au}{mg:Str->Option Ap}{base:Heap}{f C D:Addr}{fd:BV}
theorem ABY:FnScope ["self","web"] ["self","web"] (Ac JQ):=⟨rfl,rfl,rfl,by decide +kernel,rfl,by decide +kernel,by decide +kernel⟩
theorem Zk{fS:Addr}{fdS:BV}(F:Fun K "begun" "TiedPoints.begun" JQ f fd)(T:Txt K mg C)(GS:FnOk P w K mg base CX0 1 fS fdS ["self"] (PL K C))(bS:Binds K fdS ["self"] [])(mS:Meth K C "size" fS) :
  FnOk P w K mg base CX0 2 f fd ["self","web"] (Vz K C D):=by
 refine F.ok ABY (λvs H Q E h=>?_) (λcdv A outer s H vs Q E hr h=>?_)
 ·obtain ⟨r,p,z,bs,rfl,_⟩:=h
  rfl
 obtain ⟨r,p,z,bs,rfl,hW,z1,z10,q⟩:=h;obtain ⟨dx,j,hp,_⟩:=id hW;refine ⟨_,Aj (Av (Aw ABt (CG (Aa Ah Ad)) (Bo (pv 1) T.cl mS GS hr bS .nil pass0))),?_⟩;refine ⟨(by show 1<=sizeLine;decide),λt ht=>?_⟩;have s1:=Same.new ht (.tup [.int 0]);refine ⟨_,rfl,p,dx,_,rfl,s1 _ _ hp,Ei _ _ (by decide +kernel) (by decide +kernel),p,z,bs,rfl,hW.same s1,t,z,[.int 0],rfl,rfl,Ab,by lia,by lia,by simp,by decide,λe=>?_,λe b hb=>?_⟩
 ·have:z=1:=by lia
  subst this;exact q t _ s1 Ab
 ·have eq:(BE (z:Int).toNat [V.int 0]).flatten=(BE z (0:Int)).map V.int:=by
   rw[C9,List.map_replicate];generalize z=m
   induction m with
   | zero=>rfl
   | succ m ih=>rw[EF,EF,Hn,ih];rfl
  rw[eq];exact q b _ (s1.trans (Same.new hb _)) Ab
theorem AEb:FnScope ["self","web","state","number"] ["self","web","state","number"] (Ac Mz):=⟨rfl,rfl,rfl,by decide +kernel,rfl,by decide +kernel,by decide +kernel⟩
theorem ABf(F:Fun K "left" "Rule.left" Mz f fd):FnOk P w K mg base CX0 1 f fd ["self","web","state","number"] Ug:=by
 refine F.ok AEb (λvs H Q E h=>?_) (λcdv A outer s H vs Q E hr h=>?_)
 ·obtain ⟨r,p,b,x,rfl,_⟩:=h
  rfl
 obtain ⟨r,p,b,x,rfl,q⟩:=h;exact ⟨_,Aj (Av (pv 2)),⟨_,rfl,q⟩⟩
theorem AEj:FnScope ["self","web","state"] ["self","web","state"] (Ac Xa):=⟨rfl,rfl,rfl,by decide +kernel,rfl,by decide +kernel,by decide +kernel⟩
theorem AEJ(F:Fun K "fulfilled" "TiedPoints.fulfilled" Xa f fd):FnOk P w K mg base CX0 1 f fd ["self","web","state"] AAq:=by
 refine F.ok AEj (λvs H Q E h=>?_) (λcdv A outer s H vs Q E hr h=>?_)
 ·obtain ⟨r,p,b,rfl,_⟩:=h
  rfl
 obtain ⟨r,p,b,rfl,q⟩:=h;exact ⟨_,Aj (Av Ec),q⟩
theorem ZS:FnScope ["self","web","state","point"] ["self","web","state","point"] (Ac Fj):=⟨rfl,rfl,rfl,by decide +kernel,rfl,by decide +kernel,by decide +kernel⟩
theorem Ov{fA:Addr}{fdA:BV}(F:Fun K "passed" "TiedPoints.passed" Fj f fd)(T:Txt K mg C)(U:Rul u K mg D)(GA:FnOk P w K mg base CX0 1 fA fdA ["self","count"] (Fw u D))(bA:Binds K fdA ["self","count"] [])(mA:Meth K D "allows" fA) :
  FnOk P w K mg base CX0 2 f fd ["self","web","state","point"] (Qp u D):=by
 refine F.ok ZS (λvs H Q E h=>?_) (λcdv A outer s H vs Q E hr h=>?_)
 ·obtain ⟨r,p,b,dx,a,q,st,rfl,_⟩:=h
  rfl
 obtain ⟨r,p,b,dx,a,q,st,rfl,ha,hb,ql,s10,q1,q2⟩:=h;refine ⟨_,Ae (CQ (Hh (CJ (pv 0) U.cl mA GA hr bA .nil pass0 (Aa (Bc Dn (pv 2) (pv 3) (λ_ _=>rfl)) Ad)))
   (Aj (Av (Bk Ce rfl T.tuple DJ (Aa (Ca (Ac Fj) ["other","count"] ["point"] [3] rfl rfl (by decide +kernel) ⟨⟨rfl,by decide +kernel⟩,trivial⟩ (Ke rfl T.enum (Aa (pv 2) Ad))
    (λ_ _ _=>Fg (K:=K) (n:=2) rfl rfl (Bb (Am (i:=0) (show ((["other","count"]:List Str)++(["point"]:List Str)).Nodup by decide +kernel) rfl (BF rfl)) (Bb (Am (i:=1) (show ((["other","count"]:List Str)++(["point"]:List Str)).Nodup by decide +kernel) rfl (BF rfl)) Dw)))
    (λ_ _ _=>Ci)
    (λ_ _ _=>Ig (Ar Eu (pv 0) (pv 2) (nomark _)) Ah (pv 1))) Ad)))) BX)
  (Aj (Av AAZ)),?_⟩
 have hc:atI (st.map V.int) (q:Int)=some (.int (st.getD q 0)):=Bl (by rw[BM,AC,AK ql];rfl);refine ⟨_,rfl,a,dx,_,rfl,ha,U.no (by decide +kernel),_,rfl,_,rfl,b,_,_,_,rfl,rfl,SqT.of hb,hc,a,dx,_,rfl,ha,_,rfl,?_⟩;refine ite2 (λc=>?_) (λc=>?_)
 ·have c':u.al (st.getD q 0)=true:=c
  refine ⟨_,rfl,b,rfl,⟨_,SqT.of hb⟩,λZ hZ=>?_⟩;refine HW (xs:=st.map V.int) (λi τ H2=>∃n t:Option V,τ=[n,t,some (.int q)]/\Same H H2/\H2 Z=some (.lst (((st.set q 0).take i).map V.int))) ⟨none,none,rfl,Same.new hZ _,Ab⟩ (λi τ H2 _ ⟨_,_,_,sm,_⟩=>sm.ts.seq (SqT.of hb)) ?_ ?_
  ·rintro i y τ H2 T1 hy hT1 ⟨n,t,rfl,sm,eZ⟩
   obtain ⟨v,hv,rfl⟩:∃v,st[i]?=some v/\y=.int v:=by
    rw[BM] at hy;cases g:st[i]? with
    | none=>rw[g] at hy;cases hy
    | some v=>rw[g] at hy;cases hy;exact ⟨v,rfl,rfl⟩
   have il:=(AJ.mp hv).1;have s1:Same H2 (upd H2 T1 (.tup [.int i,.int v])):=Same.new hT1 _;refine ⟨T1,_,rfl,SqT.of Ab,rfl,_,_,rfl,_,_,rfl,rfl,yesD ?_⟩;have fin:∀u:Int,(st.set q 0)[i]?=some u->∃n t:Option V,[some (.int (i:Int)),some (.int v),some (.int (q:Int))]=[n,t,some (V.int q)]/\Same H (upd (upd H2 T1 (.tup [.int i,.int v])) Z (.lst (((st.set q 0).take i).map V.int++[.int u])))/\(upd (upd H2 T1 (.tup [.int i,.int v])) Z (.lst (((st.set q 0).take i).map V.int++[.int u]))) Z=some (.lst (((st.set q 0).take (i+1)).map V.int)):=λu hu=>by
    refine ⟨_,_,rfl,λb o e=>?_,?_⟩
    ·rw[Ag (Af e hZ)]
     exact s1 _ _ (sm b o e)
    ·rw[Ab,EI,hu,B8]
     rfl
   have sl:(((st.set q 0).take i).map V.int).length<sizeLine:=Ay (by rw[AB,Cc];lia);refine ⟨_,rfl,_,rfl,rfl,_,rfl,?_⟩;refine ite2 (λe=>?_) (λe=>?_)
   ·have e':i=q:=by have:=of_decide_eq_true e;injection this with this;lia
    subst e';exact ⟨_,s1 _ _ eZ,sl,fin 0 (IR il)⟩
   ·have e':i≠q:=λz=>e (decide_eq_true (by rw[z]))
    exact ⟨_,rfl,_,s1 _ _ eZ,sl,fin v (by rw[J6 (DM e')];exact hv)⟩
  ·rintro τ H2 ⟨n,t,rfl,sm,eZ⟩
   rw[AB,show st.length=(st.set q 0).length by rw[Mn],DI] at eZ;refine ⟨Z,_,rfl,.inl ⟨SqL.of eZ,λt ht=>?_⟩⟩;exact q1 c' t _ (sm.trans (Same.new ht _)) Ab
 ·exact q2 c _ (Same.refl _)
end
variable{u:Ru}
section
variable{P:AM}{w:AT}{K:Au}{mg:Str->Option Ap}{base:Heap}{f C D:Addr}{fd:BV}
theorem QG:FnScope ["self","web","state","number","tie","counts"] ["self","web","state","number"] (Ac HS):=⟨rfl,rfl,rfl,by decide +kernel,rfl,by decide +kernel,by decide +kernel⟩
theorem RP{fA fT:Addr}{fdA fdT:BV}(F:Fun K "taken" "TiedPoints.taken" HS f fd)(T:Txt K mg C)(U:Rul u K mg D)(GA:FnOk P w K mg base CX0 1 fA fdA ["self","count"] (Fw u D))(bA:Binds K fdA ["self","count"] [])(mA:Meth K D "allows" fA)
  (GT:FnOk P w K mg base CX0 1 fT fdT ["self"] (Pb K C)) (bT:Binds K fdT ["self"] []) (mT:Meth K C "ties" fT) :
  FnOk P w K mg base CX0 2 f fd ["self","web","state","number"] (Py u K C D):=by
 refine F.ok QG (λvs H Q E h=>?_) (λcdv A outer s H vs Q E hr h=>?_)
 ·obtain ⟨a,p,b,dx,t,z,bs,st,rfl,_⟩:=h
  rfl
 obtain ⟨a,p,b,dx,t,z,bs,st,rfl,ha,hW,hb,tl,s10,sz,q⟩:=h;obtain ⟨t2,e2⟩:=U.sev;refine ⟨_,Ae (Ax (i:=4) QG.nd rfl (JO rfl) (Bc Bm (Bo (pv 1) T.cl mT GT hr bT .nil pass0) (pv 3) (λ_ _=>rfl)))
  (Ae (QC (i:=5) (Ac HS) ["point","count"] ["tie"] [4] QG.nd rfl (BF rfl) rfl rfl (by decide +kernel) ⟨⟨rfl,by decide +kernel⟩,trivial⟩ (Ke rfl T.enum (Aa (pv 2) Ad))
    (λ_ _ _=>Fg (K:=K) (n:=2) rfl rfl (Bb (Am (i:=0) (show ((["point","count"]:List Str)++(["tie"]:List Str)).Nodup by decide +kernel) rfl (BF rfl)) (Bb (Am (i:=1) (show ((["point","count"]:List Str)++(["tie"]:List Str)).Nodup by decide +kernel) rfl (BF rfl)) Dw)))
    (λ_ _ _=>Ci)
    (λ_ _ _=>Ig (Ar (Fp (K:=K) rfl) (pv 0) (pv 2) rfl) (BK (Xj rfl) rfl T.min LU (Aa (Aw Cw (pv 1) Ah) (Aa (Gp (v:=.int 2) rfl e2 ⟨t2,rfl⟩) Ad))) (pv 1)))
  (Ae (CQ (PW.pt (Ko (Ar Oo (Gp (v:=.int 2) rfl e2 ⟨t2,rfl⟩) (pv 5) rfl) (Ib (Km (Hh (CJ (pv 0) U.cl mA GA hr bA .nil pass0 (Aa (Gp (v:=.int 2) rfl e2 ⟨t2,rfl⟩) Ad)))))))
   (Aj (Av AAZ)) BX)
  (Aj (Av (Bk Ce rfl T.tuple DJ (Aa (pv 5) Ad)))))),?_⟩
 obtain ⟨dw,jw,hp,_⟩:=id hW;refine ⟨_,rfl,p,dw,_,rfl,hp,Ei _ _ (by decide +kernel) (by decide +kernel),p,z,bs,rfl,hW,λl H1 s1 hl hL=>?_⟩;obtain ⟨l',xs,el,hX,px⟩:=hL;cases el;have lx:=B4 px;have xl:t<xs.length:=by lia
 obtain ⟨tie,ht,rt⟩:=Paired.get px (AK xl);obtain ⟨tq,et,htq⟩:=Cy rt;have hat:atI xs (t:Int)=some (.ref tq):=by
  rw[<- et];exact Bl (AK xl)
 refine ⟨_,rfl,l,xs,_,_,rfl,rfl,hX,hat,?_⟩;have ont:∀i:Nat,onB bs i t=decide ((i:Int)∈tie):=λi=>by
  unfold onB;rw[AC,ht];rfl
 have hb1:StAt H1 b st:=s1 _ _ hb;refine ⟨_,rfl,b,rfl,⟨_,SqT.of hb1⟩,λZ hZ=>?_⟩;have kl:(tkC (onB bs) t st).length=st.length:=Ip;refine HW (xs:=st.map V.int) (λi τ H2=>∃n c:Option V,τ=[n,c,some (.ref tq)]/\Same H1 H2/\H2 Z=some (.lst (((tkC (onB bs) t st).take i).map V.int))) ⟨none,none,rfl,Same.new hZ _,Ab⟩ (λi τ H2 _ ⟨_,_,_,sm,_⟩=>sm.ts.seq (SqT.of hb1)) ?_ ?_
 ·rintro i y τ H2 T1 hy hT1 ⟨n,c,rfl,sm,eZ⟩
  obtain ⟨v,hv,rfl⟩:∃v,st[i]?=some v/\y=.int v:=by
   rw[BM] at hy;cases g:st[i]? with
   | none=>rw[g] at hy;cases hy
   | some v=>rw[g] at hy;cases hy;exact ⟨v,rfl,rfl⟩
  have il:=(AJ.mp hv).1;have gi:st.getD i 0=v:=by rw[AC,hv];rfl
  have s2:Same H2 (upd H2 T1 (.tup [.int i,.int v])):=Same.new hT1 _;refine ⟨T1,_,rfl,SqT.of Ab,rfl,_,_,rfl,_,_,rfl,rfl,yesD ?_⟩;have fin:∀u:Int,(tkC (onB bs) t st).getD i 0=u->∃n c:Option V,[some (.int (i:Int)),some (.int v),some (.ref tq)]=[n,c,some (V.ref tq)]/\Same H1 (upd (upd H2 T1 (.tup [.int i,.int v])) Z (.lst (((tkC (onB bs) t st).take i).map V.int++[.int u])))/\(upd (upd H2 T1 (.tup [.int i,.int v])) Z (.lst (((tkC (onB bs) t st).take i).map V.int++[.int u]))) Z=some (.lst (((tkC (onB bs) t st).take (i+1)).map V.int)):=λu hu=>by
   refine ⟨_,_,rfl,λb o e=>?_,?_⟩
   ·rw[Ag (Af e hZ)]
    exact s2 _ _ (sm b o e)
   ·have hk:i<(tkC (onB bs) t st).length:=by lia
    rw[AC,AK hk] at hu;rw[Ab,EI,AK hk,B8,<- hu];rfl
  have sl:(((tkC (onB bs) t st).take i).map V.int).length<sizeLine:=Ay (by rw[AB,Cc];lia);have tk:=Jz (on:=onB bs) (t:=t) (p:=i) il;rw[ont,gi] at tk;refine ⟨_,rfl,_,rfl,tq,_,rfl,.inr (s2.ts.seq (sm.ts.seq htq)),rfl,by simp[flatV],_,rfl,?_⟩;rw[if_neg (by decide),EY];refine ite2 (λe=>?_) (λe=>?_)
  ·rw[if_pos e] at tk
   refine ⟨_,rfl,_,_,rfl,rfl,_,_,rfl,_,s2 _ _ eZ,sl,?_⟩;refine fin _ (tk.trans ?_);show min (v+1) 2=if (2:Int)<v+1 then 2 else v+1
   by_cases d:(2:Int)<v+1
   ·rw[if_pos d];lia
   ·rw[if_neg d];lia
  ·rw[if_neg e] at tk
   exact ⟨_,rfl,_,s2 _ _ eZ,sl,fin v tk⟩
 ·rintro τ H2 ⟨n,c,rfl,sm,eZ⟩
  rw[AB,<- kl,DI] at eZ;have s12:=s1.trans sm;have ln:(tkC (onB bs) t st).length=z:=by rw[kl];exact sz
  have go:¬ ((2:Int)∈tkC (onB bs) t st/\u.al 2=false)->∃v,[some (V.ref a),some (V.ref p),some (V.ref b),some (V.int t),some (V.ref tq),some (V.ref Z)][5]?=some (some v)/\∃pp ys,[v]=[V.ref pp]/\((SqL K H2 pp ys/\∀l,H2 l=none->Q (.ref l) (upd H2 l (.tup ys)))\/(SqT K H2 pp ys/\Q (.ref pp) H2)):=λnd =>
   ⟨_,rfl,Z,_,rfl,.inl ⟨SqL.of eZ,λl hl=>q _ _ (s12.trans (Same.new hl _)) (by unfold takT;rw[if_neg nd];exact ⟨l,rfl,Ab,ln⟩)⟩⟩
  refine ⟨_,rfl,Z,_,rfl,.inl (SqL.of eZ),rfl,by simp[flatV],_,rfl,?_⟩;rw[if_neg (by decide),EY];refine ite2 (λc=>?_) (λc=>?_)
  ·have hm:(2:Int)∈tkC (onB bs) t st:=of_decide_eq_true c
   refine ⟨_,rfl,a,dx,_,rfl,s12 _ _ ha,U.no (by decide +kernel),a,dx,_,rfl,s12 _ _ ha,_,rfl,?_⟩;cases e:u.al 2 with
   | true=>exact iteF (go λz=>by rw[e] at z;cases z.2)
   | false=>exact iteT (q _ _ s12 (by unfold takT;rw[if_pos ⟨hm,e⟩];exact rfl))
  ·exact iteF (go λz=>c (decide_eq_true z.1))
end
theorem YH{X:Cx}{K:Au}(hK:X.K=K)(hc:X.calm=true):CallR X (.builtin "max") (λxs H Q=>∃(p:Addr) (ns:List Int),xs=[.ref p]/\SqL K H p (ns.map V.int)/\0<ns.length/\∀m,m∈ns->(∀a∈ns,a<=m)->Q (.int m) H):=by subst hK;exact max_list hc
theorem ABR{X:Cx}{K:Au}(hK:X.K=K):OpR X (IS .Add) (rAddL K):=by subst hK;exact ABh
def Lp(bs:List (List Int))(p:Nat):Nat:=match (hits (p:Int) bs).getLast? with
 | none=>0
 | some x=>(x+1).toNat
theorem WK{bs:List (List Int)}{p:Nat}{x:Int}(h:x∈hits (p:Int) bs):0<=x/\x<bs.length:=by
 obtain ⟨i,t,e,_,rfl⟩:=L2.Ht.mp h;have:=(AJ.mp e).1;lia
theorem ADv{bs:List (List Int)}{p:Nat}{m:Int}(h1:m∈(-1:Int)::hits (p:Int) bs)(h2:∀a∈(-1:Int)::hits (p:Int) bs,a<=m):m=(Lp bs p:Int)-1:=by
 unfold Lp;cases e:(hits (p:Int) bs).getLast? with
 | none =>
  have e':=NV.mp e;rw[e'] at h1;have:m=-1:=by simpa using h1
  rw[this];rfl
 | some x =>
  obtain ⟨ne,ex⟩:=NX.mp e |> λ⟨ys,h⟩=>(⟨by rw[h];simp,by simp[h]⟩:∃ne:hits (p:Int) bs≠[],(hits (p:Int) bs).getLast ne=x)
  have xm:x∈hits (p:Int) bs:=by rw[<- ex];exact List.getLast_mem ne
  have x0:=(WK xm).1;have:=h2 x (AH _ xm);have mx:m=x:=by
   rcases AX.mp h1 with rfl | h1
   ·lia
   ·have:=QL ne (JX _ 0 bs) m h1
    lia
  dsimp only;lia
theorem AEp{bs:List (List Int)}{p x:Nat}(xl:x<bs.length)(h:onB bs p x=true):x<Lp bs p:=by
 have hm:(p:Int)∈bs.getD x []:=of_decide_eq_true h;rw[AC,AK xl] at hm;have xm:(x:Int)∈hits (p:Int) bs:=L2.Ht.mpr ⟨x,_,AK xl,hm,by lia⟩;unfold Lp;cases e:(hits (p:Int) bs).getLast? with
 | none=>rw[NV.mp e] at xm;cases xm
 | some y =>
  obtain ⟨ne,ey⟩:=NX.mp e |> λ⟨ys,h⟩=>(⟨by rw[h];simp,by simp[h]⟩:∃ne:hits (p:Int) bs≠[],(hits (p:Int) bs).getLast ne=y)
  have:=QL ne (JX _ 0 bs) x xm;dsimp only;lia
theorem AFK{bs:List (List Int)}{p:Nat}:Lp bs p<=bs.length:=by
 unfold Lp;cases e:(hits (p:Int) bs).getLast? with
 | none=>exact Bi _
 | some y =>
  have:=WK (List.mem_of_getLast? e);dsimp only;lia
def nI(ks:List Nat):List V:=ks.map λ(k:Nat)=>V.int (k:Int)
theorem AAh(ks:List Nat):(nI ks).length=ks.length:=by unfold nI;rw[AB]
theorem ADN{ks:List Nat}{j:Nat}{x:V}(h:(nI ks)[j]?=some x):∃k:Nat,ks[j]?=some k/\x=.int (k:Int):=by
 unfold nI at h;rw[BM] at h;cases g:ks[j]? with
 | none=>rw[g] at h;cases h
 | some k=>rw[g] at h;cases h;exact ⟨k,rfl,rfl⟩
def behP(bs:List (List Int))(z t:Nat):List Nat:=(AZ z).filter λp=>decide (Lp bs p=t)
def ABG(K:Au)(C:Addr):Sp:=λvs H Q _=>∃(p:Addr) (t z:Nat) (bs:List (List Int)),vs=[.ref p,.int t]/\WebAt K C H p z bs/\z<=10/\bs.length<=12/\∀(l:Addr) (H':Hp),Same H H'->H l=none->H' l=some (.lst (nI (behP bs z t)))->Q (.ref l) H'
section
variable{P:AM}{w:AT}{K:Au}{mg:Str->Option Ap}{base:Heap}{f C D:Addr}{fd:BV}
theorem ADk:FnScope ["web","number"] ["web","number"] (Ac FZ):=⟨rfl,rfl,rfl,by decide +kernel,rfl,by decide +kernel,by decide +kernel⟩
theorem ACa{fS fA:Addr}{fdS fdA:BV}(F:Fun K "points_behind" "points_behind" FZ f fd)(T:Txt K mg C)(GS:FnOk P w K mg base CX0 1 fS fdS ["self"] (PL K C))(bS:Binds K fdS ["self"] [])(mS:Meth K C "size" fS)
  (GA:FnOk P w K mg base CX0 1 fA fdA ["self","point"] (ADe K C)) (bA:Binds K fdA ["self","point"] []) (mA:Meth K C "at" fA):FnOk P w K mg base CX0 2 f fd ["web","number"] (ABG K C):=by
 refine F.ok ADk (λvs H Q E h=>?_) (λcdv A outer s H vs Q E hr h=>?_)
 ·obtain ⟨p,t,z,bs,rfl,_⟩:=h
  rfl
 obtain ⟨p,t,z,bs,rfl,hW,z10,b12,q⟩:=h;obtain ⟨dx,j,hp,_⟩:=id hW;refine ⟨_,Aj (Av (Ca (Ac FZ) ["point"] ["number","web"] [1,0] rfl rfl (by decide +kernel) ⟨⟨rfl,by decide +kernel⟩,⟨rfl,by decide +kernel⟩,trivial⟩ (Cp rfl T.range (Aa (Bo (pv 0) T.cl mS GS hr bS .nil pass0) Ad))
   (λ_ _ _=>Am (i:=0) (show ((["point"]:List Str)++(["number","web"]:List Str)).Nodup by decide +kernel) rfl (BF rfl))
   (λ_ _ _=>Dj (Ar Eu (BK (YH (K:=K) rfl rfl) rfl T.max J1 (Aa (Aw (ABR (K:=K) rfl) (Ck (Aa (Vy Pa Ah) Ad)) (CJ (pv 2) T.cl mA GA hr bA .nil pass0 (Aa (pv 0) Ad))) Ad)) (Aw DP (pv 1) Ah) (nomark _)))
   (λ_ _ _=>pv 0))),?_⟩
 refine ⟨_,rfl,p,dx,_,rfl,hp,Ei _ _ (by decide +kernel) (by decide +kernel),p,z,bs,rfl,hW,_,rfl,by lia,by lia,λZ hZ=>?_⟩;refine Cg (lo:=0) (n:=(z:Int).toNat) (λj τ H2=>∃o:Option V,τ=[o,some (.int t),some (.ref p)]/\Same H H2/\H2 Z=some (.lst (nI ((AZ j).filter λp=>decide (Lp bs p=t))))) ⟨none,rfl,Same.new hZ _,Ab⟩ ?_ ?_
 ·rintro j τ H2 hj ⟨o,rfl,s2,eZ⟩
  have ej:(0:Int)+j=(j:Int):=by lia
  rw[ej];refine ⟨1,rfl,(by show 1<=sizeLine;decide),λM hM=>?_⟩;have s3:=s2.trans (Same.new hM (.lst [.int (-1)]));refine ⟨_,rfl,p,dx,_,rfl,s3 _ _ hp,Ei _ _ (by decide +kernel) (by decide +kernel),_,rfl,p,z,j,bs,rfl,hW.same s3,b12,λl H4 s4 hl el=>?_⟩;have hlen:(hits (j:Int) bs).length<=bs.length:=Hz _ 0 bs;have eM4:=s4 _ _ (show (upd H2 M (.lst [.int (-1)])) M=some (.lst [.int (-1)]) from Ab);refine ⟨M,l,_,_,rfl,rfl,SqL.of eM4,SqL.of el,De (Ay (by rw[AB];show 1+_<=1000;lia)),λN hN=>?_⟩;have s5:=Same.new hN (.lst (V.int (-1)::(hits (j:Int) bs).map V.int));refine ⟨N,(-1:Int)::hits (j:Int) bs,rfl,SqL.of Ab,by simp,λm hm hx=>?_⟩;have e:=ADv hm hx;have s6:=(s3.trans s4).trans s5;have eZ6:=s5 _ _ (s4 _ _ (Same.new hM _ _ _ eZ));refine ⟨_,rfl,_,_,rfl,rfl,rfl,_,rfl,?_⟩;have lz:((AZ j).filter λp=>decide (Lp bs p=t)).length<=j:=CF (EZ ..) (by rw[CS];exact AF _);refine ite2 (λc=>?_) (λc=>?_)
  ·have c':Lp bs j=t:=by
    have:=of_decide_eq_true c;injection this with this
    lia
   refine ⟨_,rfl,_,eZ6,Ay (by rw[AAh];lia),_,rfl,λb o e=>?_,?_⟩
   ·rw[Ag (Af e hZ)]
    exact s6 b o e
   ·rw[Ab,IN,Ex,OP (by simpa using c')]
    unfold nI;rw[B8];rfl
  ·have c':¬ Lp bs j=t:=λz=>c (decide_eq_true (by rw[e,z]))
   refine ⟨_,rfl,s6,?_⟩;rw[IN,Ex,K7 (by simpa using c'),T8,CU];exact eZ6
 ·rintro τ H2 ⟨o,rfl,s2,eZ⟩
  rw[C9] at eZ;exact q Z H2 s2 hZ eZ
end
end K53
end
section
namespace L2
open PySem PySem.Spec PyProof.Rows
section
variable{prog:AM}{w:AT}{A:BQ}{E:Ap->AA->Prop}{s:AA}{d:Addr}{o:Obj}{es:Array M4}{ep:Nat}
theorem Mi(d:Addr)(hd:(d==D8)=false) :
  MeetsIn prog w (Builtin.«dict.__len__» ⟨[.ref d],[]⟩) (λ_ R s=>∃o es ep,s.heap.get? d=some o/\o.data=.dict es ep/\R (.ok (.ret (.int es.size s.toks))) {s with toks:=s.toks+1}) :=
 .of_wp λA R s ⟨o,es,ep,ho,hdat,h⟩=>by
  show wpAny _ _ (dictSize d >>= _) _ _ s;unfold dictSize;refine As (As (Lm ho hdat (wpAny_pure ?_)));show wpAny _ _ (Wl d >>= _) _ _ s;refine As (wpAny_pendingCount_other hd ?_);refine T7 ?_;rw[Sk];exact h
theorem ABk{Q:Ap->AA->Prop}(hd:(d==D8)=false)(hT:s.TypeIs (.ref d) "dict")(ho:s.heap.get? d=some o)(hdat:o.data=.dict es ep)(hfit:(es.size:Int)<2 ^ 63)
  (h:Q (.int es.size (s.toks+1)) {s with toks:=s.toks+1+1}):wpAny (AL prog w) A (call (.builtin "len") [.ref d]) Q E s:=by
 refine KG kind_len plain_len entry_len (args_len1 _) ?_;unfold Builtin.«len»;refine As (m:=oneArg "len" _) (wpAny_pure ?_);refine As (m:=callSpecial? (.ref d) (HV "__len__")) (wpAny_callSpecial?_slot (name:=HV "__len__") hT PV
  (Sb PV hT PySem.F.entry_dict_len (PySem.F.args_dict_len_1 _) (Mi d hd) ⟨o,es,ep,ho,hdat,?_⟩))
 show wpAny _ _ _ _ _ {s with toks:=s.toks+1};refine As (EU (wpAny_pure ?_));refine As (wpAny_letGo ?_);show wpAny _ _ (if ((es.size:Nat):Int)<0 then _ else _) _ _ _;rw[if_neg (by lia)];show wpAny _ _ (if ((es.size:Nat):Int) >= 2 ^ 63 then _ else _) _ _ _;rw[if_neg (by lia)];exact As (wpAny_mkInt (wpAny_pure ⟨_,rfl,h⟩))
end
section
variable{X:Cx}
theorem Sw:CallR X (.builtin "len") (λxs H Q=>∃p kvs,xs=[.ref p]/\H p=some (.dT kvs)/\Q (.int kvs.length) H):=by
 intro pins s σ H xs us Q I rr h;obtain ⟨p,kvs,rfl,hp,q⟩:=h;obtain ⟨u,rfl,ru⟩:=rr.one;cases ru;obtain ⟨z,lo,ts,kt,o,es,ep,h1,h2,h3,h4,h5⟩:=(show ObjOk X.prog X.w H s.heap p (.dT kvs) from I.hok p _ hp);have hl:es.size=kvs.length:=by
  rw[<- AU,h4,AB];exact (B4 kt).symm
 refine ABk lo ⟨o,h1,h2.1⟩ h1 h3 (by rw[hl];rw[FX] at z;lia) ?_;exact ⟨.int kvs.length,H,I.tok _,⟨_,by rw[hl]⟩,q⟩
end
def Itd(lo:Int)(n:Nat):It:=⟨λi _=>i<n,λi H x H'=>H'=H/\x=.int (lo-i),λi _=>n<=i⟩
theorem XM{P:AM}{w:AT}{K:Au}{tg:Expr}(it:Addr)(lo:Int)(n:Nat):Turn P w K tg (Itd lo n) [it] it (λi h=>OZ h it (lo+(i:Nat)*(-1)) ((n:Int)-(i:Nat)) (-1)) where
 mem:=by simp
 obj:=λi h st b hb=>by
  have e:b=it:=by simpa using hb
  subst e;exact ⟨_,st,λv z=>by
   have z':SU _=U6 v:=z;cases z'⟩
 keep:=λi h h' st k=>k it (by simp) _ st
 item:=by
  intro X hP hw hK hc i pins s σ H E I hf st hg;subst hP hw hK;obtain ⟨f0,f1,f2,f3,f4,f5⟩:=hf it (by simp);have W:=XI (prog:=X.prog) (w:=X.w) (I.ok.hd hc) it lo (-1) n;refine W.item i s _ _ hg st λv h' tk hv st' kk=>?_;obtain ⟨t,rfl⟩:=hv;have I1:Inv X pins σ H {s with heap:=h',toks:=tk}:=I.turned (λb o hb e=>kk b o (by simpa using hb) e) f0 f1 f3 f4 f5;refine ⟨_,rfl,WM (s:={s with heap:=h',toks:=tk}) (n:="range_iterator") st' rfl rfl (by decide) ⟨.int (lo-i),H,I1,⟨t,?_⟩,⟨rfl,rfl⟩,st',λb hb=>(hf b hb).1⟩⟩
  congr 1
  lia
 done:=by
  intro X hP hw hK hc i pins s σ H E I hf st hg;subst hP hw hK;obtain ⟨f0,f1,f2,f3,f4,f5⟩:=hf it (by simp);exact O0 (I.ok.hd hc) st (by have:n<=i:=hg;lia) λh' eb=>⟨rfl,I.turned (t':=s.toks) (λb o hb e=>eb b o hb e) f0 f1 f3 f4 f5⟩
 self:=λ_ _ _ _ _ st h=>O1 st h
theorem rangeSize_down(a b:Int):Fm a b (-1)=if b<a then a-b else 0:=by
 unfold Fm;simp only[show ¬ ((-1:Int)>0) by decide,if_false];split
 ·rw[show (- -1:Int)=1 from rfl,WS];lia
 ·rfl
theorem small_down{a b:Int}(ha:-(2 ^ 62)<=a)(ha':a<2 ^ 62)(hb:-(2 ^ 62)<=b)(hb':b<2 ^ 62):KA a b (-1)=true:=by
 unfold KA;rw[rangeSize_down];simp only[U7,DF,Bool.or_eq_true,decide_eq_true_eq,beq_iff_eq,show ¬ ((-1:Int)>0) by decide,if_false];split<;>lia
section
variable{X:Cx}{tg:Expr}
theorem Xh{pins:List (Addr×Obj)}{σ:St}{H:Hp}{s:AA}{R:It->Hp->Prop}{E:Ap->AA->Prop}{lo hi:Int}{t u v:Tok}{tk:Nat}(I:Inv X pins σ H s)(h1:-(2 ^ 62)<=lo)(h2:lo<2 ^ 62)(h3:-(2 ^ 62)<=hi)(h4:hi<2 ^ 62)
  (q:R (Itd lo (lo-hi).toNat) H):wpAny (AL X.prog X.w) X.A (Po (.ref s.heap.objs.size)) (PIE X pins σ tg R) E {s with heap:=s.heap.push {cls:=.type "range",data:=.fields #[.int lo t,.int hi u,.int (-1) v]},toks:=tk}:=by
 refine RC (XN ..) (small_down h1 h2 h3 h4) ?_;have I1:Inv X pins σ H {s with heap:=s.heap.push {cls:=.type "range",data:=.fields #[.int lo t,.int hi u,.int (-1) v]},toks:=tk}:=I.kept λb o e=>AD _ e;refine ⟨(s.heap.push {cls:=.type "range",data:=.fields #[.int lo t,.int hi u,.int (-1) v]}).objs.size,[(s.heap.push {cls:=.type "range",data:=.fields #[.int lo t,.int hi u,.int (-1) v]}).objs.size],_,_,H,rfl,
  I1.kept (t':=tk) λb o e=>AD _ e,XM _ lo (lo-hi).toNat,?_,λb hb=>?_,q⟩
 ·have e1:lo+((0:Nat):Int)*(-1)=lo:=by simp
  have e2:(((lo-hi).toNat:Nat):Int)-((0:Nat):Int)=Fm lo hi (-1):=by rw[rangeSize_down];split<;>lia
  show OZ _ _ (lo+((0:Nat):Int)*(-1)) ((((lo-hi).toNat:Nat):Int)-((0:Nat):Int)) (-1);rw[e1,e2];exact AN _ rfl
 ·have e:b=(s.heap.push {cls:=.type "range",data:=.fields #[.int lo t,.int hi u,.int (-1) v]}).objs.size:=by simpa using hb
  subst e;exact I1.fpOk (AF _) (I1.hok.fresh (AF _))
def AEl(ta:TA):TI:=λσ H R=>ta σ H λvs H1=>∃i j:Int,vs=[.int i,.int j,.int (-1)]/\(-(2 ^ 62)<=i/\i<2 ^ 62/\-(2 ^ 62)<=j/\j<2 ^ 62)/\R (Itd i (i-j).toNat) H1
theorem Od{a b c:Expr}{ta:TA}{p pos:Pos}(hg:Gl X "range")(hm:X.mg "range" = none)(ha:PA X [a,b,c] ta)(hs:Ct [a,b,c] X.env=[(false,eval a X.env),(false,eval b X.env),(false,eval c X.env)]:=by rfl)(hs2:Ct [b,c] X.env=[(false,eval b X.env),(false,eval c X.env)]:=by rfl) :
  PI X tg (.Call (.Name "range" p) [a,b,c] [] pos) (AEl ta):=by
 intro pins s σ H R I h;refine VY (Em I hg hm OQ (D0 (thn (ha pos pins s σ H _ I h) λus s1 ⟨vs,H1,I1,r1,q1⟩=>?_) (by rw[hs,hs2]) (by rw[hs2];rfl)));obtain ⟨i,j,e,⟨q1,q2,q3,q4⟩,q⟩:=q1;subst e;cases r1 with
 | cons r rr =>
  cases rr with
  | cons r' rr =>
   cases rr with
   | cons r'' rr =>
    cases rr;obtain ⟨t,rfl⟩:=r;obtain ⟨t',rfl⟩:=r';obtain ⟨t'',rfl⟩:=r'';exact call_range_3 (by decide) (Xh I1 q1 q2 q3 q4 q) (.inl (O2 (by decide)))
theorem Ry{lo:Int}{n:Nat}{g:TG}{tb:TS}{D:Ends}{σ:St}{H:Hp}(Pv:Nat->St->Hp->Prop)(h0:Pv 0 σ H)
  (hs:∀i σ H,i<n->Pv i σ H->g (.int (lo-i)) σ H λσ2 H2=>tb {D with nx:=Pv (i+1),ct:=Pv (i+1),bk:=D.nx} σ2 H2) (hd:∀σ H,Pv n σ H->D.nx σ H) :
  ∃W:Nat->Nat->St->Hp->Prop,(∃m,W 0 m σ H)/\∀i m σ H,W i m σ H ->
   ((Itd lo n).stop i H/\D.nx σ H)\/((Itd lo n).go i H/\∃N:St->Hp->Prop,(∀σ' H',N σ' H'->∃m',m'<m/\W (i+1) m' σ' H')/\∀x H',(Itd lo n).yld i H x H'->g x σ H' λσ2 H2=>tb {D with nx:=N,ct:=N,bk:=D.nx} σ2 H2):=by
 refine ⟨λi m σ H=>m=n-i/\i<=n/\Pv i σ H,⟨n,by simp,Bi _,h0⟩,?_⟩;rintro i m σ H ⟨rfl,hi,p⟩;by_cases hlt:i<n
 ·refine .inr ⟨hlt,Pv (i+1),λσ' H' p'=>⟨n-(i+1),by lia,rfl,hlt,p'⟩,λx H' y=>?_⟩
  obtain ⟨e,y⟩:=y;subst e y;exact hs i σ _ hlt p
 ·have e:i=n:=by lia
  subst e;exact .inl ⟨AF _,hd σ H p⟩
end
end L2
end
section
namespace L2
open PySem
open Sem (wp)
end L2
end
section
namespace L2
open PySem
open Sem (wp)
open AutoSeq1 (wpAny_loadPart')
end L2
end
section
namespace L2
open PySem PySem.Spec PyProof.Rows
theorem Yi{bs:List Bool}{us:List Ap}(r:Vals (bs.map V.bl) us):us=bs.map G1:=by
 induction bs generalizing us with
 | nil=>cases r;rfl
 | cons b bs ih =>
  rw[B5] at r;cases r with
  | cons h t =>
   rw[ih t,B5]
   congr 1
section
variable{X:Cx}{K:Au}
theorem Li(hc:X.calm=true):CallR X (.builtin "all") (λxs H Q=>∃(p:Addr) (bs:List Bool),xs=[.ref p]/\SqL X.K H p (bs.map V.bl)/\Q (.bl (bs.all id)) H):=by
 intro pins s σ H xs us Q I r h;obtain ⟨p,bs,rfl,hq,q⟩:=h;obtain ⟨u0,rfl,ru⟩:=r.one;cases ru;obtain ⟨its,rv,pl,hz⟩:=I.list hq;have e:=Yi rv;subst e;have hl:=pl.isList;have hlt:p<s.heap.objs.size:=by obtain ⟨_,e,_⟩:=hl;exact AY e
 refine call_all_walk (NI hl ?_);refine ⟨s.heap.objs.size,[s.heap.objs.size,p],[s.heap.objs.size],(bs.map G1).toArray.size,_,_,λi=>(bs[i]?).getD true,rfl,XZ (A:=X.A.in1) (I.ok.hd hc) _ p (BU hlt) (bs.map G1).toArray,
  ⟨⟨_,AN _ rfl,rfl,rfl⟩,hl.push _⟩,λi v s' Q' E' hP hQ=>?_,λh' tk hk=>?_⟩
 ·have hP':(bs.map G1)[i]?=some v:=by simpa using hP
  rw[BM] at hP';cases g:bs[i]? with
  | none=>rw[g] at hP';cases hP'
  | some b =>
   rw[g] at hP';cases hP';simp only[g,Option.getD_some] at hQ;exact FA hQ
 ·have e:((AZ (bs.map G1).toArray.size).all λi=>(bs[i]?).getD true)=bs.all id:=by
   rw[A9,AB];exact LSm.range_all bs
  rw[e];exact ⟨.bl (bs.all id),H,I.kept (LSm.kept_iter hk),rfl,q⟩
end
end L2
end
section
namespace L2
open PySem PySem.Spec PyProof.Rows
open AutoSeq1 (wpAny_loadPart')
end L2
end
section
theorem L2.smallN{n:Nat}(h:n<=100000):n<PySem.sizeLine:=G4 h (by decide)
namespace K53s
open PySem L2 G
def top(i:Nat):Stmt:=G7.main.body.getD i (.Pass ⟨0,0,0,0⟩)
abbrev Ge:Stmt:=top 9
abbrev Hf:Stmt:=top 10
abbrev sIn:Stmt:=top 11
abbrev Ew:Stmt:=inClass (top 7) 0
abbrev OD:Stmt:=inClass (top 7) 1
abbrev JC:Stmt:=inClass (top 7) 2
abbrev Xv:Stmt:=inClass (top 7) 3
theorem ra:¬ (("amount" : Str) = "rows"):=by decide +kernel
theorem ha:¬ (("amount" : Str) = "head"):=by decide +kernel
theorem hr':¬ (("rows" : Str) = "head"):=by decide +kernel
def flds(z:Int)(j:Addr)(h:Int):List (Str×V):=putF "head" (.int h) (putF "rows" (.ref j) (putF "amount" (.int z) []))
theorem Ga(z:Int)(j:Addr)(h:Int):(flds z j h).lookup ("amount" : Str)=some (.int z):=by
 unfold flds;rw[Ai,if_neg ha,Ai,if_neg ra,Ai,if_pos rfl]
theorem Xq(z:Int)(j:Addr)(h:Int):(flds z j h).lookup ("rows" : Str)=some (.ref j):=by
 unfold flds;rw[Ai,if_neg hr',Ai,if_pos rfl]
structure Txt(K:Au)(mg:Str->Option Ap)(C:Addr):Prop where
 cl:Cls K C
 nA:NoAttr K C "amount"
 nR:NoAttr K C "rows"
 nH:NoAttr K C "head"
 mgC:mg "Sieve" = some (.ref C)
 mt:∃t,mg "MOST_TIES" = some (.int 12 t)
 len:mg "len" = none
 range:mg "range" = none
 int:mg "int" = none
 sorted:mg "sorted" = none
 set:mg "set" = none
 tuple:mg "tuple" = none
 list:mg "list" = none
 bool:mg "bool" = none
 enum:mg "enumerate" = none
 all:mg "all" = none
 isi:mg "isinstance" = none
 min:mg "min" = none
 rev:mg "reversed" = none
def rRow(K:Au):Rep Row:=λH r v=>∃p,v=.ref p/\SqT K H p [.int r.1,.int r.2.1,.int r.2.2]
theorem Bv{K:Au}:TRep (rRow K):=λH H' r v t ⟨p,a,b⟩=>⟨p,a,t.seq b⟩
def SvAt(K:Au)(C:Addr)(H:Hp)(p:Addr)(z:Int)(rows:List Row)(h:Int):Prop:=∃dx j,H p=some (.ins C dx (flds z j h))/\rTup K (rRow K) H rows (.ref j)
theorem SvAt.same{K:Au}{C:Addr}{H H':Hp}{p:Addr}{z hd:Int}{rows:List Row}(h:SvAt K C H p z rows hd)(e:Same H H'):SvAt K C H' p z rows hd:=by
 obtain ⟨dx,j,h1,h2⟩:=h;exact ⟨dx,j,e _ _ h1,Aq Bv _ _ _ _ e.ts h2⟩
def JF(K:Au)(C:Addr):Sp:=λvs H Q _=>∃(p dx l:Addr) (z h:Int) (xs:List V) (rows:List Row),vs=[.ref p,.int z,.ref l,.int h]/\H p=some (.ins C dx [])/\SqL K H l xs/\Cb (rRow K H) rows xs /\
 ∀(H':Hp),(∀b o,H b=some o->b≠p->H' b=some o)->SvAt K C H' p z rows h->Q .non H'
def AAS(K:Au)(C:Addr):Sp:=λvs H Q _=>∃(p:Addr) (z h:Int) (rows:List Row),vs=[.ref p]/\SvAt K C H p z rows h/\Q (.int z) H
def ACs(K:Au)(C:Addr):Sp:=λvs H Q _=>∃(p:Addr) (z h:Int) (rows:List Row),vs=[.ref p]/\SvAt K C H p z rows h/\Q (.int h) H
def WW(K:Au)(C:Addr):Sp:=λvs H Q _=>∃(p:Addr) (z h:Int) (rows:List Row),vs=[.ref p]/\SvAt K C H p z rows h/\∀(l:Addr) (ys:List V) (H':Hp),Same H H'->H l=none->H' l=some (.lst ys)->Cb (rRow K H') rows ys->Q (.ref l) H'
section
variable{P:AM}{w:AT}{K:Au}{mg:Str->Option Ap}{base:Heap}{f C:Addr}{fd:BV}
theorem ADz:FnScope ["self"] ["self"] (Ac OD):=⟨rfl,rfl,rfl,by decide +kernel,rfl,by decide +kernel,by decide +kernel⟩
theorem ACf(F:Fun K "many" "Sieve.many" OD f fd)(T:Txt K mg C):FnOk P w K mg base CX0 1 f fd ["self"] (AAS K C):=by
 refine F.ok ADz (λvs H Q E h=>?_) (λcdv A outer s H vs Q E hr h=>?_)
 ·obtain ⟨p,z,hd,rows,rfl,_⟩:=h
  rfl
 obtain ⟨p,z,hd,rows,rfl,⟨dx,j,hP,hj⟩,q⟩:=h;refine ⟨_,Aj (Av (Br (pv 0) rfl)),?_⟩;exact ⟨_,rfl,p,C,dx,_,_,rfl,hP,T.cl,T.nA,Ga _ _ _,q⟩
theorem ABz:FnScope ["self"] ["self"] (Ac JC):=⟨rfl,rfl,rfl,by decide +kernel,rfl,by decide +kernel,by decide +kernel⟩
theorem ABO(F:Fun K "knots" "Sieve.knots" JC f fd)(T:Txt K mg C):FnOk P w K mg base CX0 1 f fd ["self"] (WW K C):=by
 refine F.ok ABz (λvs H Q E h=>?_) (λcdv A outer s H vs Q E hr h=>?_)
 ·obtain ⟨p,z,hd,rows,rfl,_⟩:=h
  rfl
 obtain ⟨p,z,hd,rows,rfl,⟨dx,j,hP,j',xs,ej,hj,pj⟩,q⟩:=h;cases ej;refine ⟨_,Aj (Av (Bk Fb rfl T.list IX (Aa (Br (pv 0) rfl) Ad))),?_⟩;refine ⟨_,rfl,p,C,dx,_,_,rfl,hP,T.cl,T.nR,Xq _ _ _,j,xs,rfl,.inr hj,λl hl=>?_⟩;refine q l xs _ (Same.new hl _) hl Ab ?_;exact Paired.imp (λa b=>Bv H _ a b (TSm.new hl)) pj
theorem Wx(z:Int)(j:Addr)(h:Int):(flds z j h).lookup ("head" : Str)=some (.int h):=by
 unfold flds;rw[Ai,if_pos rfl]
theorem AEo:FnScope ["self"] ["self"] (Ac Xv):=⟨rfl,rfl,rfl,by decide +kernel,rfl,by decide +kernel,by decide +kernel⟩
theorem ADX(F:Fun K "top" "Sieve.top" Xv f fd)(T:Txt K mg C):FnOk P w K mg base CX0 1 f fd ["self"] (ACs K C):=by
 refine F.ok AEo (λvs H Q E h=>?_) (λcdv A outer s H vs Q E hr h=>?_)
 ·obtain ⟨p,z,hd,rows,rfl,_⟩:=h
  rfl
 obtain ⟨p,z,hd,rows,rfl,⟨dx,j,hP,hj⟩,q⟩:=h;refine ⟨_,Aj (Av (Br (pv 0) rfl)),?_⟩;exact ⟨_,rfl,p,C,dx,_,_,rfl,hP,T.cl,T.nH,Wx _ _ _,q⟩
theorem Uq:FnScope ["self","n","rows","head"] ["self","n","rows","head"] (Ac Ew):=⟨rfl,rfl,rfl,by decide +kernel,rfl,by decide +kernel,by decide +kernel⟩
theorem Hr(F:Fun K "__init__" "Sieve.__init__" Ew f fd)(T:Txt K mg C):FnOk P w K mg base CX0 1 f fd ["self","n","rows","head"] (JF K C):=by
 refine F.ok Uq (λvs H Q E h=>?_) (λcdv A outer s H vs Q E hr h=>?_)
 ·obtain ⟨p,dx,l,z,h,xs,rows,rfl,_⟩:=h
  rfl
 obtain ⟨p,dx,l,z,h,xs,rows,rfl,hP,hS,pa,q⟩:=h;refine ⟨_,Ae (Dp (pv 0) (pv 1) rfl)
  (Ae (Dp (pv 0) (Bk Ce rfl T.tuple DJ (Aa (pv 2) Ad)) rfl)
  (Aj (Dp (pv 0) (pv 3) rfl))),?_⟩
 have sl:∀{H:Hp}{fs gs:List (Str×V)}{a:Addr}{zs:List V},H p=some (.ins C dx fs)->SqL K H a zs->SqL K (upd H p (.ins C dx gs)) a zs:=λ{H fs gs a zs} hP h=>by
  rcases h with (h | ⟨o,h⟩) | h
  ·exact .inl (.inl (by rw[Ag (Cd h hP (by intro z;cases z))];exact h))
  ·exact .inl (.inr ⟨o,by rw[Ag (Cd h hP (by intro z;cases z))];exact h⟩)
  ·exact .inr h
 have ts:∀{H:Hp}{fs gs:List (Str×V)},H p=some (.ins C dx fs)->TSm H (upd H p (.ins C dx gs)):=λ{H fs gs} hP b u hb t=>by
  rw[Ag ?_]
  ·exact hb
  ·rintro rfl
   rw[hP] at hb;cases hb;obtain ⟨ys,e | ⟨o,e⟩⟩:=t
   ·cases e
   ·cases e
 refine ⟨_,rfl,_,rfl,p,C,dx,[],rfl,hP,T.cl,T.nA,(by show 0<1000;decide),?_⟩;refine ⟨_,rfl,l,xs,rfl,.inl ⟨sl hP hS,λj hj=>?_⟩⟩;have jp:p≠j:=λe=>by rw[<- e,Ab] at hj;cases hj
 have hP2:(upd (upd H p (.ins C dx (putF "amount" (.int z) []))) j (.tup xs)) p=some (.ins C dx (putF "amount" (.int z) [])):=by rw[Ag jp,Ab]
 have t2:=ts (gs:=putF "rows" (.ref j) (putF "amount" (.int z) [])) hP2;refine ⟨_,rfl,p,C,dx,_,rfl,hP2,T.cl,T.nR,(by show 1<1000;decide),?_⟩;have t3:=ts (H:=upd (upd (upd H p (.ins C dx (putF "amount" (.int z) []))) j (.tup xs)) p (.ins C dx (putF "rows" (.ref j) (putF "amount" (.int z) [])))) (gs:=flds z j h) Ab;refine ⟨_,rfl,_,rfl,p,C,dx,_,rfl,Ab,T.cl,T.nH,(by show 2<1000;decide),?_⟩;refine q _ (λb o e hb=>?_) ⟨dx,j,Ab,j,xs,rfl,t3.seq (t2.seq (SqT.of Ab)),?_⟩
 ·rw[Ag hb,Ag hb,Ag ?_,Ag hb]
  ·exact e
  ·rintro rfl
   rw[Ag hb,e] at hj;cases hj
 ·exact Paired.imp (λa b r=>Bv _ _ _ _ t3 (Bv _ _ _ _ t2 (Bv _ _ _ _ (TSm.new hj) (Bv _ _ _ _ (ts hP) r)))) pa
end
abbrev Sq(K:Au)(H:Hp)(l:Addr)(xs:List V):Prop:=SqL K H l xs\/SqT K H l xs
theorem Sq.same{K:Au}{H H':Hp}{l:Addr}{xs:List V}(h:Sq K H l xs)(e:Same H H'):Sq K H' l xs:=h.elim (λz=>.inl (e.seq z)) λz=>.inr (e.ts.seq z)
def rIxA(K:Au):R2:=λx y H Q=>rIxL K x y H Q\/rIxT K x y H Q
theorem Gg{X:Cx}:IxR X (rIxA X.K):=by
 intro value slice pins s σ H x y v u Q I rx ry h hs;rcases h with h | h
 ·exact Bm value slice pins s σ H x y v u Q I rx ry h hs
 ·exact Dn value slice pins s σ H x y v u Q I rx ry h hs
theorem PB{X:Cx}{K:Au}(hK:X.K=K):IxR X (rIxA K):=by subst hK;exact Gg
theorem ixA{K:Au}{H:Hp}{p:Addr}{xs:List V}{i:Int}{v:V}{Q:VK}(h:Sq K H p xs)(e:atI xs i=some v)(q:Q v H):rIxA K (.ref p) (.int i) H Q :=
 h.elim (λz=>.inl ⟨p,_,i,_,rfl,rfl,z,e,q⟩) λz=>.inr ⟨p,_,i,_,rfl,rfl,z,e,q⟩
def rRowA(K:Au)(H:Hp)(r:Row)(v:V):Prop:=∃p,v=.ref p/\Sq K H p [.int r.1,.int r.2.1,.int r.2.2]
theorem YW{K:Au}{H H':Hp}{r:Row}{v:V}(e:Same H H')(h:rRowA K H r v):rRowA K H' r v:=let ⟨p,a,b⟩:=h;⟨p,a,b.same e⟩
def RowsAt(K:Au)(H:Hp)(l:Addr)(rows:List Row):Prop:=∃xs,Sq K H l xs/\Cb (rRowA K H) rows xs
theorem RowsAt.same{K:Au}{H H':Hp}{l:Addr}{rows:List Row}(h:RowsAt K H l rows)(e:Same H H'):RowsAt K H' l rows:=let ⟨xs,a,b⟩:=h;⟨xs,a.same e,Paired.imp (λ_ _ r=>YW e r) b⟩
theorem RowsAt.of{K:Au}{H:Hp}{l:Addr}{rows:List Row}(h:rLst K (rRow K) H rows (.ref l)):RowsAt K H l rows:=by
 obtain ⟨l',xs,e,hS,pa⟩:=h;cases e;exact ⟨xs,.inl hS,Paired.imp (λ_ _ ⟨p,a,b⟩=>⟨p,a,.inr b⟩) pa⟩
abbrev iN(s:List Nat):List V:=s.map λ(x:Nat)=>V.int (x:Int)
theorem PX{K:Au}{H:Hp}{rows:List Row}{l:Addr}{k:Nat}(h:RowsAt K H l rows)(kn:Knot rows k)(h2:2<=k) :
  ∃xs p,Sq K H l xs/\atI xs ((k:Int)-2)=some (.ref p)/\Sq K H p [.int (rows.getD (k-2) (0,0,0)).1,.int (rows.getD (k-2) (0,0,0)).2.1,.int (rows.getD (k-2) (0,0,0)).2.2]:=by
 obtain ⟨xs,hS,pa⟩:=h;obtain ⟨v,hv,p,rfl,hp⟩:=Paired.getL pa (Bj kn h2);exact ⟨xs,p,hS,by rw[show (k:Int)-2=((k-2:Nat):Int) by lia];exact Bl hv,hp⟩
theorem AAa{K:Au}{H:Hp}{rows:List Row}{l:Addr}{k:Nat}(h:rLst K (rRow K) H rows (.ref l))(kn:Knot rows k)(h2:2<=k) :
  ∃xs p,SqL K H l xs/\atI xs ((k:Int)-2)=some (.ref p)/\SqT K H p [.int (rows.getD (k-2) (0,0,0)).1,.int (rows.getD (k-2) (0,0,0)).2.1,.int (rows.getD (k-2) (0,0,0)).2.2]:=by
 obtain ⟨l',xs,e,hS,pa⟩:=h;cases e;obtain ⟨v,hv,p,rfl,hp⟩:=Paired.getL pa (Bj kn h2);exact ⟨xs,p,hS,by rw[show (k:Int)-2=((k-2:Nat):Int) by lia];exact Bl hv,hp⟩
theorem at0{a b c:V}:atI [a,b,c] 0=some a:=rfl
theorem at1{a b c:V}:atI [a,b,c] 1=some b:=rfl
theorem at2{a b c:V}:atI [a,b,c] 2=some c:=rfl
def lay(rows:List Row)(t:Nat)(rc:List Nat)(j:Nat):List Nat:=(rc.take j).filter λk=>decide (tieOf rows k=t)
theorem Qk{rows:List Row}{t:Nat}{rc:List Nat}{j k:Nat}(h:rc[j]?=some k):lay rows t rc (j+1)=lay rows t rc j++if tieOf rows k=t then [k] else []:=by
 unfold lay;rw[EI,h,Ex];by_cases c:tieOf rows k=t
 ·simp[c]
 ·simp[c]
theorem Ie{rows:List Row}{t:Nat}{rc:List Nat}{k:Nat}:k∈lay rows t rc rc.length↔k∈rc/\tieOf rows k=t:=by
 unfold lay;rw[DI,C7];simp
theorem Jb{n:Nat}(h:n<=20000):n<sizeLine:=G4 h (by decide)
def has(kvs:List (Key×V))(k:Nat):Prop:=(valV kvs (.inl (k:Int))).isSome=true
theorem has_put{kvs:List (Key×V)}{a k:Nat}{v:V}:has (putK kvs (.inl (a:Int)) v) k↔k=a\/has kvs k:=by
 unfold has;rw[Ea];by_cases e:k=a
 ·subst e;simp
 ·rw[if_neg (λz=>e (by injection z with z;lia))]
  exact ⟨.inr,λh=>h.resolve_left e⟩
def rcOf(kvs:List (Key×V))(i:Nat):List Nat:=((AZ i).map (·+2)).filter λk=>(valV kvs (.inl (k:Int))).isSome
theorem Ng(kvs:List (Key×V))(i:Nat):rcOf kvs (i+1)=rcOf kvs i++if (valV kvs (.inl ((i+2:Nat):Int))).isSome=true then [i+2] else []:=by
 unfold rcOf;rw[IN,B8,Ex,M6,DV,T8]
theorem LK{kvs:List (Key×V)}{i k:Nat}:k∈rcOf kvs i↔2<=k/\k<i+2/\has kvs k:=by
 unfold rcOf has;rw[C7,B6];constructor
 ·rintro⟨⟨a,ha,rfl⟩,h⟩
  rw[BC] at ha;exact ⟨by lia,by lia,h⟩
 ·rintro⟨h1,h2,h3⟩
  exact ⟨⟨k-2,BC.mpr (by lia),by lia⟩,h3⟩
theorem AAj(kvs:List (Key×V))(i:Nat):(rcOf kvs i).length<=i:=by
 unfold rcOf;refine CF (EZ _ _) ?_;rw[AB,CS];exact AF _
theorem getD_map:∀(rows:List Row),(AZ rows.length).map (λi=>rows.getD i (0,0,0))=rows:=λrows=>by
 apply F8;intro i;by_cases c:i<rows.length
 ·simp[c]
 ·simp[c]
theorem AAk{rows:List Row}{rc:List Nat}{t j m:Nat}(h:rc.Sublist ((AZ m).map (·+2)))(hm:m<=rows.length):(lay rows t rc j).length<=(rows.filter λr=>decide (r.1=t)).length:=by
 have h1:(lay rows t rc j).Sublist (((AZ rows.length).map (·+2)).filter λk=>decide (tieOf rows k=t)):=by
  unfold lay;exact (((F7 _ _).trans h).trans ((List.range_sublist.mpr hm).map _)).filter _
 refine CF h1.length_le ?_;have e:(rows.filter λr=>decide (r.1=t))=(((AZ rows.length).filter λi=>decide ((rows.getD i (0,0,0)).1=t)).map λi=>rows.getD i (0,0,0)):=by
  conv=>lhs;rw[<- getD_map rows]
  rw[Md];rfl
 rw[e,AB,Md,AB];exact AF _
theorem ADP(kvs:List (Key×V))(i:Nat):(rcOf kvs i).Sublist ((AZ i).map (·+2)):=List.filter_sublist
def AFL(K:Au):Sp:=λvs H Q _=>∃(d p:Addr) (r:Row) (x y:Nat) (kvs:List (Key×V)),vs=[.ref d,.ref p]/\H d=some (.dK kvs)/\rRowA K H r (.ref p)/\valV kvs (.inl (r.2.1:Int))=some (.int x)/\valV kvs (.inl (r.2.2:Int))=some (.int y) /\
 ∀t,H t=none->Q (.ref t) (upd H t (.tup [.int r.1,.int x,.int y]))
def Wj(K:Au):Sp:=λvs H Q _=>∃(l:Addr) (n top:Nat) (rows:List Row),vs=[.ref l,.int top]/\RowsAt K H l rows/\Ok n rows/\rows.length<=4100/\Knot rows top /\
 ∀(D:Addr) (rc:List Nat) (H':Hp),Same H H'->H D=none->H' D=some (.lst (iN rc))->Closed rows rc->(top<=1\/top∈rc)->(∀t j,(lay rows t rc j).length<=(rows.filter λr=>decide (r.1=t)).length)->(∀k∈rc,k=top\/∃k'∈rc,k<k'/\(outOf rows k'=k\/intoOf rows k'=k))->Q (.ref D) H'
section
variable{P:AM}{w:AT}{K:Au}{mg:Str->Option Ap}{base:Heap}{f C:Addr}{fd:BV}
theorem AFY:FnScope ["places","row"] ["places","row"] (Ac sIn):=⟨rfl,rfl,rfl,by decide +kernel,rfl,by decide +kernel,by decide +kernel⟩
theorem AEh(F:Fun K "row_in_places" "row_in_places" sIn f fd):FnOk P w K mg base CX0 1 f fd ["places","row"] (AFL K):=by
 refine F.ok AFY (λvs H Q E h=>?_) (λcdv A outer s H vs Q E hr h=>?_)
 ·obtain ⟨d,p,r,x,y,kvs,rfl,_⟩:=h
  rfl
 obtain ⟨d,p,r,x,y,kvs,rfl,hd,⟨p',e,hp⟩,hx,hy,q⟩:=h;cases e;refine ⟨_,Aj (Av (CG (Aa (Bc Gg (pv 1) Ah (λ_ _=>rfl)) (Aa (QS (CW hr) (pv 0) (Bc Gg (pv 1) Ah (λ_ _=>rfl)) (λ_ _=>rfl)) (Aa (QS (CW hr) (pv 0) (Bc Gg (pv 1) Ah (λ_ _=>rfl)) (λ_ _=>rfl)) Ad))))),?_⟩;refine ⟨_,rfl,ixA hp at0 ⟨_,rfl,_,rfl,ixA hp at1 ⟨d,.int x,rfl,?_,_,rfl,_,rfl,ixA hp at2 ⟨d,.int y,rfl,?_,(by show 3<=sizeLine;decide),q⟩⟩⟩⟩
 ·have:=DGet.k (k:=.inl (r.2.1:Int)) hd
  rw[hx] at this;exact this
 ·have:=DGet.k (k:=.inl (r.2.2:Int)) hd
  rw[hy] at this;exact this
theorem Pr:FnScope ["rows","top","reached","knot"] ["rows","top"] (Ac Hf):=⟨rfl,rfl,rfl,by decide +kernel,rfl,by decide +kernel,by decide +kernel⟩
theorem ZJ(F:Fun K "reached_knots" "reached_knots" Hf f fd)(T:Txt K mg C):FnOk P w K mg base CX0 1 f fd ["rows","top"] (Wj K):=by
 refine F.ok Pr (λvs H Q E h=>?_) (λcdv A outer s H vs Q E hr h=>?_)
 ·obtain ⟨l,n,top,rows,rfl,_⟩:=h
  rfl
 obtain ⟨l,n,top,rows,rfl,hL,ok,r60,kt,q⟩:=h;refine ⟨_,Ae (Ax (i:=2) Pr.nd rfl (JO rfl) (WD (Kz (pv 1) Ec Wk) rfl rfl (by intro z;cases z) (by decide)))
  (Ae (Cv C8 rfl (Od rfl T.range (Aa (pv 1) (Aa Ah (Aa (Vy Pa Ah) Ad)))) (Am (i:=3) Pr.nd rfl (BF rfl))
   (Aj (CQ (Lw (AAg (CW hr) (pv 3) (pv 2)))
    (Ae (KD (CW hr) (pv 2) (Bc Gg (Bc Gg (pv 0) (Aw DP (pv 3) Ah) (λ_ _=>rfl)) Ah (λ_ _=>rfl)) Ec rfl)
    (Aj (KD (CW hr) (pv 2) (Bc Gg (Bc Gg (pv 0) (Aw DP (pv 3) Ah) (λ_ _=>rfl)) Ah (λ_ _=>rfl)) Ec rfl))) BX)))
  (Aj (Av (Ca (Ac Hf) ["knot"] ["reached"] [2] rfl rfl (by decide +kernel) ⟨⟨rfl,by decide +kernel⟩,trivial⟩ (YK rfl T.range (Aa Ah (Aa (Aw Cw (pv 1) Ah) Ad)))
   (λ_ _ _=>Am (i:=0) (show ((["knot"]:List Str)++(["reached"]:List Str)).Nodup by decide +kernel) rfl (BF rfl))
   (λ_ _ _=>Dj (Lw (AAg (CW hr) (pv 0) (pv 1)) rfl))
   (λ_ _ _=>pv 0))))),?_⟩
 refine λD hD=>⟨_,rfl,Ab,[(.inl (top:Int),.bl true)],rfl,(by show 1<=15;decide),?_⟩;have s0:Same H (upd (upd H D (.dK [])) D (.dK (mergeK [] [(.inl (top:Int),.bl true)]))):=λb o e=>by rw[Ag (Af e hD),Ag (Af e hD)];exact e
 refine ⟨_,rfl,_,rfl,(top:Int),1,rfl,⟨by lia,by have:top<rows.length+2:=kt;lia,by lia,by lia⟩,?_⟩;refine Ry (lo:=(top:Int)) (n:=((top:Int)-1).toNat) (λi σ H2=>∃(kvs:List (Key×V)) (kv:Option V),σ=[some (.ref l),some (.int top),some (.ref D),kv]/\Same H H2/\H2 D=some (.dK kvs)/\kvs.length<=1+2*i/\has kvs top /\
   (∀k:Nat,top<k+i->k<=top->has kvs k->has kvs (outOf rows k)/\has kvs (intoOf rows k))/\(∀k:Nat,has kvs k->k<=top)/\∀k:Nat,2<=k->has kvs k->k=top\/∃k',2<=k'/\has kvs k'/\k<k'/\(outOf rows k'=k\/intoOf rows k'=k))
  ⟨_,none,rfl,s0,Ab,by show 1<=1;decide,?_,λk h1 h2=>by lia,?_,?_⟩ ?_ ?_
 ·show has (putK [] (.inl (top:Int)) (.bl true)) top
  exact has_put.mpr (.inl rfl)
 ·intro k hk
  rcases has_put.mp (show has (putK [] (.inl (top:Int)) (.bl true)) k from hk) with e | e
  ·lia
  ·exact absurd e (by intro z;cases z)
 ·intro k _ hk
  rcases has_put.mp (show has (putK [] (.inl (top:Int)) (.bl true)) k from hk) with e | e
  ·exact .inl e
  ·exact absurd e (by intro z;cases z)
 ·rintro i σ H2 hi ⟨kvs,kv,rfl,sm,eD,hl,ht,hc,hb,hpar⟩
  obtain ⟨k,ek,k2⟩:∃k:Nat,(top:Int)-i=k/\2<=k:=⟨((top:Int)-i).toNat,by lia,by lia⟩;have kk:Knot rows k:=by unfold Knot at *;lia
  rw[ek];refine ⟨_,rfl,_,rfl,D,_,rfl,DGet.k (k:=.inl (k:Int)) eD,_,rfl,?_⟩;refine ite2 (λc=>?_) (λc=>?_)
  ·have hL2:=hL.same sm
   obtain ⟨xs,p,hS,ha,hp⟩:=PX hL2 kk k2;obtain ⟨_,lo,li,_⟩:=ok.low (Bj kk k2);have z1:kvs.length<sizeLine:=Jb (by unfold Knot at kt;lia);refine ⟨_,rfl,_,rfl,_,rfl,_,_,rfl,rfl,ixA hS ha (ixA hp at1 ⟨D,_,rfl,.inl ⟨kvs,.inl ((rows.getD (k-2) (0,0,0)).2.1:Int),eD,rfl,z1,rfl⟩,?_⟩)⟩;have l1:=CT kvs (.inl ((rows.getD (k-2) (0,0,0)).2.1:Int)) (.bl true);have z2:(putK kvs (.inl ((rows.getD (k-2) (0,0,0)).2.1:Int)) (.bl true)).length<sizeLine:=Jb (by unfold Knot at kt;lia);have sm2:Same H (upd H2 D (.dK (putK kvs (.inl ((rows.getD (k-2) (0,0,0)).2.1:Int)) (.bl true)))):=λb o e=>by rw[Ag (Af e hD)];exact sm b o e
   obtain ⟨xs2,p2,hS2,ha2,hp2⟩:=PX (hL.same sm2) kk k2;refine ⟨_,rfl,_,rfl,_,rfl,_,_,rfl,rfl,ixA hS2 ha2 (ixA hp2 at2 ⟨D,_,rfl,.inl ⟨_,.inl ((rows.getD (k-2) (0,0,0)).2.2:Int),Ab,rfl,z2,rfl⟩,?_⟩)⟩;have l2:=CT (putK kvs (.inl ((rows.getD (k-2) (0,0,0)).2.1:Int)) (.bl true)) (.inl ((rows.getD (k-2) (0,0,0)).2.2:Int)) (.bl true);have hup:∀k',has (putK (putK kvs (.inl ((rows.getD (k-2) (0,0,0)).2.1:Int)) (.bl true)) (.inl ((rows.getD (k-2) (0,0,0)).2.2:Int)) (.bl true)) k'->k'=outOf rows k\/k'=intoOf rows k\/has kvs k':=λk' h=>by
    rcases has_put.mp h with e | h
    ·exact .inr (.inl e)
    rcases has_put.mp h with e | h
    ·exact .inl e
    exact .inr (.inr h)
   have hkk:has kvs k:=c;have kle:k<=top:=by lia
   have lo':outOf rows k<k:=by unfold outOf;lia
   have li':intoOf rows k<k:=by unfold intoOf;lia
   refine ⟨_,_,rfl,λb o e=>?_,Ab,by lia,has_put.mpr (.inr (has_put.mpr (.inr ht))),λk' h1 h2 h3=>?_,λk' h=>?_,λk' h2 h=>?_⟩
   ·rw[Ag (Af e hD),Ag (Af e hD)]
    exact sm b o e
   ·by_cases e:k'=k
    ·subst e
     exact ⟨has_put.mpr (.inr (has_put.mpr (.inl rfl))),has_put.mpr (.inl rfl)⟩
    ·have h4:has kvs k':=by
      rcases has_put.mp h3 with e' | h3
      ·lia
      rcases has_put.mp h3 with e' | h3
      ·lia
      exact h3
     obtain ⟨y1,y2⟩:=hc k' (by lia) h2 h4;exact ⟨has_put.mpr (.inr (has_put.mpr (.inr y1))),has_put.mpr (.inr (has_put.mpr (.inr y2)))⟩
   ·rcases hup k' h with e | e | e
    ·lia
    ·lia
    ·exact hb k' e
   ·have keep:has (putK (putK kvs (.inl ((rows.getD (k-2) (0,0,0)).2.1:Int)) (.bl true)) (.inl ((rows.getD (k-2) (0,0,0)).2.2:Int)) (.bl true)) k:=has_put.mpr (.inr (has_put.mpr (.inr hkk)))
    rcases hup k' h with e | e | e
    ·exact .inr ⟨k,k2,keep,by lia,.inl e.symm⟩
    ·exact .inr ⟨k,k2,keep,by lia,.inr e.symm⟩
    ·rcases hpar k' h2 e with z | ⟨u,z1,z2,z3⟩
     ·exact .inl z
     ·exact .inr ⟨u,z1,has_put.mpr (.inr (has_put.mpr (.inr z2))),z3⟩
  ·refine ⟨kvs,_,rfl,sm,eD,by lia,ht,λk' h1 h2 h3=>?_,hb,hpar⟩
   by_cases e:k'=k
   ·subst e
    exact absurd h3 c
   ·exact hc k' (by lia) h2 h3
 ·rintro σ H2 ⟨kvs,kv,rfl,sm,eD,hl,ht,hc,hb,hpar⟩
  refine ⟨_,rfl,_,_,rfl,rfl,2,(top:Int)+1,rfl,⟨by lia,by lia,by lia,by unfold Knot at kt;lia⟩,λL hL0=>?_⟩;have neL:D≠L:=λe=>by rw[<- e,eD] at hL0;cases hL0
  have nL:H L=none:=sm.free hL0;refine Cg (lo:=2) (n:=((top:Int)+1-2).toNat) (λi τ H3=>∃kv:Option V,τ=[kv,some (.ref D)]/\Same H H3/\H3 D=some (.dK kvs)/\H3 L=some (.lst (iN (rcOf kvs i)))) ⟨none,rfl,sm.trans (Same.new hL0 _),by rw[Ag neL];exact eD,Ab⟩ ?_ ?_
  ·rintro i τ H3 hi ⟨kv,rfl,sm3,eD3,eL3⟩
   have ei:(2:Int)+i=((i+2:Nat):Int):=by lia
   rw[ei];refine ⟨_,rfl,_,rfl,D,_,rfl,DGet.k (k:=.inl ((i+2:Nat):Int)) eD3,_,rfl,?_⟩;have lr:=AAj kvs i;refine ite2 (λc=>?_) (λc=>?_)
   ·refine ⟨_,rfl,_,eL3,Jb (by rw[AB];unfold Knot at kt;lia),_,rfl,λb o e=>?_,by rw[Ag neL];exact eD3,?_⟩
    ·rw[Ag (Af e nL)]
     exact sm3 b o e
    ·rw[Ab,Ng,if_pos c]
     unfold iN;rw[B8];rfl
   ·refine ⟨_,rfl,sm3,eD3,?_⟩
    rw[eL3,Ng,if_neg c,CU]
  ·rintro τ H3 ⟨kv,rfl,sm3,eD3,eL3⟩
   have all:∀k,k∈rcOf kvs ((top:Int)+1-2).toNat->2<=k/\k<=top/\has kvs k:=λk hk=>by
    obtain ⟨a,b,c⟩:=LK.mp hk;exact ⟨a,by lia,c⟩
   have back:∀k,k<=top->has kvs k->k<=1\/k∈rcOf kvs ((top:Int)+1-2).toNat:=λk h1 h2=>by
    rcases C4 k 2 with c | c
    ·exact .inl (by lia)
    ·exact .inr (LK.mpr ⟨c,by lia,h2⟩)
   have kn:∀k,k<=top->Knot rows k:=λk h=>by unfold Knot at *;lia
   refine q L _ H3 sm3 nL eL3 ⟨λk hk=>(all k hk).1,λk hk=>kn k (all k hk).2.1,λk hk=>?_,λk hk=>?_⟩ (back top (AF _) ht) (λt j=>AAk (ADP _ _) (by unfold Knot at kt;lia)) (λk hk=>by
     obtain ⟨a1,b1,c1⟩:=all k hk;rcases hpar k a1 c1 with z | ⟨u,u2,z1,z2⟩
     ·exact .inl z
     ·exact .inr ⟨u,LK.mpr ⟨u2,by have:=hb u z1;lia,z1⟩,z2⟩)
   ·obtain ⟨a,b,c⟩:=all k hk
    obtain ⟨_,lo,li,_⟩:=ok.low (Bj (kn k b) a);exact back _ (by unfold outOf;lia) (hc k (by lia) b c).1
   ·obtain ⟨a,b,c⟩:=all k hk
    obtain ⟨_,lo,li,_⟩:=ok.low (Bj (kn k b) a);exact back _ (by unfold intoOf;lia) (hc k (by lia) b c).2
end
def ik3(r:Row):List Key:=[.inl (r.1:Int),.inl (r.2.1:Int),.inl (r.2.2:Int)]
abbrev r3(r:Row):List V:=[.int r.1,.int r.2.1,.int r.2.2]
def r3i(r:Row):List Int:=[(r.1:Int),(r.2.1:Int),(r.2.2:Int)]
theorem ACc{a b:Row}(h:ik3 a=ik3 b):a=b:=by
 obtain ⟨a1,a2,a3⟩:=a;obtain ⟨b1,b2,b3⟩:=b;simp[ik3] at h;obtain ⟨h1,h2,h3⟩:=h;injection h1 with h1
 injection h2 with h2
 injection h3 with h3
 have e1:a1=b1:=by lia
 have e2:a2=b2:=by lia
 have e3:a3=b3:=by lia
 rw[e1,e2,e3]
theorem Jw{a b:Row}(h:r3i a=r3i b):a=b:=by
 obtain ⟨a1,a2,a3⟩:=a;obtain ⟨b1,b2,b3⟩:=b;simp[r3i] at h;obtain ⟨h1,h2,h3⟩:=h;have e1:a1=b1:=by lia
 have e2:a2=b2:=by lia
 have e3:a3=b3:=by lia
 rw[e1,e2,e3]
def numKV:Nat->List Row->List (List Key×V)
 | _,[]=>[]
 | i,r::rs=>(ik3 r,.int (i:Int))::numKV (i+1) rs
def numOf:Nat->List Row->Row->Option Nat
 | _,[],_=>none
 | i,a::rs,r=>if a=r then some i else numOf (i+1) rs r
theorem JL:∀(i:Nat) (nums:List Row),(numKV i nums).length=nums.length
 | _,[]=>rfl
 | i,_::rs=>by show (numKV (i+1) rs).length+1=rs.length+1;rw[JL]
theorem JG(r:Row):∀(i:Nat) (nums:List Row),valV (numKV i nums) (ik3 r)=(numOf i nums r).map λ(m:Nat)=>V.int (m:Int)
 | _,[]=>rfl
 | i,a::rs=>by
  by_cases e:a=r
  ·rw[numKV,CP (by show ik3 a=ik3 r;rw[e]),numOf,if_pos e];rfl
  ·rw[numKV,CK (λz=>e (ACc z)),numOf,if_neg e];exact JG r (i+1) rs
theorem Ky(r:Row):∀(i:Nat) (nums:List Row) (m:Nat),numOf i nums r=some m->∃j,nums[j]?=some r/\m=i+j
 | _,[],_,h=>by cases h
 | i,a::rs,m,h=>by
  unfold numOf at h;by_cases e:a=r
  ·rw[if_pos e] at h
   cases h;exact ⟨0,by rw[e];rfl,rfl⟩
  ·rw[if_neg e] at h
   obtain ⟨j,h1,h2⟩:=Ky r (i+1) rs m h;exact ⟨j+1,by simpa using h1,by lia⟩
theorem La(r:Row):∀(i:Nat) (nums:List Row),numOf i nums r=none->r∉nums
 | _,[],_=>λh=>nomatch h
 | i,a::rs,h=>by
  unfold numOf at h;by_cases e:a=r
  ·rw[if_pos e] at h;cases h
  ·rw[if_neg e] at h
   intro hm;rcases AX.mp hm with rfl | hm
   ·exact e rfl
   ·exact La r (i+1) rs h hm
theorem Oi(r:Row):∀(i:Nat) (nums:List Row),r∉nums->numOf i nums r=none
 | _,[],_=>rfl
 | i,a::rs,h=>by
  unfold numOf;rw[if_neg (λe=>h (by rw[e];exact AG ..))];exact Oi r (i+1) rs λz=>h (AH _ z)
theorem Oj:∀(i:Nat) (nums:List Row) (r:Row),numKV i (nums++[r])=numKV i nums++[(ik3 r,.int ((i+nums.length:Nat):Int))]
 | i,[],r=>rfl
 | i,a::rs,r=>by
  show (ik3 a,V.int (i:Int))::numKV (i+1) (rs++[r])=(ik3 a,V.int (i:Int))::(numKV (i+1) rs++[(ik3 r,V.int ((i+(rs.length+1):Nat):Int))]);rw[Oj (i+1) rs r];rw[show i+1+rs.length=i+(rs.length+1) by lia]
theorem Yn{nums:List Row}{r:Row}(h:r∉nums):putK (numKV 2 nums) (ik3 r) (.int (((numKV 2 nums).length:Int)+2))=numKV 2 (nums++[r]):=by
 rw[Hv _ (by rw[JG,Oi r 2 nums h];rfl),Oj,JL]
 congr 4
 lia
theorem Oc{K:Au}{H:Hp}:∀{i:Nat}{nums:List Row}{ys:List V},KeyL H (numKV i nums) ys->Cb (rRow K H) nums ys
 | _,[],_,.nil=>.nil
 | i,r::rs,_,.cons ⟨b,e,hb⟩ t=>.cons ⟨b,e,SqT.of hb⟩ (Oc t)
theorem JB:∀(ms:List (List Int)),(∀m∈ms,∃r,m=r3i r)->∃new:List Row,ms=new.map r3i
 | [],_=>⟨[],rfl⟩
 | m::ms,h=>by
  obtain ⟨r,rfl⟩:=h m (AG ..);obtain ⟨new,rfl⟩:=JB ms λx hx=>h x (AH _ hx);exact ⟨r::new,rfl⟩
theorem Xc:∀{new:List Row},(new.map r3i).Pairwise (λa b=>HT.lexLt a b=true)->new.Nodup:=λ{new} h=>by
 have h2:new.Pairwise (λa b=>HT.lexLt (r3i a) (r3i b)=true):=D2.mp h;exact h2.imp λ{a b} z e=>by rw[e,KR] at z;cases z
def plOf(pl:Nat->Option Nat)(place:Nat->Nat)(ks:List Nat)(k:Nat):Option Nat:=if k∈ks then some (place k) else pl k
theorem ZD{pl:Nat->Option Nat}{place:Nat->Nat}{ks:List Nat}{a k:Nat}:plOf pl place (ks++[a]) k=if k=a then some (place a) else plOf pl place ks k:=by
 unfold plOf;by_cases e:k=a
 ·subst e;simp
 ·by_cases h:k∈ks
  ·simp[h,e]
  ·simp[h,e]
def PlD(kvs:List (Key×V))(pl:Nat->Option Nat):Prop:=∀k:Nat,valV kvs (.inl (k:Int))=(pl k).map λ(p:Nat)=>V.int (p:Int)
theorem PlD.put{kvs:List (Key×V)}{pl:Nat->Option Nat}{place:Nat->Nat}{ks:List Nat}{a:Nat}(h:PlD kvs (plOf pl place ks)):PlD (putK kvs (.inl (a:Int)) (.int (place a:Nat))) (plOf pl place (ks++[a])):=λk=>by
 rw[Ea,ZD];by_cases e:k=a
 ·subst e;rw[if_pos rfl,if_pos rfl];rfl
 ·rw[if_neg (λz=>e (by injection z with z;lia)),if_neg e]
  exact h k
end K53s
end
section
namespace G
section
variable{n t:Nat}{A rows nums:List Row}{rc:List Nat}{pl:Nat->Option Nat}
def FewB(rows:List Row)(top:Nat):Prop:=∃P:Nat->Prop,P top/\(∀k,P k->2<=k->Knot rows k->P (outOf rows k)/\P (intoOf rows k)) /\
 ∀(t:Nat) (ks:List Nat),(∀k∈ks,P k/\2<=k/\Knot rows k/\tieOf rows k=t/\∃s,led rows (intoOf rows k) s=true)->ks.Pairwise (λa b=>∃s,led rows a s≠led rows b s)->ks.length<=300
theorem FewB.sel{top:Nat}(F:FewB rows top)(I:Kept2 n (t+1) rows rc nums pl)(c:Closed rows rc)(o:Ok n rows)(hn:t<n)(par:∀k∈rc,k=top\/∃k'∈rc,k<k'/\(outOf rows k'=k\/intoOf rows k'=k)) :
  ∀new:List Row,new.Nodup->(∀r∈new,∃k,k∈rc/\tieOf rows k=t/\r=rowIn rows pl k/\r.2.2≠0)->new.length<=300:=by
 intro new nd hw;obtain ⟨P,pt,ps,few⟩:=F;have hP:∀k∈rc,P k:=λk hk=>YC pt ps c par _ k (AF _) hk;obtain ⟨g,hg⟩:∃g:Row->Nat,∀r∈new,g r∈rc/\tieOf rows (g r)=t/\r=rowIn rows pl (g r)/\r.2.2≠0 :=
  ⟨λr=>if h:r∈new then Fa (hw r h) else 0,λr h=>by
   dsimp only;rw[dif_pos h];exact FS (hw r h)⟩
 have okN:=I.base.least.ok;have key:∀r∈new,∃a b,r=(t,a,b)/\Knot nums a/\Knot nums b/\b≠0/\(∀s,led nums a s=led rows (outOf rows (g r)) s)/\(∀s,led nums b s=led rows (intoOf rows (g r)) s)/\(∀xs,led rows (g r) (t::xs)=led nums b xs)/\∀s,led nums a s=if lowH t s=true then false else led rows (g r) s:=λr hr=>by
  obtain ⟨hk,ht,e,w0⟩:=hg r hr;obtain ⟨a,b,ea,eb,re,x1,x2,x3,x4⟩:=I.base.row c o hn hk ht;obtain ⟨_,z1,z2⟩:=c.low o hk;have la:∀s,led nums a s=led rows (outOf rows (g r)) s:=I.low (c.out _ hk) (by rw[<- ht];exact z1) ea;have lb:∀s,led nums b s=led rows (intoOf rows (g r)) s:=I.low (c.into _ hk) (by rw[<- ht];exact z2) eb;have kk:=c.knot _ hk;have k2:=c.two _ hk;have et:(rows.getD (g r-2) (0,0,0)).1=t:=ht;refine ⟨a,b,e.trans re,x1,x2,?_,la,lb,λxs=>?_,λs=>?_⟩
  ·rw[e,re] at w0
   exact w0
  ·rw[Bw o kk k2,et,if_neg (D6 _),if_pos rfl,lb]
   rfl
  ·cases s with
   | nil=>rw[la,Dq o kk k2,if_neg (by intro z;cases z)];rfl
   | cons x xs =>
    by_cases cs:x<=t
    ·rw[if_pos (show lowH t (x::xs)=true from decide_eq_true cs)]
     exact off okN x1 (by lia)
    ·rw[if_neg (show ¬ lowH t (x::xs)=true from λz=>cs (of_decide_eq_true z)),la,Bw o kk k2,et,if_neg (by lia),if_neg (by lia)]
     rfl
 have:=few t (new.map g) (λk hk=>by
  obtain ⟨r,hr,rfl⟩:=B6.mp hk;obtain ⟨h1,h2,h3,h4⟩:=hg r hr;obtain ⟨a,b,_,_,kb,b0,_,lb,_⟩:=key r hr;refine ⟨hP _ h1,c.two _ h1,c.knot _ h1,h2,?_⟩;obtain ⟨s,w,_⟩:=Lj I.base.least (b+1) b (EB _) kb b0;exact ⟨s,by rw[<- lb];exact w.1⟩) (by
  rw[D2];refine Fc (λ{r r'} hr hr' ne=>?_) nd;refine CM λh=>ne ?_;have same:∀s,led rows (g r) s=led rows (g r') s:=λs=>CM λz=>h ⟨s,z⟩;obtain ⟨a,b,er,ka,kb,_,_,_,lb,la⟩:=key r hr;obtain ⟨a',b',er',ka',kb',_,_,_,lb',la'⟩:=key r' hr';have e1:a=a':=Wf I.base.least ka ka' λs=>by rw[la,la',same]
  have e2:b=b':=Wf I.base.least kb kb' λs=>by rw[<- lb,<- lb',same]
  rw[er,er',e1,e2])
 rwa [AB] at this
theorem Rh{α:Type}[DecidableEq α]:∀{l₁ l₂:List α},l₁.Nodup->(∀x∈l₁,x∈l₂)->l₁.length<=l₂.length
 | [],_,_,_=>Bi _
 | a::t,l₂,nd,hs=>by
  obtain ⟨n1,n2⟩:=Ev.mp nd;have ha:a∈l₂:=hs a AG;have hl:(l₂.erase a).length=l₂.length-1:=Iq ha;have ih:=Rh (l₂:=l₂.erase a) n2 λx hx=>(Kb (λ(e:x=a)=>n1 (by rw[<- e];exact hx))).mpr (hs x (AH _ hx));have:0<l₂.length:=LH ha;simp;lia
def allB:Nat->List (List Bool)
 | 0=>[[]]
 | n+1=>(allB n).map (true::·)++(allB n).map (false::·)
theorem Rb:∀n,(allB n).length=2 ^ n
 | 0=>rfl
 | n+1=>by
  show ((allB n).map (true::·)++(allB n).map (false::·)).length=_;rw[By,AB,AB,Rb n,Me];lia
theorem Ql:∀{n:Nat}{l:List Bool},l.length=n->l∈allB n
 | 0,[],_=>by simp[allB]
 | n+1,b::l,h=>by
  have:=Ql (n:=n) (l:=l) (by simpa using h);show b::l∈(allB n).map (true::·)++(allB n).map (false::·);cases b with
  | true=>exact D9 _ (GH this)
  | false=>exact BS _ (GH this)
 | 0,_::_,h=>by cases h
 | _+1,[],h=>by cases h
def subs12:List (List Nat):=[[],[9],[10],[11],[9,10],[9,11],[10,11],[9,10,11]]
theorem ABd{s:List Nat}(w:s.Pairwise (· < ·))(bd:∀x∈s,9<=x/\x<12):s∈subs12:=by
 match s,w,bd with
 | [],_,_=>exact by decide
 | [x],_,bd =>
  have:=bd x (AG ..);have:x=9\/x=10\/x=11:=by lia
  rcases this with rfl | rfl | rfl<;>decide
 | [x,y],w,bd =>
  have h1:=bd x (AG ..);have h2:=bd y (AH _ (AG ..));have lt:x<y:=(CI.mp w).1 y (AG ..);have:(x=9/\y=10)\/(x=9/\y=11)\/(x=10/\y=11):=by lia
  rcases this with⟨rfl,rfl⟩ | ⟨rfl,rfl⟩ | ⟨rfl,rfl⟩<;>decide
 | x::y::z::r,w,bd =>
  have h1:=bd x (AG ..);have h2:=bd y (AH _ (AG ..));have h3:=bd z (AH _ (AH _ (AG ..)));have l1:x<y:=(CI.mp w).1 y (AG ..);have w2:=(CI.mp w).2;have l2:y<z:=(CI.mp w2).1 z (AG ..);obtain rfl:x=9:=by lia
  obtain rfl:y=10:=by lia
  obtain rfl:z=11:=by lia
  cases r with
  | nil=>decide
  | cons u r =>
   have hu:=bd u (by simp);have l3:11<u:=(CI.mp (CI.mp w2).2).1 u (AG ..);lia
theorem Ud{n:Nat}{rows:List Row}(o:Ok n rows)(n12:n<=12)(c:Cnt 0 rows)(top:Nat):FewB rows top:=by
 refine ⟨λ_=>True,trivial,λ_ _ _ _=>⟨trivial,trivial⟩,λt ks hk un=>?_⟩;have nd:ks.Nodup:=un.imp λ{a b} ⟨s,h⟩ e=>h (by rw[e]);rcases C4 t 9 with c9 | c9
 ·have z:=YM (A:=rows) (t:=t) ks (λk h=>⟨(hk k h).2.1,(hk k h).2.2.1,(hk k h).2.2.2.1⟩) nd
  have y:=c t;rw[if_neg (by lia),W1] at y;have:2 ^ t<=2 ^ 8:=Mm (by decide) (by lia);lia
 ·have lim:∀{k:Nat}{s:List Nat},Knot rows k->2<=k->tieOf rows k=t->led rows k s=true->s∈subs12:=λ{k s} kn k2 tk ld=>by
   have I0:=AAc _ _ rfl o _ kn;obtain ⟨w1,w2⟩:=I0.way s ((I0.mem s).mpr ld);refine ABd w1 λx hx=>?_;have z:=w2 x hx;unfold rank at z;rw[if_neg (by lia)] at z;have e:(rows.getD (k-2) (0,0,0)).1=t:=tk;lia
  have z:=Rh (l₁:=ks.map λk=>subs12.map (led rows k)) (l₂:=allB 8) (by
   unfold QQ;rw[D2];refine Fc (λ{a b} ha hb ⟨s,ne⟩ e=>ne ?_) un;obtain ⟨_,a2,ka,ta,_⟩:=hk a ha;obtain ⟨_,b2,kb,tb,_⟩:=hk b hb;have same:∀s∈subs12,led rows a s=led rows b s:=λs hs=>(List.map_inj_left.mp e) s hs;cases ea:led rows a s with
   | true=>rw[<- same s (lim ka a2 ta ea),ea]
   | false =>
    cases eb:led rows b s with
    | true=>rw[<- same s (lim kb b2 tb eb),ea] at eb;exact eb
    | false=>rfl) λx hx=>by
   obtain ⟨k,_,rfl⟩:=B6.mp hx;exact Ql (by rw[AB];rfl)
  rw[AB,Rb] at z;lia
end
end G
end
section
namespace SB
open PySem PySem.SetTable
def iter{α:Type}(f:α->α):Nat->α->α
 | 0,x=>x
 | n+1,x=>iter f n (f x)
theorem CN{α:Type}(f:α->α):∀(m n:Nat) (x:α),iter f (m+n) x=iter f n (iter f m x)
 | 0,n,x=>by rw[Mo];rfl
 | m+1,n,x=>by
  rw[Nat.succ_add];exact CN f m n (f x)
theorem Yd{α:Type}(f:α->α)(n:Nat)(x:α):iter f (n+1) x=f (iter f n x):=CN f n 1 x
def Mask(m:Nat):Prop:=m=7\/m=31\/m=127\/m=511
def step(M:Nat)(p:HM):HM :=
 if p.more>0 then {p with j:=p.j+1,more:=p.more-1} else
 {p with j:=(leap M p.i p.perturb).1,more:=Fu M (leap M p.i p.perturb).1-(leap M p.i p.perturb).1,i:=(leap M p.i p.perturb).1,perturb:=(leap M p.i p.perturb).2}
theorem HX(t:C6)(p:HM):t.advance p=step t.mask p:=by
 unfold advance step;split<;>rfl
theorem Pz(M i:Nat):Fu M i-i<=9:=by
 unfold Fu;split<;>lia
structure Fine(M:Nat)(p:HM):Prop where
 more:p.more<=9
 i:p.i<=M
 j:p.j<=M
 jm:p.j+p.more<=M
 dummy:p.dummy=none
theorem VF{M i:Nat}(h:i<=M):i+(Fu M i-i)<=M:=by
 unfold Fu;split<;>lia
theorem Hx(M i p:Nat):(leap M i p).1<=M:=by
 unfold leap;have:=My (i*5+1+p / 32) (show 0<M+1 by lia);show (i*5+1+p / 32)%(M+1)<=M;lia
theorem Fine.step{M:Nat}{p:HM}(h:Fine M p):Fine M (step M p):=by
 unfold SB.step;by_cases c:p.more>0
 ·rw[if_pos c]
  have:=h.jm;have:=h.more;exact ⟨by show p.more-1<=9;lia,h.i,by show p.j+1<=M;lia,by show p.j+1+(p.more-1)<=M;lia,h.dummy⟩
 ·rw[if_neg c]
  exact ⟨Pz _ _,Hx _ _ _,Hx _ _ _,VF (Hx _ _ _),h.dummy⟩
theorem Fine.iter{M:Nat}:∀(n:Nat) {p:HM},Fine M p->Fine M (iter (SB.step M) n p)
 | 0,_,h=>h
 | n+1,_,h=>Fine.iter n h.step
theorem Fine.start(t:C6)(h:Int):Fine t.mask (t.probeStart h):=by
 have:=My (bits h) (show 0<t.mask+1 by lia);have hi:bits h%(t.mask+1)<=t.mask:=by lia
 exact ⟨Pz _ _,hi,hi,VF hi,rfl⟩
theorem Wr{M:Nat}:∀(k:Nat) {p:HM},p.more=k->∃q,SB.iter (step M) (k+1) p=q/\q.i=(leap M p.i p.perturb).1/\q.perturb=(leap M p.i p.perturb).2/\q.j=q.i/\q.more<=9
 | 0,p,e=>by
  refine ⟨_,rfl,?_⟩;show (step M p).i=_/\(step M p).perturb=_/\(step M p).j=(step M p).i/\(step M p).more<=9;unfold step;rw[if_neg (by lia)];exact ⟨rfl,rfl,rfl,Pz _ _⟩
 | k+1,p,e=>by
  have hs:step M p={p with j:=p.j+1,more:=p.more-1}:=by unfold step;rw[if_pos (by lia)]
  obtain ⟨q,h1,h2⟩:=Wr (M:=M) k (p:=step M p) (by rw[hs];show p.more-1=k;lia);rw[hs] at h2;exact ⟨q,h1,h2⟩
def leaps(M:Nat):Nat->Nat×Nat->Nat×Nat:=SB.iter (λx=>leap M x.1 x.2)
theorem LR{M:Nat}:∀(k:Nat) {p:HM},p.more<=9->∃m,m<=10*k/\((SB.iter (step M) m p).i,(SB.iter (step M) m p).perturb)=leaps M k (p.i,p.perturb)/\(SB.iter (step M) m p).more<=9/\(0<k->(SB.iter (step M) m p).j=(SB.iter (step M) m p).i)
 | 0,p,h=>⟨0,by lia,rfl,h,λz=>absurd z (by lia)⟩
 | k+1,p,h=>by
  obtain ⟨q,e,q1,q2,q3,q4⟩:=Wr (M:=M) p.more (p:=p) rfl;obtain ⟨m,hm,h1,h2,h3⟩:=LR k q4;refine ⟨(p.more+1)+m,by lia,?_,?_,λ_=>?_⟩
  ·rw[CN,e,h1]
   show leaps M k (q.i,q.perturb)=leaps M k (leap M p.i p.perturb);rw[q1,q2]
  ·rw[CN,e];exact h2
  ·rw[CN,e]
   by_cases c:0<k
   ·exact h3 c
   ·have:k=0:=by lia
    subst this;have:m=0:=by lia
    subst this;exact q3
theorem En{M:Nat}:∀(k:Nat) (x:Nat×Nat),(leaps M k x).2=x.2 / 32 ^ k
 | 0,x=>by simp[leaps,SB.iter]
 | k+1,x=>by
  show (leaps M k (leap M x.1 x.2)).2=_;rw[En k];show x.2 / 32 / 32 ^ k=_;rw[Nat.div_div_eq_div_mul,Me,WU]
def lc(n i:Nat):Nat:=(i*5+1)%n
theorem HY{M:Nat}:∀(k i:Nat),leaps M k (i,0)=(SB.iter (lc (M+1)) k i,0)
 | 0,i=>rfl
 | k+1,i=>by
  show leaps M k (leap M i 0)=_;have:leap M i 0=(lc (M+1) i,0):=by unfold leap lc;simp
  rw[this,HY k];rfl
theorem cyc8:∀j,j<8->∃k,k<8/\SB.iter (lc 8) k 0=j:=by decide +kernel
theorem cyc32:∀j,j<32->∃k,k<32/\SB.iter (lc 32) k 0=j:=by decide +kernel
theorem cyc128:∀j,j<128->∃k,k<128/\SB.iter (lc 128) k 0=j:=by decide +kernel
def iters(f:Nat->Nat):Nat->Nat->List Nat
 | 0,_=>[]
 | n+1,x=>x::iters f n (f x)
theorem Rf(f:Nat->Nat):∀(n x j:Nat),j∈iters f n x->∃k,k<n/\SB.iter f k x=j
 | 0,x,j,h=>by cases h
 | n+1,x,j,h=>by
  rcases AX.mp h with rfl | h
  ·exact ⟨0,Nat.zero_lt_succ _,rfl⟩
  ·obtain ⟨k,hk,e⟩:=Rf f n (f x) j h
   exact ⟨k+1,Nat.succ_lt_succ hk,e⟩
theorem all512:((AZ 512).all λj=>(iters (lc 512) 512 0).contains j)=true:=by decide +kernel
theorem cyc512:∀j,j<512->∃k,k<512/\SB.iter (lc 512) k 0=j:=λj hj=>Rf _ _ _ _ (J2.mp (DH.mp all512 j (BC.mpr hj)))
theorem cyc{M:Nat}(h:Mask M):(∀j,j<M+1->∃k,k<M+1/\SB.iter (lc (M+1)) k 0=j)/\SB.iter (lc (M+1)) (M+1) 0=0:=by
 rcases h with rfl | rfl | rfl | rfl
 ·exact ⟨cyc8,by decide +kernel⟩
 ·exact ⟨cyc32,by decide +kernel⟩
 ·exact ⟨cyc128,by decide +kernel⟩
 ·exact ⟨cyc512,by decide +kernel⟩
theorem Vo{M:Nat}(h:Mask M){i j:Nat}(hi:i<M+1)(hj:j<M+1):∃k,k<M+1/\SB.iter (lc (M+1)) k i=j:=by
 obtain ⟨c1,c2⟩:=cyc h;obtain ⟨a,ha,ea⟩:=c1 i hi;obtain ⟨b,hb,eb⟩:=c1 j hj;by_cases c:a<=b
 ·refine ⟨b-a,by lia,?_⟩
  rw[<- ea,<- CN,show a+(b-a)=b by lia,eb]
 ·refine ⟨M+1+b-a,by lia,?_⟩
  rw[<- ea,<- CN,show a+(M+1+b-a)=(M+1)+b by lia,CN,c2,eb]
theorem CZ:∀{l₁ l₂:List Nat},l₁.Nodup->(∀x∈l₁,x∈l₂)->l₁.length<=l₂.length
 | [],_,_,_=>Bi _
 | a::t,l₂,nd,hs=>by
  obtain ⟨n1,n2⟩:=Ev.mp nd;have ha:a∈l₂:=hs a AG;have hl:(l₂.erase a).length=l₂.length-1:=Iq ha;have ih:=CZ (l₂:=l₂.erase a) n2 λx hx=>(Kb (λ(e:x=a)=>n1 (by rw[<- e];exact hx))).mpr (hs x (AH _ hx));have:0<l₂.length:=LH ha;simp;lia
theorem ACb{M:Nat}{place:Array Nat}(h:place.size<=M):∃j,j<M+1/\j∉place.toList:=by
 refine CM λc=>?_;have all:∀j∈AZ (M+1),j∈place.toList:=λj hj=>CM λz=>c ⟨j,BC.mp hj,z⟩;have:=CZ G0 all;rw[CS,AU] at this;lia
theorem Qc(h:Int):bits h<2 ^ 64:=by
 unfold bits;have h1:=Hb h (show (2 ^ 64:Int)≠0 by decide);have h2:=FR h (show (0:Int)<2 ^ 64 by decide);lia
theorem Kl{M:Nat}:∀(n:Nat) (p:HM),(SB.iter (step M) n p).perturb<=p.perturb
 | 0,_=>AF _
 | n+1,p=>by
  refine CF (Kl n (step M p)) ?_;unfold step;split
  ·exact AF _
  ·exact Nat.div_le_self _ _
theorem Nu{M:Nat}{place:Array Nat}(hM:Mask M)(hs:place.size<=M){p:HM}(hp:Fine M p)(hb:p.perturb<2 ^ 64):∃m,m<10*NY M/\(SB.iter (step M) m p).j∉place.toList:=by
 obtain ⟨j,hj,nj⟩:=ACb hs;obtain ⟨m1,hm1,e1,k1,_⟩:=LR (M:=M) 13 (p:=p) hp.more;generalize hq:SB.iter (step M) m1 p=q at *;have fq:Fine M q:=by rw[<- hq];exact hp.iter m1
 have pz:q.perturb=0:=by
  have h2:=congrArg Prod.snd e1;rw[En] at h2;have h3:q.perturb=p.perturb / 32 ^ 13:=h2;rw[h3];exact Tx (Cf hb (by decide))
 obtain ⟨k,hk,ek⟩:=Vo hM (i:=lc (M+1) q.i) (j:=j) (My _ (W2 _)) hj;obtain ⟨m2,hm2,e2,_,k2⟩:=LR (M:=M) (k+1) (p:=q) fq.more;refine ⟨m1+m2,?_,?_⟩
 ·unfold NY
  lia
 ·rw[CN,hq,k2 (W2 _)]
  have h1:=congrArg W3 e2;rw[pz,HY] at h1;have h2:(SB.iter (step M) m2 q).i=SB.iter (lc (M+1)) k (lc (M+1) q.i):=h1;rw[h2,ek];exact nj
theorem Lg{xs:Array Nat}{j:Nat}(so:xs.toList.Pairwise (· < ·)):∀(fuel lo hi:Nat),lo<=hi->hi<=xs.size->hi-lo<=fuel->(∀k,k<lo->xs.getD k j<j)->(∀k,hi<=k->k<xs.size->j<=xs.getD k j) ->
  (∀k,k<below.go xs j fuel lo hi->xs.getD k j<j)/\(∀k,below.go xs j fuel lo hi<=k->k<xs.size->j<=xs.getD k j)/\below.go xs j fuel lo hi<=xs.size
 | 0,lo,hi,h1,h2,h3,h4,h5=>by
  have:lo=hi:=by lia
  subst this;exact ⟨h4,h5,h2⟩
 | fuel+1,lo,hi,h1,h2,h3,h4,h5=>by
  unfold below.go;by_cases c:lo<hi
  ·rw[if_pos c]
   have hm:(lo+hi) / 2<xs.size:=by lia
   have so':=CO.mp so;have gd:∀k,k<xs.size->xs.getD k j=xs.toList.getD k j:=λk hk=>by simp[EA,hk]
   by_cases d:xs.getD ((lo+hi) / 2) j<j
   ·simp only[if_pos d]
    refine Lg so fuel _ hi (by lia) h2 (by lia) (λk hk=>?_) h5;by_cases e:k=(lo+hi) / 2
    ·rw[e];exact d
    ·have hk':k<(lo+hi) / 2:=by lia
     have z:=so' k ((lo+hi) / 2) (by simpa using (show k<xs.size by lia)) (by simpa using hm) hk';have g1:xs.getD k j=xs[k]'(by lia):=by simp[EA,show k<xs.size by lia]
     have g2:xs.getD ((lo+hi) / 2) j=xs[(lo+hi) / 2]'hm:=by simp[EA,hm]
     rw[g2] at d;rw[g1];simp at z;lia
   ·simp only[if_neg d]
    refine Lg so fuel lo _ (by lia) (by lia) (by lia) h4 (λk hk hk2=>?_);by_cases e:k=(lo+hi) / 2
    ·rw[e];lia
    ·have z:=so' ((lo+hi) / 2) k (by simpa using hm) (by simpa using hk2) (by lia)
     have g1:xs.getD k j=xs[k]'hk2:=by simp[EA,hk2]
     have g2:xs.getD ((lo+hi) / 2) j=xs[(lo+hi) / 2]'hm:=by simp[EA,hm]
     rw[g2] at d;rw[g1];simp at z;lia
  ·rw[if_neg c]
   have:lo=hi:=by lia
   subst this;exact ⟨h4,h5,h2⟩
theorem FT{xs:Array Nat}{j:Nat}(so:xs.toList.Pairwise (· < ·)):(∀k,k<below xs j->xs.getD k j<j)/\(∀k,below xs j<=k->k<xs.size->j<=xs.getD k j)/\below xs j<=xs.size :=
 Lg so xs.size 0 xs.size (Bi _) (AF _) (AF _) (λk hk=>absurd hk (by lia)) (λk h1 h2=>absurd h2 (by lia))
theorem below_at{xs:Array Nat}{j:Nat}(so:xs.toList.Pairwise (· < ·))(h:j∈xs.toList):xs[below xs j]?=some j:=by
 obtain ⟨b1,b2,b3⟩:=FT (j:=j) so;obtain ⟨k,hk,e⟩:=CL.mp h;have hk':k<xs.size:=by simpa using hk
 have e':xs[k]=j:=by simpa using e
 have g1:xs.getD k j=j:=by simp[EA,hk',e']
 have h1:below xs j<=k:=by
  refine CM λc=>?_;have:=b1 k (by lia);lia
 by_cases c:below xs j=k
 ·rw[c,Bn hk',e']
 ·have hb:below xs j<xs.size:=by lia
  have z:=CO.mp so (below xs j) k (by simpa using hb) hk (by lia);have b:=b2 (below xs j) (AF _) hb;have g2:xs.getD (below xs j) j=xs[below xs j]'hb:=by simp[EA,hb]
  rw[g2] at b;simp at z;lia
structure Tab(t:C6):Prop where
 mask:Mask t.mask
 none:t.dummies=#[]
 size:t.place.size<=t.mask
 le:∀j∈t.place.toList,j<=t.mask
 rise:t.place.toList.Pairwise (· < ·)
theorem slot_of{t:C6}(T:Tab t)(j:Nat):(t.slot j=.empty/\j∉t.place.toList)\/∃i,t.slot j=.live i/\t.place[i]?=some j:=by
 unfold slot;by_cases c:t.place[below t.place j]?=some j
 ·right
  exact ⟨below t.place j,by simp[c],c⟩
 ·left
  have hd:has t.dummies j=false:=by rw[T.none];unfold has;simp
  refine ⟨by simp[c,hd],λh=>c (below_at T.rise h)⟩
def way(t:C6)(p:HM)(m:Nat):Nat:=(SB.iter (step t.mask) m p).j
theorem TX(t:C6)(p:HM)(m:Nat):way t (step t.mask p) m=way t p (m+1):=rfl
theorem ACr{t:C6}(T:Tab t){hashAt:Nat->Int}{h:Int}:∀(fuel:Nat) (p:HM),p.dummy=none->(∃m,m<fuel/\way t p m∉t.place.toList) ->
  ∃m,(∀m',m'<m->∃i,t.place[i]?=some (way t p m')/\hashAt i≠h) /\
   (
    (way t p m∉t.place.toList/\MT t hashAt h fuel p=some (.empty (way t p m) none)) \/
    ∃i,t.place[i]?=some (way t p m)/\t.slot (way t p m)=.live i/\hashAt i=h/\MT t hashAt h fuel p=some (.candidate (way t p m) i (SB.iter (step t.mask) (m+1) p)))
 | 0,p,_,⟨m,hm,_⟩=>absurd hm (by lia)
 | fuel+1,p,hd,⟨m0,hm0,n0⟩=>by
  unfold MT;rcases slot_of T p.j with⟨e,ne⟩ | ⟨i,e,pi⟩
  ·refine ⟨0,λm' h=>absurd h (by lia),.inl ⟨ne,?_⟩⟩
   rw[e];show some (Met.empty p.j p.dummy)=_;rw[hd];rfl
  ·by_cases c:hashAt i=h
   ·refine ⟨0,λm' h=>absurd h (by lia),.inr ⟨i,pi,e,c,?_⟩⟩
    rw[e];simp only[c,beq_self_eq_true,if_true];rw[HX];rfl
   ·have m1:m0≠0:=λz=>by
     subst z;exact n0 (by rw[Db];exact ⟨i,by rw[B7];exact pi⟩)
    have hd':(step t.mask p).dummy=none:=by unfold step;split<;>exact hd
    obtain ⟨m,h1,h2⟩:=ACr T (hashAt:=hashAt) (h:=h) fuel (step t.mask p) hd' ⟨m0-1,by lia,by rw[TX,show m0-1+1=m0 by lia];exact n0⟩;have ee:MT t hashAt h (fuel+1) p=MT t hashAt h fuel (step t.mask p):=by
     show (match t.slot p.j with | .empty=>some (Met.empty p.j p.dummy) | .dummy=>MT t hashAt h fuel (t.advance {p with dummy:=some p.j}) | .live i=>if hashAt i==h then some (.candidate p.j i (t.advance p)) else MT t hashAt h fuel (t.advance p))=_;rw[e];have cb:(hashAt i==h)=false:=by simpa using c
     simp only[cb,AV,if_false];rw[HX]
    refine ⟨m+1,λm' hm'=>?_,?_⟩
    ·by_cases z:m'=0
     ·subst z;exact ⟨i,pi,c⟩
     ·have:=h1 (m'-1) (by lia)
      rw[TX,show m'-1+1=m' by lia] at this;exact this
    ·rw[e]
     have cb:(hashAt i==h)=false:=by simpa using c
     simp only[cb,AV,if_false,HX];exact h2
def Loc(t:C6)(hs:List Int):Prop:=∀(idx j:Nat) (h:Int),t.place[idx]?=some j->hs[idx]?=some h->∃m,way t (t.probeStart h) m=j/\∀m',m'<m->way t (t.probeStart h) m'∈t.place.toList
theorem ZC{t:C6}(T:Tab t){hashAt:Nat->Int}{h:Int}{p:HM}(hp:Fine t.mask p)(hb:p.perturb<2 ^ 64) :
  ∃m,(∀m',m'<m->∃i,t.place[i]?=some (way t p m')/\hashAt i≠h) /\
   (
    (way t p m∉t.place.toList/\t.probe hashAt h p=some (.empty (way t p m) none)) \/
    ∃i,t.place[i]?=some (way t p m)/\t.slot (way t p m)=.live i/\hashAt i=h/\t.probe hashAt h p=some (.candidate (way t p m) i (SB.iter (step t.mask) (m+1) p))) :=
 ACr T _ p hp.dummy (Nu T.mask T.size hp hb)
theorem BW{α:Type}(xs:Array α)(p:Nat)(x:α):(D5 xs p x).toList=xs.toList.take p++[x]++xs.toList.drop p:=by
 unfold D5;simp;exact G2 (by simp)
structure Put(t:C6)(j:Nat):Prop where
 le:j<=t.mask
 new:j∉t.place.toList
 room:t.place.size+1<=t.mask
theorem Jd{t:C6}(T:Tab t){j:Nat}:(t.put j).1={t with place:=D5 t.place (below t.place j) j}/\(t.put j).2=below t.place j:=by
 unfold put;have hd:has t.dummies j=false:=by rw[T.none];unfold has;simp
 simp[hd]
theorem ABV{t:C6}(T:Tab t){j:Nat}(P:Put t j):Tab (t.put j).1:=by
 obtain ⟨e,_⟩:=Jd T (j:=j);obtain ⟨b1,b2,b3⟩:=FT (j:=j) T.rise;rw[e];refine ⟨T.mask,T.none,?_,λk hk=>?_,?_⟩
 ·show (D5 t.place (below t.place j) j).size<=t.mask
  have:=congrArg FK (BW t.place (below t.place j) j);simp at this;have:=P.room;lia
 ·have hk':k∈(D5 t.place (below t.place j) j).toList:=hk
  rw[BW] at hk';rcases Co.mp hk' with hk' | hk'
  ·rcases Co.mp hk' with hk' | hk'
   ·exact T.le k (MA hk')
   ·rw[Cn.mp hk'];exact P.le
  ·exact T.le k (QR hk')
 ·show (D5 t.place (below t.place j) j).toList.Pairwise (· < ·)
  rw[BW];have so:=T.rise;have get:∀k (hk:k<t.place.size),t.place.getD k j=t.place.toList[k]'(by simpa using hk):=λk hk=>by simp[EA,hk]
  refine C5.mpr ⟨C5.mpr ⟨so.sublist (F7 _ _),IH _ _,λa ha b hb=>?_⟩,so.sublist (HG _ _),λa ha b hb=>?_⟩
  ·rw[Cn.mp hb]
   obtain ⟨k,hk,rfl⟩:=CL.mp ha;rw[Cc] at hk;have hk2:k<t.place.size:=by simp at hk;lia
   have:=b1 k (by lia);rw[get k hk2] at this;rw[JI];exact this
  ·obtain ⟨k,hk,rfl⟩:=CL.mp hb
   rw[GV] at hk;have hk2:below t.place j+k<t.place.size:=by simp at hk;lia
   rw[NM];have z:=b2 (below t.place j+k) (by lia) hk2;rw[get _ hk2] at z;have ne:t.place.toList[below t.place j+k]'(by simpa using hk2)≠j:=λe=>P.new (e ▸ Ix _);rcases Co.mp ha with ha | ha
   ·obtain ⟨i,hi,rfl⟩:=CL.mp ha
    rw[Cc] at hi;rw[JI];exact CO.mp so i (below t.place j+k) (by lia) (by simpa using hk2) (by lia)
   ·rw[Cn.mp ha]
    lia
theorem ABW{t:C6}(T:Tab t){hs:List Int}(hl:hs.length=t.place.size)(L:Loc t hs){h:Int}{m:Nat}(hm:∀m',m'<m->way t (t.probeStart h) m'∈t.place.toList) :
  Loc (t.put (way t (t.probeStart h) m)).1 (hs.take (t.put (way t (t.probeStart h) m)).2++[h]++hs.drop (t.put (way t (t.probeStart h) m)).2):=by
 generalize hj:way t (t.probeStart h) m=j;obtain ⟨e,e2⟩:=Jd T (j:=j);obtain ⟨_,_,b3⟩:=FT (j:=j) T.rise;rw[e,e2];generalize hp:below t.place j=p at *;have mem:∀k,k∈t.place.toList->k∈(D5 t.place p j).toList:=λk hk=>by
  rw[BW];rw[<- FU p t.place.toList] at hk;rcases Co.mp hk with hk | hk
  ·exact D9 _ (D9 _ hk)
  ·exact BS _ hk
 have memj:j∈(D5 t.place p j).toList:=by
  rw[BW];exact D9 _ (BS _ (Cn.mpr rfl))
 intro idx k h' hk hh;have hk':(D5 t.place p j).toList[idx]?=some k:=by simpa using hk
 rw[BW] at hk';have wy:∀(q:HM) m,way {t with place:=D5 t.place p j} q m=way t q m:=λ_ _=>rfl;have ps:∀h,({t with place:=D5 t.place p j}:C6).probeStart h=t.probeStart h:=λ_=>rfl;have lt:(t.place.toList.take p).length=p:=by rw[Cc,AU];lia
 have lh:(hs.take p).length=p:=by rw[Cc];lia
 rw[C0] at hk' hh;have old:∀i,t.place.toList[i]?=some k->hs[i]?=some h'->∃m,way {t with place:=D5 t.place p j} (({t with place:=D5 t.place p j}:C6).probeStart h') m=k/\∀m',m'<m->way {t with place:=D5 t.place p j} (({t with place:=D5 t.place p j}:C6).probeStart h') m'∈({t with place:=D5 t.place p j}:C6).place.toList:=λi a b=>by
  obtain ⟨m,x,y⟩:=L i k h' (by rw[<- B7];exact a) b;exact ⟨m,x,λm' hm'=>mem _ (y m' hm')⟩
 by_cases c:idx<p
 ·rw[A2 (by lia),KS c] at hk' hh
  exact old idx hk' hh
 ·rw[Cs (by lia)] at hk' hh
  rw[lt] at hk';rw[lh] at hh;by_cases d:idx=p
  ·subst d
   simp at hk' hh;subst hk' hh;exact ⟨m,hj,λm' hm'=>mem _ (hm m' hm')⟩
  ·rw[Cs (by simp;lia)] at hk' hh
   simp only[DC,Sl] at hk' hh;rw[show p+(idx-p-1)=idx-1 by lia] at hk' hh;exact old (idx-1) hk' hh
def Bu(M i perturb:Nat):HM:={j:=i,more:=Fu M i-i,i:=i,perturb:=perturb,dummy:=none}
theorem Kw{M:Nat}:∀(m:Nat) (p:HM),m<=p.more->SB.iter (step M) m p={p with j:=p.j+m,more:=p.more-m}
 | 0,p,_=>by cases p;rfl
 | m+1,p,h=>by
  have hs:step M p={p with j:=p.j+1,more:=p.more-1}:=by unfold step;rw[if_pos (by lia)]
  show SB.iter (step M) m (step M p)=_;rw[Kw m (step M p) (by rw[hs];show m<=p.more-1;lia),hs];show ({p with j:=p.j+1+m,more:=p.more-1-m}:HM)={p with j:=p.j+(m+1),more:=p.more-(m+1)};rw[show p.j+1+m=p.j+(m+1) by lia,show p.more-1-m=p.more-(m+1) by lia]
theorem VL{M i pe:Nat}:SB.iter (step M) (Fu M i-i+1) (Bu M i pe)=Bu M (leap M i pe).1 (leap M i pe).2:=by
 rw[Yd,Kw (Fu M i-i) (Bu M i pe) (AF _)];unfold step;rw[if_neg (by show ¬ (Fu M i-i-(Fu M i-i)>0);lia)];rfl
theorem Yc(M i:Nat):i<=Fu M i:=by
 unfold Fu;split<;>lia
def wayM(M:Nat)(p:HM)(m:Nat):Nat:=(SB.iter (step M) m p).j
theorem Vu{M:Nat}{owner:Array (Option Nat)}:∀(fuel i pe:Nat),i<=M->(∃k,k<fuel/\owner.getD (leaps M k (i,pe)).1 (some 0)=none) ->
  ∃m,Kn M owner fuel i pe=some (wayM M (Bu M i pe) m)/\owner.getD (wayM M (Bu M i pe) m) (some 0)=none/\∀m',m'<m->(owner.getD (wayM M (Bu M i pe) m') (some 0)).isSome=true
 | 0,i,pe,_,⟨k,hk,_⟩=>absurd hk (by lia)
 | fuel+1,i,pe,hi,⟨k,hk,nk⟩=>by
  have ge:=Yc M i;have wy:∀m,m<=Fu M i-i->wayM M (Bu M i pe) m=i+m:=λm hm=>by
   unfold wayM;rw[Kw m (Bu M i pe) hm];rfl
  unfold Kn;cases hf:(AZ (Fu M i+1-i)).find? λk=>(owner.getD (i+k) (some 0)).isNone with
  | some k' =>
   have h1:=List.find?_some hf;have h2:=BC.mp (List.mem_of_find?_eq_some hf);refine ⟨k',?_,?_,λm' hm'=>?_⟩
   ·rw[wy k' (by lia)]
   ·rw[wy k' (by lia)]
    simpa using h1
   ·rw[wy m' (by lia)]
    obtain ⟨_,as,bs,e,hb⟩:=List.find?_eq_some_iff_append.mp hf;have hl:as.length=k':=by
     have:(AZ (Fu M i+1-i))[as.length]?=some k':=by rw[e];simp
     rw[Go (by have:=congrArg FK e;simp at this;lia)] at this;exact BY this
    have hm:m'∈as:=by
     have:(AZ (Fu M i+1-i))[m']?=some m':=Go (by lia);rw[e,A2 (by lia)] at this;exact BH this
    have:=hb m' hm;simpa [N0] using this
  | none =>
   have hn:=List.find?_eq_none.mp hf;have all:∀m,m<=Fu M i-i->(owner.getD (i+m) (some 0)).isSome=true:=λm hm=>by
    have:=hn m (BC.mpr (by lia));simpa [N0] using this
   have k0:k≠0:=λz=>by
    subst z;have:=all 0 (Bi _);have nk':owner.getD i (some 0)=none:=nk;rw[Sk,nk'] at this;cases this
   obtain ⟨m,h1,h2,h3⟩:=Vu fuel (leap M i pe).1 (leap M i pe).2 (Hx _ _ _) ⟨k-1,by lia,by
    have e:leaps M k (i,pe)=leaps M (k-1) (leap M i pe):=by
     obtain ⟨k',rfl⟩:∃k',k=k'+1:=⟨k-1,by lia⟩;rfl
    rw[e] at nk;exact nk⟩
   have sh:∀m,wayM M (Bu M (leap M i pe).1 (leap M i pe).2) m=wayM M (Bu M i pe) (Fu M i-i+1+m):=λm=>by
    unfold wayM;rw[CN,VL]
   rw[sh] at h1 h2;refine ⟨Fu M i-i+1+m,h1,h2,λm' hm'=>?_⟩;by_cases c:m'<=Fu M i-i
   ·rw[wy m' c]
    exact all m' c
   ·have:=h3 (m'-(Fu M i-i+1)) (by lia)
    rw[sh,show Fu M i-i+1+(m'-(Fu M i-i+1))=m' by lia] at this;exact this
structure Own(M:Nat)(owner:Array (Option Nat))(hs:List Int):Prop where
 size:owner.size=M+1
 has:∀idx,idx<hs.length->∃j:Nat,owner[j]?=some (some idx)
 at_:∀(j idx:Nat),owner[j]?=some (some idx)->idx<hs.length/\∃m,wayM M (Bu M (bits (hs.getD idx 0)%(M+1)) (bits (hs.getD idx 0))) m=j/\∀m',m'<m->(owner.getD (wayM M (Bu M (bits (hs.getD idx 0)%(M+1)) (bits (hs.getD idx 0))) m') (some 0)).isSome=true
 one:∀(j j' idx:Nat),owner[j]?=some (some idx)->owner[j']?=some (some idx)->j=j'
theorem Own.start(M:Nat):Own M (T9 (M+1) none) []:=by
 have no:∀(j idx:Nat),¬ (T9 (M+1) (none:Option Nat))[j]?=some (some idx):=λj idx e=>by
  rw[Array.getElem?_replicate] at e;split at e<;>cases e
 exact ⟨Array.size_replicate ..,λidx h=>absurd h (by simp),λj idx e=>absurd e (no j idx),λj _ idx e=>absurd e (no j idx)⟩
theorem Own.free{M:Nat}{owner:Array (Option Nat)}{hs:List Int}(O:Own M owner hs)(h:hs.length<=M):∃j,j<M+1/\owner.getD j (some 0)=none:=by
 refine CM λc=>?_;have all:∀j,j<M+1->∃idx,owner[j]?=some (some idx):=λj hj=>by
  have hj':j<owner.size:=by rw[O.size];exact hj
  cases e:owner[j] with
  | none=>exact absurd ⟨j,hj,by simp[EA,hj',e]⟩ c
  | some idx=>exact ⟨idx,by rw[Bn hj',e]⟩
 have key:∀n,n<=M+1->∃l:List Nat,l.length=n/\l.Nodup/\∀x∈l,∃j,j<n/\owner[j]?=some (some x):=by
  intro n
  induction n with
  | zero=>exact λ_=>⟨[],rfl,PF,λx hx=>by cases hx⟩
  | succ n ih =>
   intro hn;obtain ⟨l,l1,l2,l3⟩:=ih (by lia);obtain ⟨idx,e⟩:=all n (by lia);refine ⟨idx::l,by simp[l1],Ev.mpr ⟨λhm=>?_,l2⟩,λx hx=>?_⟩
   ·obtain ⟨j,hj,ej⟩:=l3 idx hm
    have:=O.one _ _ _ ej e;lia
   ·rcases AX.mp hx with rfl | hx
    ·exact ⟨n,by lia,e⟩
    ·obtain ⟨j,hj,ej⟩:=l3 x hx
     exact ⟨j,by lia,ej⟩
 obtain ⟨l,l1,l2,l3⟩:=key (M+1) (AF _);have:=CZ (l₂:=AZ hs.length) l2 λx hx=>by
  obtain ⟨j,_,ej⟩:=l3 x hx;exact BC.mpr (O.at_ j x ej).1
 rw[CS] at this;lia
theorem RM{M:Nat}:∀(k:Nat) (x:Nat×Nat),x.1<=M->(leaps M k x).1<=M
 | 0,x,h=>h
 | k+1,x,h=>RM k (leap M x.1 x.2) (Hx _ _ _)
theorem XQ{M:Nat}(a b:Nat)(x:Nat×Nat):leaps M (a+b) x=leaps M b (leaps M a x):=CN _ a b x
theorem Own.next{M:Nat}{owner:Array (Option Nat)}{hs:List Int}(hM:Mask M)(O:Own M owner hs)(hl:hs.length<=M)(h:Int) :
  ∃j,Kn M owner (NY M) (bits h%(M+1)) (bits h)=some j/\Own M (owner.setIfInBounds j (some hs.length)) (hs++[h]):=by
 obtain ⟨f,hf,nf⟩:=O.free hl;have hi:bits h%(M+1)<=M:=by
  have:=My (bits h) (show 0<M+1 by lia);lia
 have reach:∃k,k<NY M/\owner.getD (leaps M k (bits h%(M+1),bits h)).1 (some 0)=none:=by
  have p13:(leaps M 13 (bits h%(M+1),bits h)).2=0:=by
   rw[En];exact Tx (Cf (Qc h) (by decide))
  have i13:=RM (M:=M) 13 (bits h%(M+1),bits h) hi;obtain ⟨k,hk,ek⟩:=Vo hM (i:=(leaps M 13 (bits h%(M+1),bits h)).1) (j:=f) (by lia) hf;refine ⟨13+k,by unfold NY;lia,?_⟩;have e:leaps M 13 (bits h%(M+1),bits h)=((leaps M 13 (bits h%(M+1),bits h)).1,0):=J9 rfl p13;rw[XQ,e,HY,ek];exact nf
 obtain ⟨m,h1,h2,h3⟩:=Vu (M:=M) (owner:=owner) (NY M) _ (bits h) hi reach;refine ⟨_,h1,?_⟩;generalize hj:wayM M (Bu M (bits h%(M+1)) (bits h)) m=j at h2;have hjs:j<owner.size:=by
  refine CM λc=>?_;have:owner.getD j (some 0)=some 0:=by simp[EA,c]
  rw[this] at h2;cases h2
 have hjn:owner[j]?=some none:=by
  rw[Bn hjs];simp[EA,hjs] at h2;rw[h2]
 have get:∀k,(owner.setIfInBounds j (some hs.length))[k]?=if k=j then some (some hs.length) else owner[k]?:=λk=>by
  rw[Array.getElem?_setIfInBounds];by_cases c:j=k
  ·subst c
   simp[hjs]
  ·rw[if_neg c,if_neg (DM c)]
 have some_of:∀k,(owner.getD k (some 0)).isSome=true->((owner.setIfInBounds j (some hs.length)).getD k (some 0)).isSome=true:=λk hk=>by
  rw[G5,get];split
  ·rfl
  ·rw[G5] at hk
   exact hk
 have gd:∀idx,idx<hs.length->(hs++[h]).getD idx 0=hs.getD idx 0:=λidx hi=>by
  rw[AC,AC,A2 hi]
 have gl:(hs++[h]).getD hs.length 0=h:=by rw[AC];simp
 refine ⟨by rw[IA];exact O.size,λidx hi=>?_,λk idx e=>?_,λk k' idx e e'=>?_⟩
 ·by_cases c:idx<hs.length
  ·obtain ⟨k,ek⟩:=O.has idx c
   refine ⟨k,?_⟩;rw[get,if_neg (λz=>by rw[z,hjn] at ek;cases ek)];exact ek
  ·have:idx=hs.length:=by simp at hi;lia
   exact ⟨j,by rw[get,if_pos rfl,this]⟩
 ·rw[get] at e
  by_cases c:k=j
  ·rw[if_pos c] at e
   have:hs.length=idx:=by simpa using e
   subst this;refine ⟨by simp,m,?_,λm' hm'=>?_⟩
   ·rw[gl,hj,c]
   ·rw[gl]
    exact some_of _ (h3 m' hm')
  ·rw[if_neg c] at e
   obtain ⟨i1,m1,w1,w2⟩:=O.at_ k idx e;refine ⟨by simp;lia,m1,?_,λm' hm'=>?_⟩
   ·rw[gd idx i1];exact w1
   ·rw[gd idx i1];exact some_of _ (w2 m' hm')
 ·rw[get] at e e'
  by_cases c:k=j
  ·by_cases c':k'=j
   ·rw[c,c']
   ·rw[if_pos c] at e
    rw[if_neg c'] at e';have:hs.length=idx:=by simpa using e
    have:=(O.at_ k' idx e').1;lia
  ·by_cases c':k'=j
   ·rw[if_neg c] at e
    rw[if_pos c'] at e';have:hs.length=idx:=by simpa using e'
    have:=(O.at_ k idx e).1;lia
   ·rw[if_neg c] at e
    rw[if_neg c'] at e';exact O.one _ _ _ e e'
set_option tactic.hygienic true in
theorem ZW{M:Nat}(hM:Mask M){hashes:Array Int}(h:hashes.size<=M):∃owner,layClean M hashes=some owner/\Own M owner hashes.toList:=by
 unfold layClean;rw[<- Array.foldl_toList];have key:∀(l done:List Int) (owner:Array (Option Nat)),Own M owner done->done.length+l.length<=M ->
   ∃owner',(l.foldl (λacc h=>do
    let (owner,k) <- acc
    let j <- Kn M owner (NY M) (bits h%(M+1)) (bits h)
    pure (owner.setIfInBounds j (some k),k+1)) (some (owner,done.length)))=some (owner',done.length+l.length)/\Own M owner' (done++l):=by
  intro l
  induction l with
  | nil=>exact λdone owner O _=>⟨owner,rfl,by rw[CU];exact O⟩
  | cons a t ih =>
   intro done owner O hl;simp at hl;obtain ⟨j,ej,O'⟩:=O.next hM (by lia) a
   obtain ⟨owner',e,O''⟩:=ih (done++[a]) _ O' (by simp;lia);refine ⟨owner',?_,by simpa using O''⟩;rw[L6];have:(do
    let (owner,k) <- some (owner,done.length)
    let j <- Kn M owner (NY M) (bits a%(M+1)) (bits a)
    pure (owner.setIfInBounds j (some k),k+1))=some (owner.setIfInBounds j (some done.length),done.length+1):=by
    show (do
     let j <- Kn M owner (NY M) (bits a%(M+1)) (bits a)
     pure (owner.setIfInBounds j (some done.length),done.length+1))=_
    rw[ej];rfl
   rw[this];rw[show (done++[a]).length=done.length+1 by simp] at e;rw[e];simp;lia
 obtain ⟨owner',e,O⟩:=key hashes.toList [] _ (Own.start M) (by simpa using h);refine ⟨owner',?_,by simpa using O⟩;have e':=congrArg (Option.map W3) e;exact e'
def pairs(owner:Array (Option Nat))(l:List Nat):List (Nat×Nat):=l.filterMap λj=>(owner.getD j none).map (j,·)
theorem Jf{owner:Array (Option Nat)}{l:List Nat}{j idx:Nat}:(j,idx)∈pairs owner l↔j∈l/\owner.getD j none=some idx:=by
 unfold pairs;rw[MZ];constructor
 ·rintro⟨k,hk,e⟩
  cases o:owner.getD k none with
  | none=>rw[o] at e;cases e
  | some x =>
   rw[o] at e;have e':(k,x)=(j,idx):=BY e;cases e';exact ⟨hk,o⟩
 ·rintro⟨hj,e⟩
  exact ⟨j,hj,by rw[e];rfl⟩
theorem Kr{owner:Array (Option Nat)}:∀{l:List Nat},l.Pairwise (· < ·)->((pairs owner l).map (·.1)).Pairwise (· < ·)
 | [],_=>.nil
 | a::t,h=>by
  obtain ⟨h1,h2⟩:=CI.mp h;have ih:=Kr (owner:=owner) h2;unfold pairs;rw[ID];cases o:owner.getD a none with
  | none=>exact ih
  | some x =>
   show ((a,x)::pairs owner t |>.map (·.1)).Pairwise (· < ·);rw[B5];refine CI.mpr ⟨λb hb=>?_,ih⟩;obtain ⟨⟨b',i⟩,hm,rfl⟩:=B6.mp hb;exact h1 b' (Jf.mp hm).1
theorem Gh:∀{l₁ l₂:List Nat},l₁.Nodup->(∀x∈l₁,x∈l₂)->l₂.length<=l₁.length->l₁.Perm l₂
 | [],l₂,_,_,h=>by
  have:l₂=[]:=Fs.mp (by simpa using h);rw[this]
 | a::t,l₂,nd,hs,h=>by
  obtain ⟨n1,n2⟩:=Ev.mp nd;have ha:a∈l₂:=hs a AG;have hp:=List.perm_cons_erase ha;have hl:(l₂.erase a).length=l₂.length-1:=Iq ha;have ih:=Gh (l₂:=l₂.erase a) n2 (λx hx=>(Kb (λ(e:x=a)=>n1 (by rw[<- e];exact hx))).mpr (hs x (AH _ hx))) (by simp at h;lia);exact (U1 a ih).trans hp.symm
theorem ACe{M:Nat}(hM:Mask M){hashes:Array Int}(h:hashes.size<=M)(finger moves:Nat)(led plain:Bool) :
  ∃(place order:Array Nat),laid M finger moves led plain hashes=some ({mask:=M,place:=place,dummies:=#[],finger:=finger,led:=led,moves:=moves,plain:=plain},order) /\
   Tab {mask:=M,place:=place,dummies:=#[],finger:=finger,led:=led,moves:=moves,plain:=plain}/\place.size=hashes.size/\order.toList.Perm (AZ hashes.size) /\
   Loc {mask:=M,place:=place,dummies:=#[],finger:=finger,led:=led,moves:=moves,plain:=plain} (order.toList.map λi=>hashes.toList.getD i 0):=by
 obtain ⟨owner,e,O⟩:=ZW hM h;have gd:∀j idx,owner.getD j none=some idx↔owner[j]?=some (some idx):=λj idx=>by
  rw[G5];cases o:owner[j]? with
  | none=>simp
  | some x=>simp
 have rl:=Pl (n:=M+1);have rise:=Kr (owner:=owner) rl;have mem:∀j idx,(j,idx)∈pairs owner (AZ (M+1))↔owner[j]?=some (some idx):=λj idx=>by
  rw[Jf,gd];refine ⟨λz=>z.2,λz=>⟨BC.mpr ?_,z⟩⟩;have:=(Da.mp z).1;rw[O.size] at this;exact this
 have nd:((pairs owner (AZ (M+1))).map (·.2)).Nodup:=by
  have r:=D2.mp rise;refine D2.mpr (r.imp_of_mem λ{a b} ha hb lt z=>?_);obtain ⟨a1,a2⟩:=a;obtain ⟨b1,b2⟩:=b;have z':a2=b2:=z;subst z';have:=O.one _ _ _ ((mem a1 a2).mp ha) ((mem b1 a2).mp hb);simp at lt;lia
 have sub:∀x∈(pairs owner (AZ (M+1))).map (·.2),x∈AZ hashes.size:=λx hx=>by
  obtain ⟨⟨j,i⟩,hm,rfl⟩:=B6.mp hx;have:=(O.at_ j i ((mem j i).mp hm)).1;exact BC.mpr (by simpa using this)
 have sup:∀x∈AZ hashes.size,x∈(pairs owner (AZ (M+1))).map (·.2):=λx hx=>by
  obtain ⟨j,ej⟩:=O.has x (by simpa using hx);exact B6.mpr ⟨(j,x),(mem j x).mpr ej,rfl⟩
 have l1:=CZ G0 sup;have l2:=CZ nd sub;rw[CS] at l1 l2;have perm:=Gh nd sub (by rw[CS];exact l1);have ll:(pairs owner (AZ (M+1))).length=hashes.size:=by
  rw[AB] at l1 l2;lia
 refine ⟨((pairs owner (AZ (M+1))).map (·.1)).toArray,((pairs owner (AZ (M+1))).map (·.2)).toArray,?_,?_,?_,?_,?_⟩
 ·unfold laid
  rw[e];rfl
 ·refine ⟨hM,rfl,?_,λj hj=>?_,?_⟩
  ·show ((pairs owner (AZ (M+1))).map (·.1)).toArray.size<=M
   rw[A9,AB,ll];exact h
  ·have hj':j∈(pairs owner (AZ (M+1))).map (·.1):=hj
   obtain ⟨⟨k,i⟩,hm,rfl⟩:=B6.mp hj';have:=BC.mp (Jf.mp hm).1;show k<=M;lia
  ·exact rise
 ·rw[A9,AB,ll]
 ·exact perm
 ·intro idx j hh hj hh'
  have hj':((pairs owner (AZ (M+1))).map (·.1))[idx]?=some j:=by simpa using hj
  have hh2:(((pairs owner (AZ (M+1))).map (·.2)).map λi=>hashes.toList.getD i 0)[idx]?=some hh:=hh';rw[BM] at hj';rw[BM,BM] at hh2;cases o:(pairs owner (AZ (M+1)))[idx]? with
  | none=>rw[o] at hj';cases hj'
  | some x =>
   obtain ⟨k,i⟩:=x;rw[o] at hj' hh2;have ek:k=j:=BY hj';have ei:hashes.toList.getD i 0=hh:=BY hh2;subst ek;obtain ⟨_,m,w1,w2⟩:=O.at_ k i ((mem k i).mp (BH o));rw[ei] at w1 w2;refine ⟨m,w1,λm' hm'=>?_⟩;have z:=w2 m' hm';have hb:bits hh%(M+1)<=M:=by
    have:=My (bits hh) (show 0<M+1 by lia);lia
   have fine:Fine M (Bu M (bits hh%(M+1)) (bits hh)):=⟨Pz _ _,hb,hb,VF hb,rfl⟩;have wl:wayM M (Bu M (bits hh%(M+1)) (bits hh)) m'<=M:=(fine.iter m').j;show wayM M (Bu M (bits hh%(M+1)) (bits hh)) m'∈(pairs owner (AZ (M+1))).map (·.1);generalize wayM M (Bu M (bits hh%(M+1)) (bits hh)) m'=wv at z wl;have hw:wv<owner.size:=by rw[O.size];lia
   cases q:owner[wv] with
   | none =>
    have:owner.getD wv (some 0)=none:=by simp[EA,hw,q]
    rw[this] at z;cases z
   | some i'=>exact B6.mpr ⟨(wv,i'),(mem wv i').mpr (by rw[Bn hw,q]),rfl⟩
section
variable{prog:AM}{w:AT}{A:BQ}{E:Ap->AA->Prop}{s:AA}
abbrev IK(prog:AM)(w:AT)(h:Heap)(ks:List Int)(a:Addr):Prop:=T6 (LM prog w) h ks a
abbrev hsh(prog:AM)(w:AT)(ks:List Int):Int:=Mc (LM prog w) ks
theorem QT{ks:List Int}{vs:List Ap}(h:ItemsAre (LM prog w) ks vs):∀v∈vs,∃n t,v=.int n t:=by
 induction h with
 | nil=>intro v hv;cases hv
 | cons h1 _ ih =>
  intro v hv;rcases AX.mp hv with rfl | hv
  ·obtain ⟨t,e⟩:=JA h1
   exact ⟨_,t,e⟩
  ·exact ih v hv
theorem ACQ{ks:List Int}{a:Addr}{Q:Bool->AA->Prop}(hk:IK prog w s.heap ks a)(h:Q true s):wpAny (AL prog w) A (hashByValue 8 (.ref a)) Q E s:=by
 have hT:=hk.typeIs;obtain ⟨o,items,n,ho,_,hd,hi⟩:=hk;have allI:=QT hi;unfold hashByValue;refine As (Ha hT F.slot_tuple_hash.lookup ?_);show wpAny _ _ (OV (.ref a) >>= _) _ _ s;refine As (JP ho hd ?_);refine As ?_;show wpAny _ _ (forIn items _ _) _ _ s;rw[<- IM];refine E6 _ (λrest r s'=>r.1=none/\s'=s/\∀v∈rest,∃n t,v=EV n t) _ ?_ ?_ _ _ ⟨rfl,rfl,allI⟩
 ·rintro v rest r s' ⟨hr,rfl,hall⟩
  obtain ⟨n,t,rfl⟩:=hall v AG;refine As (wpAny_pure ?_);simp only[D7,AV,if_false];exact wpAny_pure ⟨rfl,rfl,λu hu'=>hall u (AH _ hu')⟩
 ·rintro⟨r1,r2⟩ s' ⟨hr,rfl,_⟩
  simp only at hr;subst hr;exact wpAny_pure h
theorem RQ{ks:List Int}{a:Addr}{Q:Bool->AA->Prop}(hk:IK prog w s.heap ks a)(h:Q false s):wpAny (AL prog w) A (SK 8 (.ref a)) Q E s:=by
 have hT:=hk.typeIs;obtain ⟨o,items,n,ho,_,hd,hi⟩:=hk;have allI:=QT hi;unfold SK;refine As (KU hT ?_);show wpAny _ _ ((if ("tuple" == "tuple")=true then pure true else isSubtype (.type "tuple") (.type "tuple")) >>= _) _ _ s;rw[if_pos (by decide)];refine As (wpAny_pure ?_);simp only[D7,AV,if_false];refine As (JP ho hd ?_);show wpAny _ _ (forIn items _ _ >>= _) _ _ s;refine As ?_;rw[<- IM];refine E6 _ (λrest r s'=>r.1=none/\s'=s/\∀v∈rest,∃n t,v=EV n t) _ ?_ ?_ _ _ ⟨rfl,rfl,allI⟩
 ·rintro v rest r s' ⟨hr,rfl,hall⟩
  obtain ⟨n,t,rfl⟩:=hall v AG;refine As (wpAny_pure ?_);simp only[AV,if_false];exact wpAny_pure ⟨rfl,rfl,λu hu'=>hall u (AH _ hu')⟩
 ·rintro⟨r1,r2⟩ s' ⟨hr,rfl,_⟩
  simp only at hr;subst hr;exact wpAny_pure h
theorem Yw{ks:List Int}{a:Addr}{Q:Bool->AA->Prop}(hk:IK prog w s.heap ks a)(stored:List Ap)(hst:∀v∈stored,∃k b,v=.ref b/\IK prog w s.heap k b)(h:Q false s):wpAny (AL prog w) A (SL (.ref a) stored) Q E s:=by
 unfold SL;refine As ?_;refine E6 _ (λrest r s'=>r.1=none/\s'=s/\∀v∈rest,∃k b,v=AS b/\IK prog w s.heap k b) _ ?_ ?_ _ _ ⟨rfl,rfl,hst⟩
 ·rintro v rest r s' ⟨hr,rfl,hall⟩
  have tl:∀u∈rest,∃k b,u=AS b/\IK prog w s'.heap k b:=λu hu'=>hall u (AH _ hu');obtain ⟨k,b,rfl,hb⟩:=hall v AG;dsimp only;by_cases c:(a==b)=true
  ·rw[if_pos (by rw[c];rfl)]
   exact wpAny_pure ⟨rfl,rfl,tl⟩
  ·rw[if_neg (by simp[c,UZ])]
   refine As (PY hk ?_);simp only[D7,AV,if_false];refine As (PY hb ?_);simp only[D7,AV,if_false];refine As (RQ hk ?_);simp only[AV,if_false];refine As (RQ hb ?_);simp only[AV,if_false];exact wpAny_pure ⟨rfl,rfl,tl⟩
 ·rintro⟨r1,r2⟩ s' ⟨hr,rfl,_⟩
  simp only at hr;subst hr;exact wpAny_pure h
end
theorem Ub{P:Nat->Prop}:∀(m:Nat),P m->∃n,P n/\∀n',n'<n->¬ P n':=by
 intro m
 induction m using Nat.strongRecOn with
 | ind m ih =>
  intro h;by_cases c:∃n,n<m/\P n
  ·obtain ⟨n,hn,hp⟩:=c
   exact ih n hn hp
  ·exact ⟨m,h,λn' hn' hp=>c ⟨n',hn',hp⟩⟩
def ledOf(w:AT):Bool:=!w.params.followText "set-order"
structure TS(prog:AM)(w:AT)(h:Heap)(S:Addr)(es:Array (Int×Ap))(t:C6)(ks:List (List Int×Addr)):Prop where
 obj:∃o ep,h.get? S=some o/\o.ExactSet/\o.data=.set es ep t
 tab:Tab t
 len:es.size=t.place.size
 loc:Loc t (es.toList.map (·.1))
 els:es.toList=ks.map λx=>(hsh prog w x.1,AS x.2)
 nd:(ks.map (·.1)).Nodup
 few:t.place.size*5<t.mask*3
 pl:t.plain=true
 ld:t.led=ledOf w
theorem Wa{t:C6}(T:Tab t):t.fill=t.place.size:=by unfold fill;rw[T.none];rfl
theorem Gj{t:C6}(T:Tab t){n:Nat}(e:n=t.place.size):t.fits n=true:=by
 unfold SetTable.fits;rw[Wa T,e];have:=T.size;simp[this]
section
variable{prog:AM}{w:AT}{A:BQ}{E:Ap->AA->Prop}{s:AA}{S:Addr}{es:Array (Int×Ap)}{t:C6}{ks:List (List Int×Addr)}
theorem TS.at_{h:Heap}(X:TS prog w h S es t ks){i:Nat}{j:Nat}(hi:t.place[i]?=some j):∃x,ks[i]?=some x/\es[i]?=some (hsh prog w x.1,AS x.2):=by
 have hl:=(Da.mp hi).1;have hle:i<es.toList.length:=by rw[AU,X.len];exact hl
 cases o:ks[i]? with
 | none =>
  have l2:=congrArg FK X.els;rw[AB] at l2;have:=List.getElem?_eq_none_iff.mp o;lia
 | some x =>
  refine ⟨x,rfl,?_⟩;rw[<- B7,X.els,BM,o];rfl
theorem OJ{t:C6}(T:Tab t){i i' j:Nat}(h:t.place[i]?=some j)(h':t.place[i']?=some j):i=i':=by
 obtain ⟨a,ea⟩:=Da.mp h;obtain ⟨b,eb⟩:=Da.mp h';have r:=CO.mp T.rise;rcases NL i i' with c | c | c
 ·have:=r i i' (by simpa using a) (by simpa using b) c
  simp at this;lia
 ·exact c
 ·have:=r i' i (by simpa using b) (by simpa using a) c
  simp at this;lia
set_option tactic.hygienic true in
theorem Xz{k:List Int}{a:Addr}(X:TS prog w s.heap S es t ks)(hK:∀x∈ks,IK prog w s.heap x.1 x.2)(hk:IK prog w s.heap k a)(hu:A.units<C2){N:Nat}
  (hN:way t (t.probeStart (hsh prog w k)) N∉t.place.toList) (hB:∀m,m<N->way t (t.probeStart (hsh prog w k)) m∈t.place.toList) {Q:SetFound->AA->Prop}
  (h1:k∈ks.map (·.1)->Q (.there none) s) (h2:k∉ks.map (·.1)->Q (.free (way t (t.probeStart (hsh prog w k)) N) false) s) :
  ∀(fuel c:Nat) (stand:Option HM),c<=N->N-c<fuel->stand.getD (t.probeStart (hsh prog w k))=SB.iter (step t.mask) c (t.probeStart (hsh prog w k)) ->
   (∀m,m<c->∀(i:Nat) (x:List Int×Addr),t.place[i]?=some (way t (t.probeStart (hsh prog w k)) m)->ks[i]?=some x->x.1≠k) ->
   wpAny (AL prog w) A (NC S (.ref a) (hsh prog w k) true fuel stand) Q E s:=by
 obtain ⟨o,ep,ho,hex,hd⟩:=X.obj;have hf:=Gj X.tab X.len;intro fuel
 induction fuel with
 | zero=>intro c stand _ h;lia
 | succ fuel ih =>
  intro c stand hc hfu hst hV;unfold NC;refine As (FD ho hd hf ?_);dsimp only;have hg:t.gaveWay=false:=by
   unfold SetTable.gaveWay;rcases X.tab.mask with e | e | e | e<;>rw[e]<;>decide
  rw[hg];simp only[AV,if_false];have fine:Fine t.mask (SB.iter (step t.mask) c (t.probeStart (hsh prog w k))):=(Fine.start t _).iter c;have hb:(SB.iter (step t.mask) c (t.probeStart (hsh prog w k))).perturb<2 ^ 64:=G4 (Kl c _) (Qc _);obtain ⟨m,hm,hcase⟩:=ZC X.tab (hashAt:=λi=>(es[i]?.map (·.1)).getD 0) (h:=hsh prog w k) fine hb;have wy:∀m,way t (SB.iter (step t.mask) c (t.probeStart (hsh prog w k))) m=way t (t.probeStart (hsh prog w k)) (c+m):=λm=>by
   unfold way;rw[CN]
  have inpl:∀{i j:Nat},t.place[i]?=some j->j∈t.place.toList:=λ{i j} e=>by
   rw[Db];exact ⟨i,by rw[B7];exact e⟩
  have hV':∀m',m'<c+m->∀(i:Nat) (x:List Int×Addr),t.place[i]?=some (way t (t.probeStart (hsh prog w k)) m')->ks[i]?=some x->x.1≠k:=λm' hm' i x hi hx ek=>by
   by_cases z:m'<c
   ·exact hV m' z i x hi hx ek
   ·obtain ⟨i',hi',hne⟩:=hm (m'-c) (by lia)
    rw[wy,show c+(m'-c)=m' by lia] at hi';have:=OJ X.tab hi hi';subst this;obtain ⟨y,hy,ey⟩:=X.at_ hi;rw[hx] at hy;cases hy;refine hne ?_;show ((es[i]?.map (·.1)).getD 0)=_;rw[ey,<- ek];rfl
  have ltN:way t (t.probeStart (hsh prog w k)) (c+m)∈t.place.toList->c+m<N:=λz=>by
   refine CM λzz=>?_;by_cases q:c+m=N
   ·rw[q] at z;exact hN z
   ·obtain ⟨i',hi',_⟩:=hm (N-c) (by lia)
    rw[wy,show c+(N-c)=N by lia] at hi';exact hN (inpl hi')
  split
  ·rename_i met heq
   rw[hst] at heq;rcases hcase with⟨hne,e⟩ | ⟨i,hi,hsl,hhash,e⟩
   ·obtain rfl:=BY (heq.symm.trans e)
    dsimp only;have hcN:c+m=N:=by
     rw[wy] at hne;refine CM λq=>?_;by_cases z:c+m<N
     ·exact hne (hB _ z)
     ·obtain ⟨i',hi',_⟩:=hm (N-c) (by lia)
      rw[wy,show c+(N-c)=N by lia] at hi';exact hN (inpl hi')
    rw[wy,hcN];refine wpAny_pure (h2 λhmem=>?_);obtain ⟨x,hx,ex⟩:=B6.mp hmem;obtain ⟨i,hi⟩:=Db.mp hx;have hil:i<t.place.size:=by
     have l1:=(AJ.mp hi).1;have l2:=congrArg FK X.els;rw[AB,AU,X.len] at l2;lia
    obtain ⟨m1,w1,w2⟩:=X.loc i t.place[i] (hsh prog w x.1) (Bn hil) (by rw[X.els,J3,BM,hi];rfl);rw[ex] at w1 w2;have hm1:m1<N:=by
     refine CM λq=>?_;by_cases z:m1=N
     ·subst z
      rw[w1] at hN;exact hN (inpl (Bn hil))
     ·exact hN (w2 N (by lia))
    exact hV' m1 (by lia) i x (by rw[w1];exact Bn hil) hi ex
   ·obtain rfl:=BY (heq.symm.trans e)
    dsimp only;rw[wy] at hi hsl ⊢;have hlt:=ltN (inpl hi);obtain ⟨x,hx,hes⟩:=X.at_ hi;have hxb:=hK x (BH hx);have tail:wpAny (AL prog w) A (do
      let some (_,y):=es[i]? | unsupported "internal:set-entry"
      let equal <- SC [y] (eqBool y (.ref a))
      let (es',_,t') <- setState S
      if true&&equal then return .there none
      let some same:=t'.sameMemory t.moves t.mask | unsupported "set.changed-during-lookup:is-the-new-block-at-the-old-address"
      let still <- match (if same then t'.slot (way t (t.probeStart (hsh prog w k)) (c+m)) else .empty) with
       | .live i'=>match es'[i']? with
        | some (_,y')=>do pure (if <- isSame y' y then some i' else none)
        | none=>pure none
       | _=>pure none
      match still with
      | none=>rule "set.search.anew";NC S (.ref a) (hsh prog w k) true fuel none
      | some i'=>if equal then return .there (some i') else NC S (.ref a) (hsh prog w k) true fuel (some (SB.iter (step t.mask) (m+1) (SB.iter (step t.mask) c (t.probeStart (hsh prog w k)))))) Q E s:=by
     rw[hes];dsimp only;refine As (EU (Sf hu hxb hk ?_));refine As (FD ho hd hf ?_);dsimp only;by_cases ek:x.1=k
     ·rw[decide_eq_true ek]
      simp only[VU,if_true];exact wpAny_pure (h1 (B6.mpr ⟨x,BH hx,ek⟩))
     ·rw[decide_eq_false ek]
      simp only[U2,AV,if_false];have sm:t.sameMemory t.moves t.mask=some true:=by unfold sameMemory;simp
      rw[sm];dsimp only;simp only[if_true,hsl];rw[hes];dsimp only;refine As (wpAny_isSame_ref_self ?_);simp only[if_true];refine As (wpAny_pure ?_);dsimp only;refine ih (c+m+1) _ (by lia) (by lia) ?_ ?_
      ·show SB.iter (step t.mask) (m+1) (SB.iter (step t.mask) c (t.probeStart (hsh prog w k)))=_
       rw[<- CN];rfl
      ·intro m' hm' i' x' hi' hx' ek'
       by_cases z:m'<c+m
       ·exact hV' m' z i' x' hi' hx' ek'
       ·have:m'=c+m:=by lia
        subst this;have:=OJ X.tab hi hi';subst this;rw[hx] at hx';cases hx';exact ek ek'
    cases hled:t.led with
    | true =>
     simp only[D7,AV,if_false];exact tail
    | false =>
     simp only[MS,if_true];refine As (Yw hk _ ?_ ?_)
     ·intro v hv
      obtain ⟨e',he',rfl⟩:=B6.mp hv;have he2:e'∈es.toList:=by
       have:e'∈es/\e'.fst=hsh prog w k:=by simpa using he'
       simpa using this.1
      rw[X.els] at he2;obtain ⟨y,hy,rfl⟩:=B6.mp he2;exact ⟨y.1,y.2,rfl,hK y hy⟩
     ·simp only[AV,if_false]
      exact tail
  ·rename_i hno
   rcases hcase with⟨_,e⟩ | ⟨i,_,_,_,e⟩
   ·exact (hno _ (by rw[hst];exact e)).elim
   ·exact (hno _ (by rw[hst];exact e)).elim
end
theorem Hu{α:Type}{l:List α}(d:α):∀{order:List Nat},(∀i∈order,i<l.length)->order.filterMap (λi=>l[i]?)=order.map λi=>l.getD i d
 | [],_=>rfl
 | i::r,h=>by
  have hi:=h i AG;rw[ID,AK hi,B5,Hu d λj hj=>h j (AH _ hj)];simp[AC,hi]
theorem Ui{α:Type}(l:List α):(AZ l.length).filterMap (λi=>l[i]?)=l:=by
 cases l with
 | nil=>rfl
 | cons d r =>
  rw[Hu d λi hi=>BC.mp hi];apply F8;intro i;by_cases hi:i<(d::r).length
  ·rw[BM,Go hi,AK hi]
   show some ((d::r).getD i d)=_;rw[AC,AK hi];rfl
  ·rw[D1 (by simpa using hi),D1 (by lia)]
theorem JR{α:Type}{l:List α}{order:List Nat}(h:order.Perm (AZ l.length)):(order.filterMap λi=>l[i]?).Perm l:=by
 have:=h.filterMap λi=>l[i]?;rw[Ui] at this;exact this
section
variable{prog:AM}{w:AT}{A:BQ}{E:Ap->AA->Prop}{s:AA}{S:Addr}{es:Array (Int×Ap)}{t:C6}{ks:List (List Int×Addr)}
theorem stored{h:Heap}{o:Obj}{ep:Nat}(ho:h.get? S=some o)(hex:o.ExactSet)(hd:o.data=.set es ep t)(es':Array (Int×Ap))(t':C6) :
  ∃o' ep',(h.update S (Uf es' t')).get? S=some o'/\o'.ExactSet/\o'.data=.set es' ep' t':=by
 have hg:(h.update S (Uf es' t')).get? S=some {o with data:=.set es' (ep+1) t'}:=by
  have:=EX (Uf es' t') ho (by rw[putSet_of es' t' hd];rfl);rw[putSet_of es' t' hd] at this;exact this
 exact ⟨_,_,hg,hex,rfl⟩
theorem Zq{h:Heap}(hs:s.heap=h){o:Obj}{ep:Nat}(ho:h.get? S=some o)(hex:o.ExactSet)(hd:o.data=.set es ep t)(T:Tab t)(hl:es.size=t.place.size)(hel:es.toList=ks.map λx=>(hsh prog w x.1,AS x.2))
  (nd:(ks.map (·.1)).Nodup) (hfull:t.mask*3<=t.place.size*5) (hfew:(t.place.size-1)*5<t.mask*3) (h61:ks.length<=301) (hpl:t.plain=true) (hld:t.led=ledOf w) {Q:Unit->AA->Prop}
  (q:∀h' es' t' ks',ET S h h'->TS prog w h' S es' t' ks'->ks'.Perm ks->Q () {s with heap:=h'}) :
  wpAny (AL prog w) A (W4 S (UA es.size)) Q E s:=by
 subst hs;have hks:ks.length=es.size:=by
  have:=congrArg FK hel;rw[AB,AU] at this;exact this.symm
 have key:∃M,sizeAbove (UA es.size)=M+1/\Mask M/\es.size<=M/\es.size*5<M*3:=by
  rcases T.mask with e | e | e | e
  ·have:es.size=5:=by rw[e] at hfull hfew;lia
   rw[this];exact ⟨31,by decide,.inr (.inl rfl),by decide,by decide⟩
  ·have:es.size=19:=by rw[e] at hfull hfew;lia
   rw[this];exact ⟨127,by decide,.inr (.inr (.inl rfl)),by decide,by decide⟩
  ·have:es.size=77:=by rw[e] at hfull hfew;lia
   rw[this];exact ⟨511,by decide,.inr (.inr (.inr rfl)),by decide,by decide⟩
  ·rw[e] at hfull
   lia
 obtain ⟨M,eM,hM,hle,hfew'⟩:=key;unfold W4;refine As (FD ho hd (Gj T hl) ?_);dsimp only;have hz:¬ (sizeAbove (UA es.size)>sizeLine):=by
  rw[eM,FX];rcases hM with e | e | e | e<;>lia
 rw[if_neg hz];obtain ⟨place,order,el,T2,hps,hpo,L2⟩:=ACe hM (hashes:=es.map (·.1)) (by simpa using hle) t.finger (t.movedTo M) t.led t.plain;have erl:t.relaid (es.map (·.1)) (UA es.size)=some ({mask:=M,place:=place,dummies:=#[],finger:=t.finger,led:=t.led,moves:=t.movedTo M,plain:=t.plain},order):=by
  unfold relaid;rw[eM];exact el
 refine As ?_;show wpAny _ _ (do
  let some (t,order):=t.relaid (es.map (·.1)) (UA es.size) | unsupported "internal:set-table-without-room"
  let es':=order.filterMap (es[·]?)
  if es'.size != es.size then unsupported "internal:set-table-lost-an-element"
  pure (es',t)) _ _ _
 rw[erl];dsimp only;have hsz:(es.map (·.1)).size=es.toList.length:=by simp
 rw[hsz] at hpo;have ef:(order.filterMap (es[·]?)).toList=order.toList.filterMap λi=>es.toList[i]?:=by
  rw[Array.toList_filterMap]
  congr 1
  funext i
  rw[B7]
 have hp:=JR hpo;have hes:(order.filterMap (es[·]?)).size=es.size:=by
  rw[<- AU,ef,hp.length_eq,AU]
 rw[if_neg (by rw[hes];simp)];refine wpAny_pure ?_;dsimp only;refine SO ho hd ?_ (by rw[hes,FX];rcases hM with e | e | e | e<;>lia);obtain ⟨o',ep',ho',hex',hd'⟩:=stored ho hex hd (order.filterMap (es[·]?)) {mask:=M,place:=place,dummies:=#[],finger:=t.finger,led:=t.led,moves:=t.movedTo M,plain:=t.plain};have hpk:(order.toList.filterMap λi=>ks[i]?).Perm ks:=JR (by rw[AU] at hpo;rw[hks];exact hpo);refine q _ _ _ (order.toList.filterMap λi=>ks[i]?) (DZ ..) ⟨⟨o',ep',ho',hex',hd'⟩,T2,?_,?_,?_,?_,?_,hpl,hld⟩ hpk
 ·rw[hes,hps];simp
 ·have e1:(order.filterMap (es[·]?)).toList.map (·.1)=order.toList.map λi=>(es.map (·.1)).toList.getD i 0:=by
   rw[ef,Hu (0,C1) (λi hi=>by have:=BC.mp (hpo.mem_iff.mp hi);exact this),J3];refine KB λi hi=>?_;have hi':i<es.toList.length:=BC.mp (hpo.mem_iff.mp hi);have hi2:i<es.size:=by simpa using hi'
   show (es.toList.getD i (0,C1)).1=_;simp[AC,hi2]
  rw[e1];exact L2
 ·rw[ef,hel,List.map_filterMap]
  congr 1
  funext i
  rw[BM]
 ·exact (MG (hpk.map (·.1))).mpr nd
 ·show place.size*5<M*3
  rw[hps];simpa using hfew'
def Added(ks:List (List Int×Addr))(k:List Int)(a:Addr)(ks':List (List Int×Addr)):Prop:=(k∈ks.map (·.1)/\ks'=ks)\/(k∉ks.map (·.1)/\ks'.Perm ((k,a)::ks))
theorem Tw{k:List Int}{a:Addr}(X:TS prog w s.heap S es t ks)(hK:∀x∈ks,IK prog w s.heap x.1 x.2)(hk:IK prog w s.heap k a)(hu:A.units<C2)(h60:ks.length<=300){Q:Bool->AA->Prop}
  (q:∀b h' es' t' ks',ET S s.heap h'->TS prog w h' S es' t' ks'->Added ks k a ks'->Q b {s with heap:=h'}) :
  wpAny (AL prog w) A (setAddHashed S (.ref a) (hsh prog w k)) Q E s:=by
 obtain ⟨o,ep,ho,hex,hd⟩:=X.obj;have hf:=Gj X.tab X.len;have fine:Fine t.mask (t.probeStart (hsh prog w k)):=Fine.start t _;have hks:ks.length=t.place.size:=by
  have:=congrArg FK X.els;rw[AB,AU,X.len] at this;exact this.symm
 obtain ⟨m0,hm0,nm0⟩:=Nu X.tab.mask X.tab.size fine (Qc (hsh prog w k));obtain ⟨N,hN,hNmin⟩:=Ub (P:=λm=>way t (t.probeStart (hsh prog w k)) m∉t.place.toList) m0 nm0;have hNle:N<=m0:=CM λc=>hNmin m0 (by lia) nm0;have hB:∀m,m<N->way t (t.probeStart (hsh prog w k)) m∈t.place.toList:=λm hm=>CM λc=>hNmin m hm c;have hM:t.mask<=511:=by rcases X.tab.mask with e | e | e | e<;>lia
 unfold setAddHashed setAddHashedIn;refine EU (As (FD ho hd hf ?_));dsimp only;have hbs:byScan (.ref a) es=false:=rfl;rw[hbs];simp only[AV,if_false];unfold setSearch;refine As (Xz X hK hk hu hN hB ?_ ?_ 100000 0 none (Bi _) (by unfold NY at hm0;lia) rfl (λm hm=>absurd hm (by lia)))
 ·intro hmem
  exact wpAny_pure (by
   have:=q false s.heap es t ks (X8 S s.heap) X (.inl ⟨hmem,rfl⟩);exact this)
 ·intro hnm
  dsimp only;refine As (FD ho hd hf ?_);dsimp only;generalize hj:way t (t.probeStart (hsh prog w k)) N=j;have P:Put t j:=by
   refine ⟨?_,?_,?_⟩
   ·rw[<- hj];exact (fine.iter N).j
   ·rw[<- hj];exact hN
   ·have:=X.few
    rcases X.tab.mask with e | e | e | e<;>rw[e] at this ⊢<;>lia
  have T1:=ABV X.tab P;have L1:=ABW X.tab (by rw[AB,AU,X.len]) X.loc hB;rw[hj] at L1;obtain ⟨e1,e2⟩:=Jd X.tab (j:=j);have b3:=(FT (j:=j) X.tab.rise).2.2;have pm:(t.put j).1.mask=t.mask:=by rw[e1]
  have pp:(t.put j).1.plain=true:=by rw[e1];exact X.pl
  have pd:(t.put j).1.led=ledOf w:=by rw[e1];exact X.ld
  have ps:(t.put j).1.place.size=t.place.size+1:=by
   rw[e1];have:=congrArg FK (BW t.place (below t.place j) j);simp at this;show (D5 t.place (below t.place j) j).size=_;lia
  rw[e2] at L1;generalize hp:below t.place j=p at *;generalize ht1:(t.put j).1=t1 at *;have hes1:(D5 es p (hsh prog w k,AS a)).toList=(ks.take p++[(k,a)]++ks.drop p).map λx=>(hsh prog w x.1,AS x.2):=by
   rw[BW,X.els,B8,B8,Q2,Q3];rfl
  have hsz1:(D5 es p (hsh prog w k,AS a)).size=es.size+1:=by
   have:=congrArg FK (BW es p (hsh prog w k,AS a));simp at this;have:=X.len;lia
  have hperm:(ks.take p++[(k,a)]++ks.drop p).Perm ((k,a)::ks):=by
   have:=List.perm_middle (a:=(k,a)) (l₁:=ks.take p) (l₂:=ks.drop p);rw[FU] at this;rw[C0];exact this
  have nd1:((ks.take p++[(k,a)]++ks.drop p).map (·.1)).Nodup:=(MG (hperm.map (·.1))).mpr (by rw[B5];exact Ev.mpr ⟨hnm,X.nd⟩);have hl1:(D5 es p (hsh prog w k,AS a)).toList.map (·.1)=(es.toList.map (·.1)).take p++[hsh prog w k]++(es.toList.map (·.1)).drop p:=by
   rw[BW,B8,B8,Q2,Q3];rfl
  have e3:(t.put j).2=p:=e2;have go:∀(t2:C6),Tab t2->t2.mask=t1.mask->t2.place=t1.place->t2.plain=true->t2.led=ledOf w->wpAny (AL prog w) A (do
    storeSet S (D5 es p (hsh prog w k,AS a)) t2
    if (!false&&t2.tooFull)=true then do
     W4 S (UA (es.size+1))
     pure true
    else pure true) Q E s:=by
   intro t2 T2 m2 p2 q2 r2;refine As (SO ho hd ?_ (by rw[hsz1,FX];have:=X.len;lia));obtain ⟨o',ep',ho',hex',hd'⟩:=stored ho hex hd (D5 es p (hsh prog w k,AS a)) t2;have L2:Loc t2 ((D5 es p (hsh prog w k,AS a)).toList.map (·.1)):=by
    rw[hl1];intro idx jj h' a1 a2;rw[p2] at a1;obtain ⟨m,w1,w2⟩:=L1 idx jj h' a1 a2;refine ⟨m,?_,λm' hm'=>?_⟩
    ·unfold way probeStart at w1 ⊢
     rw[m2];exact w1
    ·have:=w2 m' hm'
     unfold way probeStart at this ⊢;rw[m2,p2];exact this
   have tf:t2.tooFull=decide (t.mask*3<=(t.place.size+1)*5):=by
    unfold tooFull;rw[Wa T2,p2,m2,ps,pm]
   rw[tf];by_cases c:t.mask*3<=(t.place.size+1)*5
   ·rw[decide_eq_true c]
    simp only[MS,VU,if_true];rw[<- hsz1];refine As (Zq (ks:=ks.take p++[(k,a)]++ks.drop p) rfl ho' hex' hd' T2 (by rw[hsz1,p2,ps,X.len]) hes1 nd1 ?_ ?_ ?_ q2 r2 ?_)
    ·rw[p2,m2,ps,pm];exact c
    ·rw[p2,m2,ps,pm]
     have:=X.few;lia
    ·rw[hperm.length_eq]
     simp;lia
    ·intro h' es' t' ks' sb X' pk
     exact wpAny_pure (q true h' es' t' ks' ((DZ ..).trans sb) X' (.inr ⟨hnm,pk.trans hperm⟩))
   ·rw[decide_eq_false c]
    simp only[U2,AV,if_false];exact wpAny_pure (q true _ _ t2 _ (DZ ..) ⟨⟨o',ep',ho',hex',hd'⟩,T2,by rw[hsz1,p2,ps,X.len],L2,hes1,nd1,by rw[p2,m2,ps,pm];lia,q2,r2⟩ (.inr ⟨hnm,hperm⟩))
  rw[e3];simp only[pp,if_true];refine As (ACQ hk ?_);simp only[if_true];exact go t1 T1 rfl rfl pp pd
theorem ADL{k:List Int}{a:Addr}(X:TS prog w s.heap S es t ks)(hK:∀x∈ks,IK prog w s.heap x.1 x.2)(hk:IK prog w s.heap k a)(hu:A.units<C2)(h60:ks.length<=300){Q:Bool->AA->Prop}
  (q:∀b h' es' t' ks',ET S s.heap h'->TS prog w h' S es' t' ks'->Added ks k a ks'->Q b {s with heap:=h',toks:=s.toks+(k.length+1)}) :
  wpAny (AL prog w) A (setAdd S (.ref a)) Q E s:=by
 unfold setAdd;refine EU ?_;refine As (Se hu hk ?_);exact Tw (s:={s with toks:=s.toks+(k.length+1)}) X hK hk hu h60 λb h' es' t' ks' sb X' ad=>q b h' es' t' ks' sb X' ad
end
structure Of(vals:Nat->List Int×Addr)(i:Nat)(ks:List (List Int×Addr)):Prop where
 sub:∀x∈ks,∃j,j<i/\x=vals j
 sup:∀j,j<i->(vals j).1∈ks.map (·.1)
 len:ks.length<=i
theorem Of.next{vals:Nat->List Int×Addr}{i:Nat}{ks ks':List (List Int×Addr)}(h:Of vals i ks)(a:Added ks (vals i).1 (vals i).2 ks'):Of vals (i+1) ks':=by
 rcases a with⟨hm,rfl⟩ | ⟨hm,p⟩
 ·refine ⟨λx hx=>?_,λj hj=>?_,by have:=h.len;lia⟩
  ·obtain ⟨j,hj,e⟩:=h.sub x hx
   exact ⟨j,by lia,e⟩
  ·by_cases c:j=i
   ·rw[c];exact hm
   ·exact h.sup j (by lia)
 ·refine ⟨λx hx=>?_,λj hj=>?_,by rw[p.length_eq];have:=h.len;simp;lia⟩
  ·rcases AX.mp (p.mem_iff.mp hx) with e | hx
   ·exact ⟨i,by lia,e⟩
   ·obtain ⟨j,hj,e⟩:=h.sub x hx
    exact ⟨j,by lia,e⟩
  ·have pm:=(p.map (·.1)).mem_iff (a:=(vals j).1)
   by_cases c:j=i
   ·subst c
    exact pm.mpr (by rw[B5];exact AG)
   ·exact pm.mpr (by rw[B5];exact AH _ (h.sup j (by lia)))
section
variable{prog:AM}{w:AT}{A:BQ}{s:AA}
theorem Gs{h h':Heap}{k:List Int}{a:Addr}(hk:IK prog w h k a)(e:∀o,h.get? a=some o->h'.get? a=some o):IK prog w h' k a:=by
 obtain ⟨o,items,n,ho,r⟩:=hk;exact ⟨o,items,n,e o ho,r⟩
theorem Vt{h h':Heap}{S:Addr}{es:Array (Int×Ap)}{t:C6}{ks:List (List Int×Addr)}(X:TS prog w h S es t ks)(e:∀o,h.get? S=some o->h'.get? S=some o):TS prog w h' S es t ks:=by
 obtain ⟨o,ep,ho,r⟩:=X.obj;exact ⟨⟨o,ep,e o ho,r⟩,X.tab,X.len,X.loc,X.els,X.nd,X.few,X.pl,X.ld⟩
end
theorem ABK{prog:AM}{w:AT}{h:Heap}{S:Addr}{led:Bool}(hw:led=ledOf w)(hg:h.get? S=some {cls:=.type "set",dict:=none,data:=.set #[] 0 (.fresh 0 0 led)}):TS prog w h S #[] (.fresh 0 0 led) []:=by
 refine ⟨⟨_,0,hg,⟨rfl,rfl,rfl⟩,rfl⟩,⟨.inl rfl,rfl,Bi _,λj hj=>(by cases hj),.nil⟩,rfl,λidx j h' a=>?_,rfl,.nil,by show 0*5<7*3;decide,rfl,hw⟩;cases a
section
variable{prog:AM}{w:AT}{A:BQ}{E:Ap->AA->Prop}{s:AA}
theorem ZV(a:Ap){Q₁:Ap->AA->Prop}(h:Q₁ (.ref s.heap.objs.size) {s with heap:=s.heap.push {cls:=.type "set",dict:=none,data:=.set #[] 0 (.fresh 0 0 (ledOf w))}}) :
  codeAny (AL prog w) A (.call (.builtin "set.__new__") ⟨[.type "set",a],[]⟩) (wants Q₁ E) s:=by
 refine UB ?_;show wpAny _ A.in1 (checkBuiltinCall "set.__new__" ⟨[.type "set",a],[]⟩ >>= λ_=>again (.builtin "set.__new__" ⟨[.type "set",a],[]⟩)) _ _ s;refine As (LG (F.newCall_set_1 a) (wpAny_pure ⟨LJ UD _,EW F.entry_set_new ?_⟩));rw[Fk UD _];unfold Builtin.«set.__new__» VW;have sself:=sub_set_self;obtain ⟨hp,g,d,tk,os⟩:=s;dsimp only
 wp_walk
 refine Ki (wpAny_pure ?_);dsimp only;simp only[newObj];refine As (wpAny_alloc (wpAny_pure ?_));exact wpAny_pure h
end
theorem ABQ{α:Type}{l:List α}:∀{k:Nat}{y:α},l[k]?=some y->(y::l.eraseIdx k).Perm l:=by
 induction l with
 | nil=>intro k y h;simp at h
 | cons a t ih =>
  intro k y h;cases k with
  | zero =>
   obtain rfl:a=y:=by simpa using h
   exact MU _
  | succ k =>
   have h':t[k]?=some y:=by simpa using h
   exact (U3 a y _).trans (U1 a (ih h'))
set_option tactic.hygienic true in
theorem Vn{α:Type}(next:Nat->Nat):∀(fuel k:Nat) (left:List α) (out:Array α),left.length<=fuel->(W5 next fuel k left out).toList.Perm (out.toList++left)
 | 0,k,left,out,h=>by
  have:left=[]:=Fs.mp (by lia);subst this;rw[CU];exact MU _
 | fuel+1,k,left,out,h=>by
  unfold W5;cases e:left[next k%left.length]? with
  | none =>
   have hl:left=[]:=by
    cases left with
    | nil=>rfl
    | cons a t =>
     have:=My (next k) (show 0<(a::t).length by simp);rw[AK this] at e;cases e
   subst hl;rw[CU]
  | some x =>
   have hi:=(AJ.mp e).1;have hl:(left.eraseIdx (next k%left.length)).length=left.length-1:=List.length_eraseIdx_of_lt hi;have ih:=Vn next fuel (k+1) (left.eraseIdx (next k%left.length)) (out.push x) (by lia)
   refine ih.trans ?_;rw[JJ,C0];exact FV _ (ABQ e)
set_option tactic.hygienic true in
theorem ACT{α:Type}(next:Nat->Nat)(xs:Array α):(Sm next xs).toList.Perm xs.toList:=by
 have:=Vn next xs.size 0 xs.toList #[] (by simp)
 unfold Sm;simpa using this
namespace F
theorem Lh:W6 table "set.__iter__" = some Builtin.«frozenset.__iter__» :=
 entryFor_alias (id':="frozenset.__iter__") (by kernel_rfl) (by first | rfl | decide +kernel) (by decide +kernel) (by kernel_rfl)
theorem Qu:Manifest.owners.lookup (String.ofList ['r','o','t','a','r','e','t','i','_','t','e','s'].reverse)=some Manifest.sig_set_iterator:=by kernel_rfl
theorem Ds:Slot "set_iterator" "__next__" "set_iterator.__next__":=.of (owner:="set_iterator") (n:="__next__") (by rw[UE,PZ];kernel_rfl) (by decide +kernel) (by decide +kernel) (by decide +kernel) (by first | exact .inl (by decide +kernel) | exact .inr (by decide +kernel)) (by rw[P0];kernel_rfl)
theorem Mp:W6 table "set_iterator.__next__" = some Builtin.«set_iterator.__next__»:=entryFor_of_tree (by kernel_rfl)
theorem Ph(a:Ap):W7 "set_iterator.__next__" ⟨[a],[]⟩:=by
 unfold W7;rw[signature?_of (id:="set_iterator.__next__") (n:=['_','_','t','x','e','n','_','_']) (o:=['r','o','t','a','r','e','t','i','_','t','e','s']) (by kernel_rfl) Qu];kernel_rfl
theorem IW:Slot "set_iterator" "__iter__" "set_iterator.__iter__":=.of (owner:="set_iterator") (n:="__iter__") (by rw[UE,PZ];kernel_rfl) (by decide +kernel) (by decide +kernel) (by decide +kernel) (by first | exact .inl (by decide +kernel) | exact .inr (by decide +kernel)) (by rw[P0];kernel_rfl)
theorem QV(a:Ap):W7 "set_iterator.__iter__" ⟨[a],[]⟩:=by
 unfold W7;rw[signature?_of (id:="set_iterator.__iter__") (n:=['_','_','r','e','t','i','_','_']) (o:=['r','o','t','a','r','e','t','i','_','t','e','s']) (by kernel_rfl) Qu];kernel_rfl
theorem MF:W6 table "set_iterator.__iter__" = some Builtin.«dict_keyiterator.__iter__» :=
 entryFor_alias (id':="dict_keyiterator.__iter__") (by kernel_rfl) (by first | rfl | decide +kernel | (unfold String.splitOn;simp +decide [String.splitOnAux])) (by decide +kernel) (by kernel_rfl)
end F
def SI(h:Heap)(I S:Addr)(slot i n ep:Nat):Prop:=∃o,h.get? I=some o/\o.cls=.type "set_iterator"/\o.data=.fields #[FY slot,FY i,.ref S,FY n,FY ep]
theorem SI.typeIs{s:AA}{I S:Addr}{slot i n ep:Nat}(x:SI s.heap I S slot i n ep):s.TypeIs (.ref I) "set_iterator":=let ⟨o,ho,hc,_⟩:=x;⟨o,ho,hc⟩
section
variable{prog:AM}{w:AT}{A:BQ}{E:Ap->AA->Prop}{s:AA}{S:Addr}{es:Array (Int×Ap)}{t:C6}{ep:Nat}{o:Obj}
def text(w:AT):Bool:=w.params.followText "set-order"
def ord(w:AT)(S:Addr)(ep:Nat)(es:Array (Int×Ap)):Array (Int×Ap):=if text w=true then Sm (w.params.setOrder S ep) es else es
theorem Ri(w:AT)(S:Addr)(ep:Nat)(es:Array (Int×Ap)):(ord w S ep es).toList.Perm es.toList:=by
 unfold ord;split
 ·exact ACT _ _
 ·exact MU _
def slotAt(w:AT)(t:C6)(i:Nat):Nat:=if text w=true then 0 else if i=0 then 0 else t.place.getD (i-1) 0+1
theorem Uj(hx:text w=false)(T:Tab t){i:Nat}(hi:i<=t.place.size):below t.place (slotAt w t i)=i:=by
 obtain ⟨b1,b2,b3⟩:=FT (j:=slotAt w t i) T.rise;have r:=CO.mp T.rise;have gd:∀k (hk:k<t.place.size) d,t.place.getD k d=t.place.toList[k]'(by simpa using hk):=λk hk d=>by simp[EA,hk]
 have sl:∀h0:i≠0,slotAt w t i=t.place.toList[i-1]'(by simp;lia)+1:=λh0=>by
  unfold slotAt;rw[hx,if_neg (by decide),if_neg h0,gd (i-1) (by lia)]
 rcases NL (below t.place (slotAt w t i)) i with c | c | c
 ·have z:=b2 _ (AF _) (by lia)
  rw[gd _ (by lia)] at z;have slz:=sl (by lia);by_cases d:below t.place (slotAt w t i)=i-1
  ·have:t.place.toList[below t.place (slotAt w t i)]'(by simp;lia)=t.place.toList[i-1]'(by simp;lia):=by congr 1
   lia
  ·have:=r (below t.place (slotAt w t i)) (i-1) (by simp;lia) (by simp;lia) (by lia)
   lia
 ·exact c
 ·have z:=b1 i c
  rw[gd i (by lia)] at z;by_cases h0:i=0
  ·have:slotAt w t i=0:=by unfold slotAt;rw[hx,if_neg (by decide),if_pos h0]
   lia
  ·have slz:=sl h0
   have:=r (i-1) i (by simp;lia) (by simp;lia) (by lia);lia
theorem ABT(ho:s.heap.get? S=some o)(hd:o.data=.set es ep t)(T:Tab t)(hl:es.size=t.place.size)(hp:t.plain=true)(hled:t.led=ledOf w){i:Nat}{Q:Option (Ap×Nat)->AA->Prop}
  (q:Q (((ord w S ep es)[i]?).map λe=>(e.2,slotAt w t (i+1))) s) (hi:i<=es.size):wpAny (AL prog w) A (setNext S (slotAt w t i) i ep) Q E s:=by
 have hf:=Gj T hl;unfold setNext;refine As (FD ho hd hf ?_);dsimp only;unfold UF;refine As (As (Ki (wpAny_pure ?_)));cases hx:text w with
 | true =>
  have hx':(AL prog w).w.params.followText "set-order" = true:=hx;simp only[hx',if_true,bne_self_eq_false,AV,if_false];unfold setWalk UF;refine As (As (FD ho hd hf ?_));dsimp only;refine As (As (Ki (wpAny_pure ?_)));simp only[hx',if_true];refine As (Ki (wpAny_pure ?_));refine wpAny_pure ?_;have e1:ord w S ep es=Sm (w.params.setOrder S ep) es:=by unfold ord;rw[hx];rfl
  have e2:∀i,slotAt w t i=0:=λi=>by unfold slotAt;rw[hx];rfl
  rw[e1,e2] at q;rw[e2];exact q
 | false =>
  have hx':(AL prog w).w.params.followText "set-order" = false:=hx;have hledT:t.led=true:=by rw[hled];unfold ledOf;rw[show w.params.followText "set-order" = false from hx];rfl
  have e1:ord w S ep es=es:=by unfold ord;rw[hx];rfl
  rw[e1] at q;simp only[hx',AV,if_false];refine KL (λhab=>?_) (λ_=>?_)
  ·have hab':(!t.plain&&decide (es.size>1))=true:=hab
   rw[hp] at hab';cases hab'
  refine As ?_;show wpAny _ _ (if (!t.led && !es.isEmpty)=true then unsupported "set:maker-not-led" else pure ()) _ _ _;rw[hledT];simp only[D7,UQ,AV,if_false];refine wpAny_pure (wpAny_pure ?_);rw[Uj hx T (by rw[<- hl];exact hi)];by_cases c:i<es.size
  ·have c2:i<t.place.size:=by rw[<- hl];exact c
   rw[Bn c] at q ⊢;rw[Bn c2];have e3:slotAt w t (i+1)=t.place[i]+1:=by
    unfold slotAt;rw[hx,if_neg (by decide),if_neg (by lia)];simp[EA,c2]
   rw[e3] at q;exact q
  ·rw[IU (by lia)] at q ⊢
   exact q
def SSt(w:AT)(I S:Addr)(o:Obj)(es:Array (Int×Ap))(t:C6)(ep i:Nat)(h:Heap):Prop:=h.get? S=some o/\SI h I S (slotAt w t i) i es.size ep
theorem WR(hh:A.handled=none){I:Addr}(hne:S≠I)(hd:o.data=.set es ep t)(T:Tab t)(hl:es.size=t.place.size)(hp:t.plain=true)(hled:t.led=ledOf w){i:Nat}(st:SSt w I S o es t ep i s.heap)(hi:i<=es.size){Q:Option Ap->AA->Prop}
  (q1:∀e h',(ord w S ep es)[i]?=some e->SSt w I S o es t ep (i+1) h'->ET I s.heap h'->Q (some e.2) {s with heap:=h'})
  (q2:(ord w S ep es)[i]?=none->∀h',SY I s.heap h'->Q none {s with heap:=h'}):wpAny (AL prog w) A (LD (.ref I)) Q E s:=by
 obtain ⟨ho,x⟩:=st;obtain ⟨oi,hoi,hci,hdi⟩:=id x;unfold LD;refine As (NA (wpAny_callSpecial?_slot (name:=HV "__next__") x.typeIs F.Ds (DE F.Ds x.typeIs F.Mp ?_ (F.Ph _))));unfold Builtin.«set_iterator.__next__»;refine As (LG (a:=(AS I,[])) rfl ?_)
 try dsimp only
 refine As (PM hoi hdi ?_);show wpAny _ _ (setEntries S >>= _) _ _ s;refine As (Q7 ho hd (Gj T hl) ?_);simp only[bne_self_eq_false,AV,if_false];show wpAny _ _ (setNext S (((slotAt w t i:Nat):Int)).toNat (((i:Nat):Int)).toNat (((ep:Nat):Int)).toNat >>= _) _ _ s;rw[C9,C9,C9];refine As (ABT ho hd T hl hp hled ?_ hi);cases e:(ord w S ep es)[i]? with
 | some v =>
  show wpAny _ _ (QP (.ref I) 0 (FY ((slotAt w t (i+1):Nat):Int)) >>= λ_=>QP (.ref I) 1 (FY ((i:Int)+1)) >>= λ_=>ret v.2) _ _ s;refine As (HR hoi hdi (by simp) ?_);have g1:=EX (NB (λfs=>fs.setIfInBounds 0 (FY ((slotAt w t (i+1):Nat):Int)))) hoi (JS (E7 hdi _));have d1:=E7 hdi (λfs=>fs.setIfInBounds 0 (FY ((slotAt w t (i+1):Nat):Int)));refine As (HR g1 d1 (by simp) ?_);have g2:=EX (NB (λfs=>fs.setIfInBounds 1 (FY ((i:Int)+1)))) g1 (JS (E7 d1 _));have d2:=E7 d1 (λfs=>fs.setIfInBounds 1 (FY ((i:Int)+1)));refine wpAny_pure ⟨_,rfl,wpAny_pure (q1 v _ e ⟨?_,_,g2,?_,?_⟩ ((DZ ..).trans (DZ ..)))⟩
  ·exact (FL _ _ (DM hne)).trans ((FL _ _ (DM hne)).trans ho)
  ·exact (Lc ..).trans ((Lc ..).trans hci)
  ·rw[d2]
   simp
 | none =>
  show wpAny _ _ (QP (.ref I) 2 C1 >>= λ_=>RU (EQ "StopIteration") [] >>= λx=>Tk x) _ _ s;refine As (HR hoi hdi (by simp) ?_);refine As ?_;simp only[RU,W0];refine As (CH ?_ (by size_fits));refine As (m:=JU _ _) (LG (a:=C1) (by first | rfl | (simp only[JU];rfl)) ?_);refine CH ?_ (by size_fits);simp only[Tk];refine As (Q1 ?_);rw[show A.in1.handled=none from hh];refine As (wpAny_pure (SZ ?_));refine As (Ic (T:="StopIteration") (b:=true) ⟨_,AN _ rfl,rfl⟩ UY ?_);exact wpAny_pure (q2 e _ (((DZ ..).extBut.push _).push _))
theorem Lx(w:AT)(S:Addr)(ep:Nat)(es:Array (Int×Ap)):(ord w S ep es).size=es.size:=by
 rw[<- AU,(Ri w S ep es).length_eq,AU]
theorem Xn(hh:A.handled=none){I:Addr}(hne:S≠I)(hd:o.data=.set es ep t)(T:Tab t)(hl:es.size=t.place.size)(hp:t.plain=true)(hled:t.led=ledOf w) :
  Walks prog w A I [I,S] [I] es.size (λi v=>∃e,(ord w S ep es)[i]?=some e/\v=e.2) (λi h=>i<=es.size/\SSt w I S o es t ep i h) where
 sub:=λb hb=>by simp at hb;simp[hb]
 frame:=λi h h' ⟨hi,h1,oi,h2,r⟩ hk=>⟨hi,hk S (by simp) o h1,oi,hk I (by simp) oi h2,r⟩
 item:=λi s Q E hi ⟨hi',st⟩ hQ=>by
  refine WR hh hne hd T hl hp hled st hi' (λe h' ge st' sb=>hQ _ h' s.toks ⟨e,ge,rfl⟩ ⟨hi,st'⟩ λb ob hb eo=>?_) (λz=>?_)
  ·rw[sb.2 b (λ(q:b=I)=>hb (by simp[q]))]
   exact eo
  ·have:=Lx w S ep es
   rw[Array.getElem?_eq_none_iff] at z;lia
 done:=λs Q E ⟨_,st⟩ hQ=>by
  refine WR hh hne hd T hl hp hled st (AF _) (λe h' ge st' sb=>?_) (λz h' eb=>hQ h' s.toks λb ob hb eo=>eb b ob (λq=>hb (by simp[q])) eo);have:=(Da.mp ge).1;rw[Lx] at this;lia
 self:=λi s Q E ⟨_,_,x⟩ hQ=>by
  refine NJ x.typeIs F.IW (DE F.IW x.typeIs F.MF ?_ (F.QV _));show wpAny _ _ (ret (.ref I)) _ _ s;exact wpAny_pure ⟨_,rfl, "set_iterator",_,x.typeIs,F.Ds.lookup,hQ⟩
theorem Zi(ho:s.heap.get? S=some o)(hex:o.ExactSet)(hd:o.data=.set es ep t)(T:Tab t)(hl:es.size=t.place.size)(hp:t.plain=true){Q:Ap->AA->Prop}
  (q:∀x,(s.heap.push x).get? s.heap.objs.size=some x->SSt w s.heap.objs.size S o es t ep 0 (s.heap.push x)->Q (.ref s.heap.objs.size) {s with heap:=s.heap.push x}):wpAny (AL prog w) A (Po (.ref S)) Q E s:=by
 have hf:=Gj T hl;have tS:s.TypeIs (.ref S) "set":=⟨o,ho,hex.1⟩;refine NJ tS P3 (DE P3 tS F.Lh ?_ (PySem.F.args_set_iter_1 _));unfold Builtin.«frozenset.__iter__»;refine As (LG (a:=S) rfl ?_);refine As (m:=W8 S) (As (Q7 ho hd hf (wpAny_pure ?_)));refine As (m:=setDrawn S) ?_;unfold setDrawn UF;refine As (FD ho hd hf ?_);dsimp only;refine As (As (Ki (wpAny_pure ?_)));refine wpAny_pure ?_;refine KL (λhab=>?_) (λ_=>?_)
 ·have hab':(!w.params.followText "set-order" && (!t.plain&&decide (es.size>1)))=true:=hab
  rw[hp] at hab';simp at hab'
 refine As (wpAny_pure ?_);refine As (wpAny_setEpoch_of ho hd hf ?_);unfold newFields;refine As (CH ?_);have z:slotAt w t 0=0:=by
  unfold slotAt;split
  ·rfl
  ·rfl
 refine wpAny_pure ⟨_,rfl, "set_iterator",_,⟨_,AN _ rfl,rfl⟩,F.Ds.lookup,q _ (AN _ rfl) ⟨AD _ ho,_,AN _ rfl,rfl,?_⟩⟩;rw[z];rfl
theorem ABN(ho:s.heap.get? S=some o)(hex:o.ExactSet){Q:Bool->AA->Prop}(h:Q false s):wpAny (AL prog w) A (M9 (.ref S)) Q E s:=by
 have tS:s.TypeIs (.ref S) "set":=⟨o,ho,hex.1⟩;unfold M9;refine As (Ha tS PySem.F.slot_set_len.lookup ?_);generalize hid:("set.__len__" : String)=id0
 wp_delta
 rw[show splitId id0=some ("set","__len__") from by subst hid;decide +kernel];subst hid;refine As (Ic (T:="set") (b:=true) tS (by rw[P0];kernel_rfl) ?_);refine KL (λhab=>absurd hab (by decide)) (λ_=>?_);refine KL (λ_=>?_) (λhab=>absurd (by decide +kernel) hab);refine As (KU tS ?_);exact wpAny_pure h
theorem Us{R:RH->AA->Prop}(hh:A.handled=none)(ho:s.heap.get? S=some o)(hex:o.ExactSet)(hd:o.data=.set es ep t)(T:Tab t)(hl:es.size=t.place.size)(hp:t.plain=true)(hled:t.led=ledOf w)(h61:es.size<=301)
  (D:Addr) (res:Ap) (c₀:Nat) (hD:s.heap.get? D=some {cls:=.type "list",data:=.seq #[] c₀})
  (hR:∀h' tk acc' c',(∀b ob,b≠D->s.heap.get? b=some ob->h'.get? b=some ob)->h'.get? D=some {cls:=.type "list",dict:=none,data:=.seq acc' c',slots:=#[]} ->
   ItemsOf (λi v=>∃e,(ord w S ep es)[i]?=some e/\v=e.2) acc' es.size->R (.ok (.ret res)) {s with heap:=h',toks:=tk}) :
  wpAny (AL prog w) A.in1 (EO (.ref D) (.ref S) res)
   (λfin s'=>match fin with | .done f=>R (.ok f) s' | .again c'=>c'.quiet=true/\codeAny (AL prog w) A c' R s') (λe s'=>R (.error e) s') s:=by
 have tS:s.TypeIs (.ref S) "set":=⟨o,ho,hex.1⟩;have nDS:D≠S:=λe=>by
  rw[e,ho] at hD;cases hD;cases hd
 have nSI:S≠s.heap.objs.size:=BU (AY ho);have nDI:D≠s.heap.objs.size:=BU (AY hD);have nDf:D∉[s.heap.objs.size,S]:=λhm=>by
  rcases AX.mp hm with e | hm
  ·exact nDI e
  ·exact nDS (Cn.mp hm)
 have W:=(Xn (prog:=prog) (A:=A.in1) (o:=o) hh nSI hd T hl hp hled).toS;unfold EO;refine As (KU (T:="set") tS ?_);have c1:OF (.ref D) (.ref S)=false:=by simp[OF,nDS]
 have c2:(EQ "set" == EQ "list")=false:=by decide
 have c3:(EQ "set" == EQ "tuple")=false:=by decide
 simp only[c1,c2,c3,VS,AV,if_false];refine As (Zi ho hex hd T hl hp λx gx st=>?_);refine As (EU (ABN (s:={s with heap:=s.heap.push x}) (AD _ ho) hex ?_));refine KL (λ_=>?_) (λhab=>absurd (by decide +kernel) hab);have hD1:(s.heap.push x).get? D=some {cls:=.type "list",data:=.seq #[] c₀}:=AD _ hD;refine As (HL ?_);refine As ?_;show wpAny _ _ (updateSeq D (·.push .none) >>= λ_=>updateSeq D (·.pop)) _ _ _;refine As (UH hD1 rfl ?_);have hD2:=EX (EH (·.push C1)) hD1 rfl;refine UH (hz:=by seq_fits) hD2 rfl ?_;have hD3:=EX (EH (·.pop)) hD2 rfl;have keep:∀b ob,b≠D->(s.heap.push x).get? b=some ob->(((s.heap.push x).update D (EH (·.push C1))).update D (EH (·.pop))).get? b=some ob:=λb ob hb e=>(FL _ _ (DM hb)).trans ((FL _ _ (DM hb)).trans e);obtain ⟨st1,oi,st2,st3⟩:=st;refine wpAny_pure ⟨LJ F.plain_extend_loop _,?_⟩;refine codeAny_extend_loopS W (by rw[FX];lia) D nDf res es.size 0 _ _ _ rfl (Bi _) ⟨Bi _,keep S o nDS.symm st1,oi,keep _ oi (DM nDI) st2,st3⟩ hD3 (ItemsOf.nil _) λs' acc' c' hm hS' hacc=>?_;rw[Moved.eq_with hm];refine hR s'.heap s'.toks acc' c' (λb ob hb e=>hm.heap b ob (λhmem=>?_) (keep b ob hb (AD _ e))) hS' hacc;rcases AX.mp hmem with e' | hmem
 ·exact hb e'
 ·exact absurd (AY e) (by rw[Cn.mp hmem];exact D6 _)
end
end SB
end
section
namespace SB
open PySem PySem.W PyProof.Rows
def kw{α:Type}(lt:Nat->Nat->Bool)(n:Nat):KasT α->(α->Prop)->Prop
 | .ret a,Q=>Q a
 | .ask i j k,Q=>i<n/\j<n/\kw lt n (k (lt i j)) Q
abbrev g(p:Array Nat)(k:Nat):Nat:=p.getD k 0
structure PP(n:Nat)(p:Array Nat):Prop where
 size:p.size=n
 lt:∀k,k<n->g p k<n
 inj:∀k k',k<n->k'<n->g p k=g p k'->k=k'
structure Tot(n:Nat)(lt:Nat->Nat->Bool):Prop where
 or:∀i j,i<n->j<n->i≠j->lt i j=false->lt j i=true
 as:∀i j,i<n->j<n->lt i j=true->lt j i=false
 tr:∀i j k,i<n->j<n->k<n->lt i j=true->lt j k=true->lt i k=true
def Up(lt:Nat->Nat->Bool)(p:Array Nat)(m:Nat):Prop:=∀a b,a<b->b<m->lt (g p a) (g p b)=true
section
variable{n:Nat}{lt:Nat->Nat->Bool}{p:Array Nat}
theorem AAX(n:Nat):PP n (K3 (AZ n)):=by
 have ge:∀k,k<n->g (K3 (AZ n)) k=k:=λk hk=>by
  unfold g;rw[G5];simp[hk]
 refine ⟨by simp,λk hk=>by rw[ge k hk];exact hk,λk k' hk hk' e=>?_⟩;rw[ge k hk,ge k' hk'] at e;exact e
end
end SB
end
section
namespace TM
open PySem PyProof.Rows
def JM:Nat->Nat->StateT Bz Sem (Option Nat):=sortPriv% PySem.Builtin.countRun
theorem Qg(lo nrem:Nat):JM lo nrem=(do
 let mut n:=1
 for _ in [1:nrem] do
  let some smaller <- OX (lo+n) (lo+n-1) | return none
  if smaller then break
  n:=n+1
 if n==nrem then return some n
 if n>1 then
  let some rose <- OX lo (lo+n-1) | return none
  if rose then return some n
  NE lo (lo+n)
 rule "list.sort.descending-run"
 n:=n+1
 let mut neq:=0
 for _ in [n:nrem] do
  let some smaller <- OX (lo+n) (lo+n-1) | return none
  if smaller then
   if neq>0 then NE (lo+n-(neq+1)) (lo+n)
   neq:=0
  else
   let some larger <- OX (lo+n-1) (lo+n) | return none
   if larger then break
   neq:=neq+1
  n:=n+1
 if neq>0 then NE (lo+n-(neq+1)) (lo+n)
 NE lo (lo+n)
 for _ in [n:nrem] do
  let some smaller <- OX (lo+n) (lo+n-1) | return none
  if smaller then break
  n:=n+1
 return some n):=rfl
def N(rk:AE->Int)(xs:Array AE)(i:Nat):Int:=match xs[i]? with
 | some p=>rk p
 | none=>0
variable{rk:AE->Int}
theorem Ef{xs ys:Array AE}{i j:Nat}(h:xs[i]?=ys[j]?):N rk xs i=N rk ys j:=by unfold N;rw[h]
def Al(G:AE->Prop)(xs:Array AE):Prop:=∀(i:Nat) (x:AE),xs[i]?=some x->G x
theorem Al.perm{G:AE->Prop}{xs ys:Array AE}(h:Al G xs)(p:ys.Perm xs):Al G ys:=λi x e=>by
 have m:x∈ys.toList:=by
  obtain ⟨hl,rfl⟩:=Da.mp e;exact OG hl
 have m2:=(Hk.mp p).mem_iff.mp m;obtain ⟨k,hk,e⟩:=CL.mp m2;exact h k x (by rw[<- B7,AK hk,e])
def Di(rk:AE->Int)(xs:Array AE):Prop:=(xs.toList.map rk).Nodup
theorem Di.perm{xs ys:Array AE}(h:Di rk xs)(p:ys.Perm xs):Di rk ys:=((Hk.mp p).map rk).nodup_iff.mpr h
theorem Di.ne{xs:Array AE}(h:Di rk xs){i j:Nat}(ij:i<j)(jl:j<xs.size):N rk xs i≠N rk xs j:=by
 have il:i<xs.size:=by lia
 have:=CO.mp h i j (by simpa using il) (by simpa using jl) ij;unfold N;rw[Bn il,Bn jl];simpa using this
def Up(rk:AE->Int)(xs:Array AE)(lo hi:Nat):Prop:=∀i j,lo<=i->i<=j->j<hi->N rk xs i<=N rk xs j
def Down(rk:AE->Int)(xs:Array AE)(lo hi:Nat):Prop:=∀i j,lo<=i->i<=j->j<hi->N rk xs j<=N rk xs i
structure Ba(G:AE->Prop)(rk:AE->Int)(κ:FE)(a₀:Array AE)(st:Bz):Prop where
 perm:(AQ st).Perm a₀
 kind:kindOf st=κ
 failed:FO st=none
 all:Al G a₀
 di:Di rk a₀
structure Nx(lo:Nat)(st st':Bz):Prop where
 perm:(AQ st').Perm (AQ st)
 kind:kindOf st'=kindOf st
 failed:FO st'=FO st
 pend:BG st'=BG st
 low:∀i,i<lo->(AQ st')[i]?=(AQ st)[i]?
theorem Nx.refl(lo:Nat)(st:Bz):Nx lo st st:=⟨UI _,rfl,rfl,rfl,λ_ _=>rfl⟩
theorem Nx.trans{lo:Nat}{a b c:Bz}(h:Nx lo a b)(k:Nx lo b c):Nx lo a c:=⟨k.perm.trans h.perm,k.kind.trans h.kind,k.failed.trans h.failed,k.pend.trans h.pend,λi hi=>(k.low i hi).trans (h.low i hi)⟩
theorem Ba.nx{G:AE->Prop}{κ:FE}{a₀:Array AE}{st st':Bz}{lo:Nat}(h:Ba G rk κ a₀ st)(n:Nx lo st st'):Ba G rk κ a₀ st':=⟨n.perm.trans h.perm,n.kind.trans h.kind,n.failed.trans h.failed,h.all,h.di⟩
theorem Ba.size{G:AE->Prop}{κ:FE}{a₀:Array AE}{st:Bz}(h:Ba G rk κ a₀ st):(AQ st).size=a₀.size:=h.perm.size_eq
theorem Ba.ne{G:AE->Prop}{κ:FE}{a₀:Array AE}{st:Bz}(h:Ba G rk κ a₀ st){i j:Nat}(ij:i<j)(jl:j<a₀.size):N rk (AQ st) i≠N rk (AQ st) j:=(h.di.perm h.perm).ne ij (by rw[h.size];exact jl)
section
variable{prog:AM}{w:AT}{A:BQ}{E:Ap->AA->Prop}{s:AA}{G:AE->Prop}{κ:FE}{a₀:Array AE}
def Cmp(prog:AM)(w:AT)(A:BQ)(E:Ap->AA->Prop)(s:AA)(κ:FE)(G:AE->Prop)(rk:AE->Int):Prop :=
 ∀x y,G x->G y->∀(st:Bz) (Q:Option Bool->Bz->Prop),kindOf st=κ->Q (some (decide (rk x<rk y))) st->wpS (AL prog w) A E s (lt' x y) Q st
theorem Bg{xs:Array AE}{i:Nat}{st:Bz}{Q:AE->Bz->Prop}(hi:i<xs.size)(h:Q xs[i] st):wpS (AL prog w) A E s (DD xs i) Q st:=by
 rw[elem'_eq,Bn hi];exact AW h
theorem Fl{xs:Array AE}{i:Nat}(hi:i<xs.size):N rk xs i=rk xs[i]:=by unfold N;rw[Bn hi]
theorem Al.at{xs:Array AE}(h:Al G xs){i:Nat}(hi:i<xs.size):G xs[i]:=h i _ (Bn hi)
theorem SX(C:Cmp prog w A E s κ G rk){st:Bz}(B:Ba G rk κ a₀ st){i j:Nat}{Q:Option Bool->Bz->Prop}(hi:i<a₀.size)(hj:j<a₀.size)(h:Q (some (decide (N rk (AQ st) i<N rk (AQ st) j))) st):wpS (AL prog w) A E s (OX i j) Q st:=by
 have hi':i<(AQ st).size:=by rw[B.size];exact hi
 have hj':j<(AQ st).size:=by rw[B.size];exact hj
 have al:=B.all.perm B.perm;rw[ltAt'_eq];refine AR (J4 ?_);show wpS _ _ _ _ (do let x <- DD (AQ st) i;let y <- DD (AQ st) j;lt' x y) Q st;refine AR (Bg hi' (AR (Bg hj' ?_)));refine C _ _ (al.at hi') (al.at hj') st Q B.kind ?_;rw[<- Fl (rk:=rk) hi',<- Fl (rk:=rk) hj'];exact h
theorem TF{xs:Array AE}{i j:Nat}(hj:j<=xs.size)(k:Nat):N rk (Sn xs i j ((j-i) / 2)) k=if i<=k/\k<j then N rk xs (i+j-1-k) else N rk xs k:=by
 have e:=getElem?_mirror_all (i:=i) hj k;by_cases h1:i<=k/\k<j
 ·rw[if_pos h1] at e ⊢;exact Ef e
 ·rw[if_neg h1] at e ⊢;exact Ef e
theorem Ti{xs:Array AE}{src d:Nat}(hs:src<xs.size)(hd:d<=src)(k:Nat):N rk (UK xs src d) k=if k=src-d then N rk xs src else if src-d<k/\k<=src then N rk xs (k-1) else N rk xs k:=by
 have e:=getElem?_bubble hs d hd k;by_cases h1:k=src-d
 ·rw[if_pos h1] at e ⊢;exact Ef e
 ·rw[if_neg h1] at e ⊢
  by_cases h2:src-d<k/\k<=src
  ·rw[if_pos h2] at e ⊢;exact Ef e
  ·rw[if_neg h2] at e ⊢;exact Ef e
theorem ADT{st:Bz}{lo hi:Nat}(hh:hi<=(AQ st).size):Nx lo st (So st (Sn (AQ st) lo hi ((hi-lo) / 2))):=⟨mirror_perm _ _ _ _,rfl,rfl,rfl,λi hi'=>by
 show (Sn (AQ st) lo hi ((hi-lo) / 2))[i]?=_;rw[getElem?_mirror_all hh,if_neg (by lia)]⟩
theorem Zc(C:Cmp prog w A E s κ G rk){lo n nrem:Nat}{st:Bz}(B:Ba G rk κ a₀ st)(h1:1<=n)(hn:n<nrem)(hs:lo+nrem<=a₀.size)(up:Up rk (AQ st) lo (lo+n)){Q:Option Bool->Bz->Prop}
  (hy:N rk (AQ st) (lo+n)<N rk (AQ st) (lo+n-1)->Q (some true) st) (hno:Up rk (AQ st) lo (lo+(n+1))->Q (some false) st):wpS (AL prog w) A E s (OX (lo+n) (lo+n-1)) Q st:=by
 refine SX C B (by lia) (by lia) ?_;by_cases c:N rk (AQ st) (lo+n)<N rk (AQ st) (lo+n-1)
 ·rw[decide_eq_true c]
  exact hy c
 ·rw[decide_eq_false c]
  refine hno λi j li ij jh=>?_;by_cases d:j<lo+n
  ·exact up i j li ij d
  ·by_cases e:i=j
   ·rw[e];exact IT _
   ·have:=up i (lo+n-1) li (by lia) (by lia)
    have ej:j=lo+n:=by lia
    rw[ej];lia
theorem WQ(C:Cmp prog w A E s κ G rk){lo n0 nrem:Nat}{st:Bz}(B:Ba G rk κ a₀ st)(h1:1<=n0)(hn:n0<=nrem)(hs:lo+nrem<=a₀.size)(up:Up rk (AQ st) lo (lo+n0)){Q:(Option (Option Nat)×Nat)->Bz->Prop}
  (h:∀n,n0<=n->n<=nrem->Up rk (AQ st) lo (lo+n)->(n<nrem->N rk (AQ st) (lo+n)<N rk (AQ st) (lo+n-1))->Q (none,n) st) :
  wpS (AL prog w) A E s (forIn [n0:nrem] ((none,n0):Option (Option Nat)×Nat) λ_ r=>do
   let x <- OX (lo+r.snd) (lo+r.snd-1)
   match x with
   | some smaller=>if smaller=true then pure (BO (none,r.snd)) else pure (C3 (none,r.snd+1))
   | _=>pure (BO (some none,r.snd))) Q st:=by
 refine DL (I:=λx c st'=>st'=st/\c=(none,x)/\n0<=x/\x<=nrem/\Up rk (AQ st) lo (lo+x)) ?_ ?_ ⟨rfl,rfl,AF _,hn,up⟩
 ·rintro x c st' ax xb ⟨rfl,rfl,_,_,up'⟩
  refine AR (Zc C B (by lia) xb hs up' (λlt=>?_) (λup2=>?_))
  ·exact AW (h x ax (by lia) up' λ_=>lt)
  ·exact AW ⟨rfl,rfl,by lia,by lia,up2⟩
 ·rintro c st' ⟨rfl,rfl,a1,a2,up'⟩
  refine h _ a1 a2 up' λz=>?_;lia
end
variable{rk:AE->Int}{prog:AM}{w:AT}{A:BQ}{E:Ap->AA->Prop}{s:AA}{G:AE->Prop}{κ:FE}{a₀:Array AE}
theorem Mj(C:Cmp prog w A E s κ G rk){lo nrem:Nat}{st:Bz}(B:Ba G rk κ a₀ st)(h1:1<=nrem)(hs:lo+nrem<=a₀.size){Q:Option Nat->Bz->Prop}
  (h:∀n st',1<=n->n<=nrem->Nx lo st st'->Up rk (AQ st') lo (lo+n)->Q (some n) st'):wpS (AL prog w) A E s (JM lo nrem) Q st:=by
 rw[Qg];refine AR (WQ C B (AF 1) h1 hs (λi j li ij jh=>by
  have:i=j:=by lia
  rw[this];exact IT _) λn n1 nn up lt=>?_)
 dsimp only;by_cases c:n=nrem
 ·rw[if_pos (by rw[c];exact beq_self_eq_true _)]
  exact AW (h n st n1 nn (Nx.refl _ _) up)
 rw[if_neg (by intro z;exact c (beq_iff_eq.mp z))];have sm:=lt (by lia);by_cases d:n>1
 ·rw[if_pos d]
  refine AR (SX C B (by lia) (by lia) ?_);have a1:=up lo (lo+n-1) (AF _) (by lia) (by lia);have a2:=B.ne (i:=lo) (j:=lo+n-1) (by lia) (by lia);rw[decide_eq_true (show N rk (AQ st) lo<N rk (AQ st) (lo+n-1) by lia)];exact AW (h n st n1 nn (Nx.refl _ _) up)
 rw[if_neg d];have e1:n=1:=by lia
 subst e1;have wn:lo+1-1=lo:=by lia
 rw[wn] at sm;refine AR (MV (HL ⟨rfl,?_⟩));refine AR (EC (DL (I:=λx c st'=>st'=st/\c=(none,x,0)/\2<=x/\x<=nrem/\Down rk (AQ st) lo (lo+x)) (Q:=λc st'=>st'=st/\∃m,c=(none,m,0)/\2<=m/\m<=nrem/\Down rk (AQ st) lo (lo+m)) ?_ ?_ ⟨rfl,rfl,AF _,by lia,?_⟩) ?_)
 ·rintro x c st' ax xb ⟨rfl,rfl,x2,_,dn⟩
  dsimp only;refine AR (SX C B (by lia) (by lia) ?_);by_cases c1:N rk (AQ st') (lo+x)<N rk (AQ st') (lo+x-1)
  ·rw[decide_eq_true c1]
   dsimp only;rw[if_pos rfl,if_neg (by lia)];refine AW ⟨rfl,rfl,by lia,by lia,λi j li ij jh=>?_⟩;by_cases d1:j<lo+x
   ·exact dn i j li ij d1
   ·have ej:j=lo+x:=by lia
    subst ej;by_cases e:i=lo+x
    ·rw[e];exact IT _
    ·have:=dn i (lo+x-1) li (by lia) (by lia)
     lia
  ·rw[decide_eq_false c1]
   dsimp only;rw[if_neg (by decide)];refine AR (SX C B (by lia) (by lia) ?_);have a2:=B.ne (i:=lo+x-1) (j:=lo+x) (by lia) (by lia);rw[decide_eq_true (show N rk (AQ st') (lo+x-1)<N rk (AQ st') (lo+x) by lia)];dsimp only;rw[if_pos rfl];exact AW ⟨rfl,x,rfl,x2,by lia,dn⟩
 ·rintro c st' ⟨rfl,rfl,a1,a2,dn⟩
  exact ⟨rfl,_,rfl,a1,a2,dn⟩
 ·intro i j li ij jh
  by_cases e:i=j
  ·rw[e];exact IT _
  ·rw[show i=lo by lia,show j=lo+1 by lia]
   lia
 ·rintro c st' ⟨rfl,m,rfl,m2,mn,dn⟩
  dsimp only;rw[if_neg (by lia),reverseSlice'_eq];have sz:lo+m<=(AQ st').size:=by rw[B.size];lia
  have nx:=ADT (st:=st') (lo:=lo) sz;refine AR (HP ?_);have up2:Up rk (AQ (So st' (Sn (AQ st') lo (lo+m) ((lo+m-lo) / 2)))) lo (lo+m):=λi j li ij jh=>by
   show N rk (Sn (AQ st') lo (lo+m) ((lo+m-lo) / 2)) i<=N rk (Sn (AQ st') lo (lo+m) ((lo+m-lo) / 2)) j;rw[TF sz,TF sz,if_pos (by lia),if_pos (by lia)];exact dn _ _ (by lia) (by lia) (by lia)
  refine AR (WQ C (B.nx nx) (by lia) mn hs up2 λn' n1' nn' up' _=>?_);exact AW (h n' _ (by lia) nn' nx up')
def Lb:Nat->Nat->Nat->StateT Bz Sem Bool:=sortPriv% PySem.Builtin.binarySort
theorem Ra(lo n ok:Nat):Lb lo n ok=(do
 for k in [max ok 1:n] do
  let mut l:=0
  let mut r:=k
  for _ in [0:k] do
   if l >= r then break
   let m:=(l+r) / 2
   let some less <- OX (lo+k) (lo+m) | return false
   if less then r:=m else l:=m+1
  moveDown' (lo+k) (lo+l)
 return true):=rfl
theorem QM(C:Cmp prog w A E s κ G rk){lo n ok:Nat}{st:Bz}(B:Ba G rk κ a₀ st)(hn:lo+n<=a₀.size)(hok:ok<=n)(up:Up rk (AQ st) lo (lo+ok)){Q:Bool->Bz->Prop}
  (h:∀st',Nx lo st st'->Up rk (AQ st') lo (lo+n)->Q true st'):wpS (AL prog w) A E s (Lb lo n ok) Q st:=by
 rw[Ra];refine AR (EC (DL (I:=λk c st'=>c=(none,())/\Nx lo st st'/\Up rk (AQ st') lo (lo+min k n))
  (Q:=λc st'=>c=(none,())/\Nx lo st st'/\Up rk (AQ st') lo (lo+n)) ?step ?fin ?init) ?post)
 case post =>
  rintro c st' ⟨rfl,nx,up'⟩;exact AW (h st' nx up')
 case init =>
  refine ⟨rfl,Nx.refl _ _,λi j li ij jh=>?_⟩;by_cases e:i=j
  ·rw[e];exact IT _
  ·exact up i j li ij (by lia)
 case fin =>
  rintro c st' ⟨hc,nx,up'⟩;refine ⟨hc,nx,?_⟩
  rwa [show min (max (max ok 1) n) n=n by lia] at up'
 case step =>
  rintro k c st' hak hkn ⟨rfl,nx,up'⟩;rw[show min k n=k by lia] at up';have B':=B.nx nx;have hk:lo+k<a₀.size:=by lia
  refine AR (EC (DL (I:=λx c st''=>st''=st'/\∃l r,c=(none,l,r)/\l<=r/\r<=k/\r-l<=k-x /\
    (∀i,lo<=i->i<lo+l->N rk (AQ st') i<=N rk (AQ st') (lo+k))/\(∀i,lo+r<=i->i<lo+k->N rk (AQ st') (lo+k)<N rk (AQ st') i))
   (Q:=λc st''=>st''=st'/\∃l r,c=(none,l,r)/\l<=k /\
    (∀i,lo<=i->i<lo+l->N rk (AQ st') i<=N rk (AQ st') (lo+k))/\(∀i,lo+l<=i->i<lo+k->N rk (AQ st') (lo+k)<N rk (AQ st') i)) ?istep ?ifin ?iinit) ?ipost)
  case iinit=>exact ⟨rfl,0,k,rfl,by lia,by lia,by lia,λi hi=>by lia,λi h1 h2=>by lia⟩
  case ifin =>
   rintro c st'' ⟨rfl,l,r,rfl,hlr,hrk,hm,hlo,hhi⟩;have:l=r:=by lia
   subst this;exact ⟨rfl,l,l,rfl,hrk,hlo,hhi⟩
  case istep =>
   rintro x c st'' _ hxk ⟨rfl,l,r,rfl,hlr,hrk,hm,hlo,hhi⟩;dsimp only;by_cases hge:l >= r
   ·rw[if_pos hge]
    have:l=r:=by lia
    subst this;exact AW ⟨rfl,l,l,rfl,hrk,hlo,hhi⟩
   ·rw[if_neg hge]
    refine AR (SX C B' hk (by lia) ?_);by_cases hless:N rk (AQ st'') (lo+k)<N rk (AQ st'') (lo+(l+r) / 2)
    ·simp only[hless,decide_true,if_true]
     refine AW ⟨rfl,l,(l+r) / 2,rfl,by lia,by lia,by lia,hlo,λi h1 h2=>?_⟩;exact Int.lt_of_lt_of_le hless (up' _ _ (by lia) h1 h2)
    ·simp only[hless,decide_false,AV,if_false]
     refine AW ⟨rfl,(l+r) / 2+1,r,rfl,by lia,by lia,by lia,λi h0 h1=>?_,hhi⟩;exact EL (up' i (lo+(l+r) / 2) h0 (by lia) (by lia)) (IP.mp hless)
  case ipost =>
   rintro c st'' ⟨rfl,l,r,rfl,hlk,hlo,hhi⟩;show wpS _ _ _ _ (do moveDown' (lo+k) (lo+l);pure (C3 (none,()))) _ _;rw[moveDown'_eq];have hks:lo+k<(AQ st'').size:=by rw[B'.size];exact hk
   have nx2:Nx lo st'' (So st'' (UK (AQ st'') (lo+k) (lo+k-(lo+l)))):=⟨bubble_perm _ _ _,rfl,rfl,rfl,λi hi=>by
    show (UK (AQ st'') (lo+k) (lo+k-(lo+l)))[i]?=_;rw[getElem?_bubble hks _ (by lia),if_neg (by lia),if_neg (by lia)]⟩
   refine AR (HP (AW ⟨rfl,nx.trans nx2,?_⟩));rw[show min (k+1) n=k+1 by lia];intro i j li hij hj;show N rk (UK (AQ st'') (lo+k) (lo+k-(lo+l))) i<=N rk (UK (AQ st'') (lo+k) (lo+k-(lo+l))) j;rw[Ti hks (by lia),Ti hks (by lia),show lo+k-(lo+k-(lo+l))=lo+l by lia]
   repeat' split
   all_goals first
    | (exfalso;omega)
    | exact IT _
    | exact hlo _ (by omega) (by omega)
    | exact F3 (hhi _ (by lia) (by lia))
    | exact up' _ _ (by lia) (by lia) (by lia)
variable{rk:AE->Int}{prog:AM}{w:AT}{A:BQ}{E:Ap->AA->Prop}{s:AA}{G:AE->Prop}{κ:FE}{a₀:Array AE}
def Cu:Bool->AE->Array AE->Nat->Nat->Nat->StateT Bz Sem (Option Nat):=sortPriv% PySem.Builtin.gallop
def Eh(left:Bool)(key:AE)(arr:Array AE)(base i:Nat):StateT Bz Sem (Option Bool):=do
  let x <- DD arr (base+i)
  if left then lt' x key else return (<- lt' key x).map (!·)
theorem Ut(left:Bool)(key:AE)(arr:Array AE)(base n hint:Nat):Cu left key arr base n hint=(do
 let mut lastofs:=0
 let mut ofs:=1
 let mut lo:=0
 let mut hi:=0
 let some right <- Eh left key arr base hint | return none
 if right then
  let maxofs:=n-hint
  for _ in [0:n] do
   if ofs >= maxofs then break
   let some more <- Eh left key arr base (hint+ofs) | return none
   if !more then break
   lastofs:=ofs
   ofs:=2*ofs+1
  lo:=hint+lastofs+1
  hi:=hint+min ofs maxofs
 else
  let maxofs:=hint+1
  for _ in [0:n] do
   if ofs >= maxofs then break
   let some found <- Eh left key arr base (hint-ofs) | return none
   if found then break
   lastofs:=ofs
   ofs:=2*ofs+1
  lo:=hint+1-min ofs maxofs
  hi:=hint-lastofs
 for _ in [0:n] do
  if lo >= hi then break
  let m:=lo+(hi-lo) / 2
  let some more <- Eh left key arr base m | return none
  if more then lo:=m+1 else hi:=m
 return some hi):=rfl
def bey(rk:AE->Int)(left:Bool)(key:AE)(arr:Array AE)(base i:Nat):Bool:=if left then decide (N rk arr (base+i)<rk key) else !decide (rk key<N rk arr (base+i))
theorem VH(C:Cmp prog w A E s κ G rk){left:Bool}{key:AE}{arr:Array AE}{base i:Nat}{st:Bz}{Q:Option Bool->Bz->Prop}(hk:G key)(al:Al G arr)(kd:kindOf st=κ)(hi:base+i<arr.size)(h:Q (some (bey rk left key arr base i)) st) :
  wpS (AL prog w) A E s (Eh left key arr base i) Q st:=by
 unfold Eh;refine AR (Bg hi ?_);unfold bey at h;rw[Fl hi] at h;cases left with
 | true =>
  rw[if_pos rfl] at h ⊢;exact C _ _ (al.at hi) hk st _ kd h
 | false =>
  rw[if_neg (by decide)] at h ⊢;refine AR (C _ _ hk (al.at hi) st _ kd (AW ?_));exact h
def Mono(p:Nat->Bool)(n:Nat):Prop:=∀i j,i<=j->j<n->p j=true->p i=true
theorem FN{left:Bool}{key:AE}{arr:Array AE}{base n:Nat}(up:Up rk arr base (base+n)):Mono (bey rk left key arr base) n:=λi j ij jn h=>by
 have:=up (base+i) (base+j) (by lia) (by lia) (by lia);unfold bey at h ⊢;cases left with
 | true =>
  rw[if_pos rfl] at h ⊢;have:=of_decide_eq_true h;exact decide_eq_true (by lia)
 | false =>
  rw[if_neg (by decide)] at h ⊢;have h':¬ rk key<N rk arr (base+j):=λz=>by rw[decide_eq_true z] at h;cases h
  rw[decide_eq_false (by lia)];rfl
theorem DR(C:Cmp prog w A E s κ G rk){left:Bool}{key:AE}{arr:Array AE}{base n hint:Nat}{st:Bz}{Q:Option Nat->Bz->Prop}(hk:G key)(al:Al G arr)(kd:kindOf st=κ)(hn:base+n<=arr.size)(hh:hint<n)(mo:Mono (bey rk left key arr base) n)
  (h:∀k,k<=n->(∀i,i<k->bey rk left key arr base i=true)->(∀i,k<=i->i<n->bey rk left key arr base i=false)->Q (some k) st):wpS (AL prog w) A E s (Cu left key arr base n hint) Q st:=by
 rw[Ut];generalize hp:bey rk left key arr base=p at mo h;have ask:∀{i:Nat}{Q:Option Bool->Bz->Prop},i<n->Q (some (p i)) st->wpS (AL prog w) A E s (Eh left key arr base i) Q st:=λ{i Q} hi q=>VH C hk al kd (by lia) (by rw[hp];exact q);have down:∀{k:Nat},(k<n->p k=false)->∀i,k<=i->i<n->p i=false:=λ{k} hk i ki il=>by
  cases e:p i with
  | false=>rfl
  | true =>
   have:=mo k i ki il e;rw[hk (by lia)] at this;cases this
 have fin:∀{lo hi:Nat},lo<=hi->hi<=n->(∀i,i<lo->p i=true)->(∀i,hi<=i->i<n->p i=false) ->
   ∀{Q':(Option (Option Nat)×Nat×Nat)->Bz->Prop},(∀l,l<=n->(∀i,i<l->p i=true)->(∀i,l<=i->i<n->p i=false)->Q' (none,l,l) st) ->
   wpS (AL prog w) A E s (forIn [0:n] ((none,lo,hi):Option (Option Nat)×Nat×Nat) λ_ r =>
     if r.snd.fst >= r.snd.snd then pure (BO (none,r.snd.fst,r.snd.snd))
     else do
      let x <- Eh left key arr base (r.snd.fst+(r.snd.snd-r.snd.fst) / 2)
      match x with
      | some more =>
       if more=true then pure (C3 (none,r.snd.fst+(r.snd.snd-r.snd.fst) / 2+1,r.snd.snd))
       else pure (C3 (none,r.snd.fst,r.snd.fst+(r.snd.snd-r.snd.fst) / 2))
      | _=>pure (BO (some none,r.snd.fst,r.snd.snd))) Q' st:=λ{lo hi} lh hn' ht hf {Q'} h'=>by
  refine EC (DL (I:=λx c st'=>st'=st/\∃l r,c=(none,l,r)/\l<=r/\r<=n/\r-l<=n-x/\(∀i,i<l->p i=true)/\(∀i,r<=i->i<n->p i=false))
   (Q:=λc st'=>st'=st/\∃l,c=(none,l,l)/\l<=n/\(∀i,i<l->p i=true)/\(∀i,l<=i->i<n->p i=false)) ?_ ?_ ⟨rfl,lo,hi,rfl,lh,hn',by lia,ht,hf⟩) ?_
  ·rintro x c st' _ xn ⟨rfl,l,r,rfl,lr,rn,sz,tr,fa⟩
   dsimp only;by_cases c1:l >= r
   ·rw[if_pos c1]
    have:l=r:=by lia
    subst this;exact AW ⟨rfl,l,rfl,rn,tr,fa⟩
   ·rw[if_neg c1]
    refine AR (ask (by lia) ?_);cases e:p (l+(r-l) / 2) with
    | true =>
     dsimp only;rw[if_pos rfl];exact AW ⟨rfl,_,r,rfl,by lia,rn,by lia,λi hi=>mo i _ (by lia) (by lia) e,fa⟩
    | false =>
     dsimp only;rw[if_neg (by decide)];exact AW ⟨rfl,l,_,rfl,by lia,by lia,by lia,tr,down λ_=>e⟩
  ·rintro c st' ⟨rfl,l,r,rfl,lr,rn,sz,tr,fa⟩
   have:l=r:=by lia
   subst this;exact ⟨rfl,l,rfl,rn,tr,fa⟩
  ·rintro c st' ⟨rfl,l,rfl,ln,tr,fa⟩
   exact h' l ln tr fa
 refine AR (ask hh ?_);cases ph:p hint with
 | true =>
  dsimp only;rw[if_pos rfl];refine AR (EC (DL (I:=λx c st'=>st'=st/\∃l o,c=(none,l,o)/\l<o/\x+1<=o/\hint+l<n/\p (hint+l)=true)
   (Q:=λc st'=>st'=st/\∃l o,c=(none,l,o)/\l<o/\hint+l<n/\p (hint+l)=true/\(o<n-hint->p (hint+o)=false)) ?_ ?_ ⟨rfl,0,1,rfl,by lia,by lia,by lia,ph⟩) ?_)
  ·rintro x c st' _ xn ⟨rfl,l,o,rfl,lo,xo,ln,pl⟩
   dsimp only;by_cases c1:o >= n-hint
   ·rw[if_pos c1]
    exact AW ⟨rfl,l,o,rfl,lo,ln,pl,λz=>absurd z (by lia)⟩
   ·rw[if_neg c1]
    refine AR (ask (by lia) ?_);cases e:p (hint+o) with
    | true =>
     dsimp only;rw[if_neg (by decide)];exact AW ⟨rfl,o,_,rfl,by lia,by lia,by lia,e⟩
    | false =>
     dsimp only;rw[if_pos (by decide)];exact AW ⟨rfl,l,o,rfl,lo,ln,pl,λ_=>e⟩
  ·rintro c st' ⟨rfl,l,o,rfl,lo,xo,ln,pl⟩
   exact ⟨rfl,l,o,rfl,lo,ln,pl,λz=>absurd z (by lia)⟩
  ·rintro c st' ⟨rfl,l,o,rfl,lo,ln,pl,pf⟩
   dsimp only;refine AR (fin (lo:=hint+l+1) (hi:=hint+min o (n-hint)) (by lia) (by lia) (λi hi=>mo i (hint+l) (by lia) ln pl) ?_ λk kn kt kf=>AW (h k kn kt kf));by_cases c1:o<n-hint
   ·rw[show hint+min o (n-hint)=hint+o by lia]
    exact down λ_=>pf c1
   ·rw[show hint+min o (n-hint)=n by lia]
    exact λi a b=>absurd a (by lia)
 | false =>
  dsimp only;rw[if_neg (by decide)];refine AR (EC (DL (I:=λx c st'=>st'=st/\∃l o,c=(none,l,o)/\l<o/\x+1<=o/\l<=hint/\p (hint-l)=false)
   (Q:=λc st'=>st'=st/\∃l o,c=(none,l,o)/\l<o/\l<=hint/\p (hint-l)=false/\(o<hint+1->p (hint-o)=true)) ?_ ?_ ⟨rfl,0,1,rfl,by lia,by lia,by lia,ph⟩) ?_)
  ·rintro x c st' _ xn ⟨rfl,l,o,rfl,lo,xo,ln,pl⟩
   dsimp only;by_cases c1:o >= hint+1
   ·rw[if_pos c1]
    exact AW ⟨rfl,l,o,rfl,lo,ln,pl,λz=>absurd z (by lia)⟩
   ·rw[if_neg c1]
    refine AR (ask (by lia) ?_);cases e:p (hint-o) with
    | true =>
     dsimp only;rw[if_pos rfl];exact AW ⟨rfl,l,o,rfl,lo,ln,pl,λ_=>e⟩
    | false =>
     dsimp only;rw[if_neg (by decide)];exact AW ⟨rfl,o,_,rfl,by lia,by lia,by lia,e⟩
  ·rintro c st' ⟨rfl,l,o,rfl,lo,xo,ln,pl⟩
   exact ⟨rfl,l,o,rfl,lo,ln,pl,λz=>absurd z (by lia)⟩
  ·rintro c st' ⟨rfl,l,o,rfl,lo,ln,pl,pt⟩
   dsimp only;refine AR (fin (lo:=hint+1-min o (hint+1)) (hi:=hint-l) (by lia) (by lia) ?_ (down λ_=>pl) λk kn kt kf=>AW (h k kn kt kf));by_cases c1:o<hint+1
   ·rw[show hint+1-min o (hint+1)=hint+1-o by lia]
    exact λi hi=>mo i (hint-o) (by lia) (by lia) (pt c1)
   ·rw[show hint+1-min o (hint+1)=0 by lia]
    exact λi hi=>absurd hi (by lia)
variable{rk:AE->Int}{prog:AM}{w:AT}{A:BQ}{E:Ap->AA->Prop}{s:AA}{G:AE->Prop}{κ:FE}{a₀:Array AE}
def Srt(rk:AE->Int)(l:List AE):Prop:=l.Pairwise λx y=>rk x<=rk y
structure MI(rk:AE->Int)(a b out:List AE)(ia ib:Nat):Prop where
 perm:(out++(a.drop ia++b.drop ib)).Perm (a++b)
 srt:Srt rk out
 oa:∀x∈out,∀y∈a.drop ia,rk x<=rk y
 ob:∀x∈out,∀y∈b.drop ib,rk x<=rk y
theorem Qh{α:Type}(l:List α)(i k:Nat):l.drop i=(l.drop i).take k++l.drop (i+k):=by rw[<- P4];exact (FU k (l.drop i)).symm
theorem MI.takeA{a b out:List AE}{ia ib:Nat}(m:MI rk a b out ia ib)(sa:Srt rk a)(k:Nat)(h:∀y∈(a.drop ia).take k,∀z∈b.drop ib,rk y<=rk z):MI rk a b (out++(a.drop ia).take k) (ia+k) ib:=by
 have e:=Qh a ia k;have sd:Srt rk (a.drop ia):=sa.sublist (HG ..);refine ⟨?_,?_,?_,?_⟩
 ·refine OY ?_ m.perm
  rw[C0];refine FV _ ?_;rw[<- C0,<- e]
 ·refine C5.mpr ⟨m.srt,sd.sublist (F7 ..),λx hx y hy=>m.oa x hx y (MA hy)⟩
 ·intro x hx y hy
  rcases Co.mp hx with hx | hx
  ·exact m.oa x hx y (by rw[e];exact BS _ hy)
  ·unfold Srt at sd
   rw[e] at sd;exact (C5.mp sd).2.2 x hx y hy
 ·intro x hx y hy
  rcases Co.mp hx with hx | hx
  ·exact m.ob x hx y hy
  ·exact h x hx y hy
theorem MI.takeB{a b out:List AE}{ia ib:Nat}(m:MI rk a b out ia ib)(sb:Srt rk b)(k:Nat)(h:∀y∈(b.drop ib).take k,∀z∈a.drop ia,rk y<=rk z):MI rk a b (out++(b.drop ib).take k) ia (ib+k):=by
 have e:=Qh b ib k;have sd:Srt rk (b.drop ib):=sb.sublist (HG ..);refine ⟨?_,?_,?_,?_⟩
 ·refine OY ?_ m.perm
  rw[C0];refine FV _ ?_;rw[<- C0];refine (LI _ (Hc)).trans ?_;rw[C0,<- e]
 ·refine C5.mpr ⟨m.srt,sd.sublist (F7 ..),λx hx y hy=>m.ob x hx y (MA hy)⟩
 ·intro x hx y hy
  rcases Co.mp hx with hx | hx
  ·exact m.oa x hx y hy
  ·exact h x hx y hy
 ·intro x hx y hy
  rcases Co.mp hx with hx | hx
  ·exact m.ob x hx y (by rw[e];exact BS _ hy)
  ·unfold Srt at sd
   rw[e] at sd;exact (C5.mp sd).2.2 x hx y hy
def Mg(rk:AE->Int)(a b r:List AE):Prop:=r.Perm (a++b)/\Srt rk r
theorem MI.doneB{a b out:List AE}{ia ib:Nat}(m:MI rk a b out ia ib)(sa:Srt rk a)(h:b.length<=ib):Mg rk a b (out++a.drop ia++b.drop ib):=by
 rw[Jn h,CU];have p:=m.perm;rw[Jn h,CU] at p;exact ⟨p,C5.mpr ⟨m.srt,sa.sublist (HG ..),m.oa⟩⟩
theorem MI.doneA{a b out:List AE}{ia ib:Nat}(m:MI rk a b out ia ib)(sb:Srt rk b)(h:a.length<=ia):Mg rk a b (out++a.drop ia++b.drop ib):=by
 rw[Jn h,CU];have p:=m.perm;rw[Jn h,L8] at p;exact ⟨p,C5.mpr ⟨m.srt,sb.sublist (HG ..),m.ob⟩⟩
theorem MI.last{a b out:List AE}{ia ib:Nat}(m:MI rk a b out ia ib)(sb:Srt rk b)(h:ia+1=a.length)(hl:∀y∈b,∀z∈a.drop ia,rk y<=rk z):Mg rk a b (out++b.drop ib++a.drop ia):=by
 refine ⟨?_,?_⟩
 ·refine OY ?_ m.perm
  rw[C0];exact FV _ Hc
 ·have one:Srt rk (a.drop ia):=by
   have l1:(a.drop ia).length=1:=by rw[GV];lia
   obtain ⟨x,ex⟩:=List.length_eq_one_iff.mp l1;rw[ex];exact IH ..
  refine C5.mpr ⟨C5.mpr ⟨m.srt,sb.sublist (HG ..),m.ob⟩,one,λx hx y hy=>?_⟩;rcases Co.mp hx with hx | hx
  ·exact m.oa x hx y hy
  ·exact hl x (QR hx) y hy
variable{rk:AE->Int}{prog:AM}{w:AT}{A:BQ}{E:Ap->AA->Prop}{s:AA}{G:AE->Prop}{κ:FE}{a₀:Array AE}
theorem ifc{c:Prop}{α:Type}{i j:Decidable c}{x y u v:α}(h1:x=u)(h2:y=v):(@ite α c i x y)=(@ite α c j u v):=by rw[h1,h2];congr
def Df:Nat->StateT Bz Sem Unit:=sortPriv% PySem.Builtin.setMinGallop
theorem Vi(g:Nat):Df g=modify λs=>IQ (kindOf s) (AQ s) (BG s) g (FO s):=rfl
abbrev loDone(a b out:Array AE)(ia ib:Nat):Array AE:=out++a.extract ia a.size++b.extract ib b.size
abbrev loLast(a b out:Array AE)(ia ib:Nat):Array AE:=out++b.extract ib b.size++a.extract ia a.size
abbrev S1:=Option (Array AE)×Array AE×Nat×Nat×Nat×Nat
abbrev S2:=Option (Array AE)×Array AE×Nat×Nat×Nat×Nat×Nat
abbrev S0:=Option (Array AE)×Array AE×Nat×Nat×Nat
def loOne(a b:Array AE)(mg:Nat)(r:S1):StateT Bz Sem (ForInStep S1):=do
 let y <- DD b r.snd.snd.snd.fst
 let x <- DD a r.snd.snd.fst
 let c <- lt' y x
 match c with
 | some bWins =>
  if bWins=true then do
   let y <- DD b r.snd.snd.snd.fst
   if (r.snd.snd.snd.fst+1==b.size)=true then
    pure (BO (some (loDone a b (r.snd.fst.push y) r.snd.snd.fst (r.snd.snd.snd.fst+1)),r.snd.fst.push y,r.snd.snd.fst,r.snd.snd.snd.fst+1,0,r.snd.snd.snd.snd.snd+1))
   else if r.snd.snd.snd.snd.snd+1 >= mg then
    pure (BO (none,r.snd.fst.push y,r.snd.snd.fst,r.snd.snd.snd.fst+1,0,r.snd.snd.snd.snd.snd+1))
   else pure (C3 (none,r.snd.fst.push y,r.snd.snd.fst,r.snd.snd.snd.fst+1,0,r.snd.snd.snd.snd.snd+1))
  else do
   let x <- DD a r.snd.snd.fst
   if (r.snd.snd.fst+1+1==a.size)=true then
    pure (BO (some (loLast a b (r.snd.fst.push x) (r.snd.snd.fst+1) r.snd.snd.snd.fst),r.snd.fst.push x,r.snd.snd.fst+1,r.snd.snd.snd.fst,r.snd.snd.snd.snd.fst+1,0))
   else if r.snd.snd.snd.snd.fst+1 >= mg then
    pure (BO (none,r.snd.fst.push x,r.snd.snd.fst+1,r.snd.snd.snd.fst,r.snd.snd.snd.snd.fst+1,0))
   else pure (C3 (none,r.snd.fst.push x,r.snd.snd.fst+1,r.snd.snd.snd.fst,r.snd.snd.snd.snd.fst+1,0))
 | _=>pure (BO (some (loDone a b r.snd.fst r.snd.snd.fst r.snd.snd.snd.fst),r.snd.fst,r.snd.snd.fst,r.snd.snd.snd.fst,r.snd.snd.snd.snd.fst,r.snd.snd.snd.snd.snd))
def loEnd(a b:Array AE)(mg ac bc:Nat)(out:Array AE)(ia ib:Nat):StateT Bz Sem (ForInStep S2):=do
 let x <- DD a ia
 if (ia+1+1==a.size)=true then pure (BO (some (loLast a b (out.push x) (ia+1) ib),out.push x,ia+1,ib,mg,ac,bc))
 else if (decide (ac<7)&&decide (bc<7))=true then pure (BO (none,out.push x,ia+1,ib,mg,ac,bc))
 else pure (C3 (none,out.push x,ia+1,ib,mg,ac,bc))
def loMid(a b:Array AE)(mg k bc:Nat)(out:Array AE)(ia ib:Nat):StateT Bz Sem (ForInStep S2):=do
 let y <- DD b ib
 if (ib+1==b.size)=true then pure (BO (some (loDone a b (out.push y) ia (ib+1)),out.push y,ia,ib+1,mg,k,bc))
 else do
  let x <- DD a ia
  let r <- Cu true x b (ib+1) (b.size-(ib+1)) 0
  match r with
  | some k' =>
   if k'>0 then
    if (ib+1+k'==b.size)=true then pure (BO (some (loDone a b (out.push y++b.extract (ib+1) (ib+1+k')) ia (ib+1+k')),out.push y++b.extract (ib+1) (ib+1+k'),ia,ib+1+k',mg,k,k'))
    else loEnd a b mg k k' (out.push y++b.extract (ib+1) (ib+1+k')) ia (ib+1+k')
   else loEnd a b mg k k' (out.push y) ia (ib+1)
  | _=>pure (BO (some (loDone a b (out.push y) ia (ib+1)),out.push y,ia,ib+1,mg,k,bc))
def loGal(a b:Array AE)(mg ac bc:Nat)(out:Array AE)(ia ib:Nat):StateT Bz Sem (ForInStep S2):=do
 Df mg
 let y <- DD b ib
 let r <- Cu false y a ia (a.size-ia) 0
 match r with
 | some k =>
  if k>0 then
   if (ia+k+1==a.size)=true then pure (BO (some (loLast a b (out++a.extract ia (ia+k)) (ia+k) ib),out++a.extract ia (ia+k),ia+k,ib,mg,k,bc))
   else if (ia+k==a.size)=true then pure (BO (some (loDone a b (out++a.extract ia (ia+k)) (ia+k) ib),out++a.extract ia (ia+k),ia+k,ib,mg,k,bc))
   else loMid a b mg k bc (out++a.extract ia (ia+k)) (ia+k) ib
  else loMid a b mg k bc out ia ib
 | _=>pure (BO (some (loDone a b out ia ib),out,ia,ib,mg,ac,bc))
def Hs:Array AE->Array AE->StateT Bz Sem (Array AE):=sortPriv% PySem.Builtin.mergeLo
theorem Tr(a b:Array AE):Hs a b=(do
 rule "list.sort.merge-lo"
 let total:=a.size+b.size
 let done (out:Array AE) (ia ib:Nat):=out++a.extract ia a.size++b.extract ib b.size
 let lastOfA (out:Array AE) (ia ib:Nat):=out++b.extract ib b.size++a.extract ia a.size
 let mut out:Array AE:=#[<- DD b 0]
 let mut ia:=0
 let mut ib:=1
 if ib==b.size then return done out ia ib
 if ia+1==a.size then return lastOfA out ia ib
 let mut minGallop:=QU (<- get)
 for _ in [0:total] do
  let mut acount:=0
  let mut bcount:=0
  for _ in [0:total] do
   let some bWins <- lt' (<- DD b ib) (<- DD a ia) | return done out ia ib
   if bWins then
    out:=out.push (<- DD b ib);ib:=ib+1;bcount:=bcount+1;acount:=0
    if ib==b.size then return done out ia ib
    if bcount >= minGallop then break
   else
    out:=out.push (<- DD a ia);ia:=ia+1;acount:=acount+1;bcount:=0
    if ia+1==a.size then return lastOfA out ia ib
    if acount >= minGallop then break
  rule "list.sort.gallop"
  minGallop:=minGallop+1
  for _ in [0:total] do
   if minGallop>1 then minGallop:=minGallop-1
   Df minGallop
   let some k <- Cu false (<- DD b ib) a ia (a.size-ia) 0 | return done out ia ib
   acount:=k
   if k>0 then
    out:=out++a.extract ia (ia+k);ia:=ia+k
    if ia+1==a.size then return lastOfA out ia ib
    if ia==a.size then return done out ia ib
   out:=out.push (<- DD b ib);ib:=ib+1
   if ib==b.size then return done out ia ib
   let some k <- Cu true (<- DD a ia) b ib (b.size-ib) 0 | return done out ia ib
   bcount:=k
   if k>0 then
    out:=out++b.extract ib (ib+k);ib:=ib+k
    if ib==b.size then return done out ia ib
   out:=out.push (<- DD a ia);ia:=ia+1
   if ia+1==a.size then return lastOfA out ia ib
   if acount<7&&bcount<7 then break
  minGallop:=minGallop+1
  Df minGallop
 unsupported "internal:list.sort.merge-bound"):=rfl
set_option pp.proofs true in
theorem Qz(a b:Array AE):Hs a b=(do
 liftM (rule "list.sort.merge-lo")
 let y <- DD b 0
 if (1==b.size)=true then pure (loDone a b #[y] 0 1)
 else if (0+1==a.size)=true then pure (loLast a b #[y] 0 1)
 else do
  let g <- get
  let r <- forIn [0:a.size+b.size] ((none,#[y],0,1,QU g):S0) λ_ r0=>do
   let r1 <- forIn [0:a.size+b.size] ((none,r0.snd.fst,r0.snd.snd.fst,r0.snd.snd.snd.fst,0,0):S1) λ_ r=>loOne a b r0.snd.snd.snd.snd r
   match r1.fst with
   | some x=>pure (BO ((some x,r1.snd.fst,r1.snd.snd.fst,r1.snd.snd.snd.fst,r0.snd.snd.snd.snd):S0))
   | none=>do
    liftM (rule "list.sort.gallop")
    let r2 <- forIn [0:a.size+b.size] ((none,r1.snd.fst,r1.snd.snd.fst,r1.snd.snd.snd.fst,r0.snd.snd.snd.snd+1,r1.snd.snd.snd.snd.fst,r1.snd.snd.snd.snd.snd):S2) λ_ r =>
     if r.snd.snd.snd.snd.fst>1 then loGal a b (r.snd.snd.snd.snd.fst-1) r.snd.snd.snd.snd.snd.fst r.snd.snd.snd.snd.snd.snd r.snd.fst r.snd.snd.fst r.snd.snd.snd.fst
     else loGal a b r.snd.snd.snd.snd.fst r.snd.snd.snd.snd.snd.fst r.snd.snd.snd.snd.snd.snd r.snd.fst r.snd.snd.fst r.snd.snd.snd.fst
    match r2.fst with
    | some x=>pure (BO ((some x,r2.snd.fst,r2.snd.snd.fst,r2.snd.snd.snd.fst,r2.snd.snd.snd.snd.fst):S0))
    | none=>do
     Df (r2.snd.snd.snd.snd.fst+1)
     pure (C3 ((none,r2.snd.fst,r2.snd.snd.fst,r2.snd.snd.snd.fst,r2.snd.snd.snd.snd.fst+1):S0))
  match r.fst with
  | some x=>pure x
  | none=>unsupported "internal:list.sort.merge-bound"):=by
 rw[Tr];dsimp only
 congr 1
 funext _
 congr 1
 funext y
 refine ifc rfl (ifc rfl ?_)
 congr 1
 funext g
 congr 1
 ·congr 1
  funext x r0
  congr 1
  funext r1
  obtain ⟨o1,r1⟩:=r1;cases o1 with
  | some x=>rfl
  | none =>
   dsimp only
   congr 1
   funext u
   congr 1
   funext r2
   obtain ⟨o2,r2⟩:=r2;cases o2<;>rfl
 ·funext r
  obtain ⟨o,r⟩:=r;cases o<;>rfl
variable{rk:AE->Int}{prog:AM}{w:AT}{A:BQ}{E:Ap->AA->Prop}{s:AA}{G:AE->Prop}{κ:FE}{a₀:Array AE}
structure Gx(st st':Bz):Prop where
 arr:AQ st'=AQ st
 kind:kindOf st'=kindOf st
 failed:FO st'=FO st
 pend:BG st'=BG st
theorem Gx.refl(st:Bz):Gx st st:=⟨rfl,rfl,rfl,rfl⟩
theorem Rm{out b:Array AE}{ib:Nat}(h:ib<b.size):(out.push b[ib]).toList=out.toList++(b.toList.drop ib).take 1:=by
 rw[JJ]
 congr 1
 have hl:ib<b.toList.length:=by simpa using h
 rw[N1 hl,MH,P5];simp
theorem Vx{out a:Array AE}(i k:Nat):(out++a.extract i (i+k)).toList=out.toList++(a.toList.drop i).take k:=by
 rw[Do,F4]
 congr 1
 simp[Sr]
theorem Hy(a:Array AE)(i:Nat):(a.extract i a.size).toList=a.toList.drop i:=by
 rw[F4];simp[Sr];rw[G2 (by simp)]
theorem Qj(a b out:Array AE)(ia ib:Nat):(loDone a b out ia ib).toList=out.toList++a.toList.drop ia++b.toList.drop ib:=by
 unfold loDone;rw[Do,Do,Hy,Hy]
theorem Zy(a b out:Array AE)(ia ib:Nat):(loLast a b out ia ib).toList=out.toList++b.toList.drop ib++a.toList.drop ia:=by
 unfold loLast;rw[Do,Do,Hy,Hy]
theorem Dh{a:Array AE}{i:Nat}{z:AE}(h:z∈a.toList.drop i):∃j,i<=j/\∃hj:j<a.size,z=a[j]:=by
 obtain ⟨k,hk,e⟩:=CL.mp h;rw[GV] at hk;refine ⟨i+k,by lia,by
               have:a.toList.length=a.size:=by simp
               lia,?_⟩
 rw[<- e,NM];simp
theorem CV{a:Array AE}{i k:Nat}{z:AE}(h:z∈(a.toList.drop i).take k):∃j,i<=j/\j<i+k/\∃hj:j<a.size,z=a[j]:=by
 obtain ⟨n,hk,e⟩:=CL.mp h;rw[Cc,GV] at hk;have:a.toList.length=a.size:=by simp
 refine ⟨i+n,by lia,by lia,by lia,?_⟩;rw[<- e,JI,NM];simp
theorem El{a:Array AE}(sa:Srt rk a.toList){i j:Nat}(ij:i<=j)(hj:j<a.size):rk (a[i]'(by lia))<=rk a[j]:=by
 by_cases e:i=j
 ·subst e;exact IT _
 ·have:=CO.mp sa i j (by simp;lia) (by simpa using hj) (by lia)
  simpa using this
theorem Qe{a:Array AE}(sa:Srt rk a.toList){lo hi:Nat}(h:hi<=a.size):Up rk a lo hi:=λi j li ij jh=>by
 rw[Fl (show i<a.size by lia),Fl (show j<a.size by lia)];exact El sa ij (by lia)
section
variable{a b:Array AE}{st:Bz}
def At(rk:AE->Int)(a b out:Array AE)(ia ib:Nat):Prop:=MI rk a.toList b.toList out.toList ia ib/\ia+1<a.size/\ib<b.size
structure Lo(G:AE->Prop)(rk:AE->Int)(a b:Array AE):Prop where
 ga:Al G a
 gb:Al G b
 sa:Srt rk a.toList
 sb:Srt rk b.toList
 hl:∀y∈b.toList,∀z∈a.toList.drop (a.size-1),rk y<=rk z
theorem Lo.done(L:Lo G rk a b){out:Array AE}{ia ib:Nat}(m:MI rk a.toList b.toList out.toList ia ib)(h:b.size<=ib):Mg rk a.toList b.toList (loDone a b out ia ib).toList:=by
 rw[Qj];exact m.doneB L.sa (by simpa using h)
theorem Lo.doneA(L:Lo G rk a b){out:Array AE}{ia ib:Nat}(m:MI rk a.toList b.toList out.toList ia ib)(h:a.size<=ia):Mg rk a.toList b.toList (loDone a b out ia ib).toList:=by
 rw[Qj];exact m.doneA L.sb (by simpa using h)
theorem Lo.last(L:Lo G rk a b){out:Array AE}{ia ib:Nat}(m:MI rk a.toList b.toList out.toList ia ib)(h:ia+1=a.size):Mg rk a.toList b.toList (loLast a b out ia ib).toList:=by
 rw[Zy];refine m.last L.sb (by simpa using h) λy hy z hz=>L.hl y hy z ?_;rw[show a.size-1=ia by lia];exact hz
theorem Lo.stepB(L:Lo G rk a b){out:Array AE}{ia ib:Nat}(m:MI rk a.toList b.toList out.toList ia ib)(hb:ib<b.size)(h:∀j,ia<=j->∀hj:j<a.size,rk b[ib]<=rk a[j]):MI rk a.toList b.toList (out.push b[ib]).toList ia (ib+1):=by
 rw[Rm hb];refine m.takeB L.sb 1 λy hy z hz=>?_;obtain ⟨j,j1,j2,hj,rfl⟩:=CV hy;have:j=ib:=by lia
 subst this;obtain ⟨i,i1,hi,rfl⟩:=Dh hz;exact h i i1 hi
theorem Lo.stepA(L:Lo G rk a b){out:Array AE}{ia ib:Nat}(m:MI rk a.toList b.toList out.toList ia ib)(ha:ia<a.size)(h:∀j,ib<=j->∀hj:j<b.size,rk a[ia]<=rk b[j]):MI rk a.toList b.toList (out.push a[ia]).toList (ia+1) ib:=by
 rw[Rm ha];refine m.takeA L.sa 1 λy hy z hz=>?_;obtain ⟨j,j1,j2,hj,rfl⟩:=CV hy;have:j=ia:=by lia
 subst this;obtain ⟨i,i1,hi,rfl⟩:=Dh hz;exact h i i1 hi
theorem Lo.manyA(L:Lo G rk a b){out:Array AE}{ia ib k:Nat}(m:MI rk a.toList b.toList out.toList ia ib)(h:∀i,ia<=i->i<ia+k->∀hi:i<a.size,∀j,ib<=j->∀hj:j<b.size,rk a[i]<=rk b[j]):MI rk a.toList b.toList (out++a.extract ia (ia+k)).toList (ia+k) ib:=by
 rw[Vx];refine m.takeA L.sa k λy hy z hz=>?_;obtain ⟨i,i1,i2,hi,rfl⟩:=CV hy;obtain ⟨j,j1,hj,rfl⟩:=Dh hz;exact h i i1 i2 hi j j1 hj
theorem Lo.manyB(L:Lo G rk a b){out:Array AE}{ia ib k:Nat}(m:MI rk a.toList b.toList out.toList ia ib)(h:∀i,ib<=i->i<ib+k->∀hi:i<b.size,∀j,ia<=j->∀hj:j<a.size,rk b[i]<=rk a[j]):MI rk a.toList b.toList (out++b.extract ib (ib+k)).toList ia (ib+k):=by
 rw[Vx];refine m.takeB L.sb k λy hy z hz=>?_;obtain ⟨i,i1,i2,hi,rfl⟩:=CV hy;obtain ⟨j,j1,hj,rfl⟩:=Dh hz;exact h i i1 i2 hi j j1 hj
theorem Qa{st st':Bz}(g:Gx st st')(m:Nat):Gx st (IQ (kindOf st') (AQ st') (BG st') m (FO st')):=⟨g.arr,g.kind,g.failed,g.pend⟩
theorem setMin{st:Bz}{g:Nat}{Q:Unit->Bz->Prop}(h:Q () (IQ (kindOf st) (AQ st) (BG st) g (FO st))):wpS (AL prog w) A E s (Df g) Q st:=by
 rw[Vi];exact HP h
def E1(rk:AE->Int)(a b:Array AE)(st:Bz)(m:Nat)(r:S1)(st':Bz):Prop:=Gx st st'/\((∃x y,r=(some x,y)/\Mg rk a.toList b.toList x.toList)\/∃out ia ib ac bc,r=(none,out,ia,ib,ac,bc)/\At rk a b out ia ib/\m<=ia+ib)
def E2(rk:AE->Int)(a b:Array AE)(st:Bz)(m:Nat)(r:S2)(st':Bz):Prop:=Gx st st'/\((∃x y,r=(some x,y)/\Mg rk a.toList b.toList x.toList)\/∃out ia ib mg ac bc,r=(none,out,ia,ib,mg,ac,bc)/\At rk a b out ia ib/\m<=ia+ib)
def Y1(rk:AE->Int)(a b:Array AE)(st:Bz)(m:Nat)(r:S1)(st':Bz):Prop:=Gx st st'/\∃out ia ib ac bc,r=(none,out,ia,ib,ac,bc)/\At rk a b out ia ib/\m<=ia+ib
def Y2(rk:AE->Int)(a b:Array AE)(st:Bz)(m:Nat)(r:S2)(st':Bz):Prop:=Gx st st'/\∃out ia ib mg ac bc,r=(none,out,ia,ib,mg,ac,bc)/\At rk a b out ia ib/\m<=ia+ib
theorem Ys(C:Cmp prog w A E s κ G rk)(L:Lo G rk a b){mg m ia ib ac bc:Nat}{out:Array AE}{st0:Bz}(kd:kindOf st0=κ)(g:Gx st0 st)(at_:At rk a b out ia ib)(hm:m<=ia+ib) :
  wpS (AL prog w) A E s (loOne a b mg (none,out,ia,ib,ac,bc)) (λr st'=>match r with | .done c'=>E1 rk a b st0 (m+1) c' st' | .yield c'=>Y1 rk a b st0 (m+1) c' st') st:=by
 obtain ⟨mi,la,lb⟩:=at_;have la':ia<a.size:=by lia
 unfold loOne;dsimp only;refine AR (Bg lb (AR (Bg la' (AR (C _ _ (L.gb.at lb) (L.ga.at la') st _ (g.kind.trans kd) ?_)))));by_cases c:rk b[ib]<rk a[ia]
 ·rw[decide_eq_true c]
  dsimp only;rw[if_pos rfl];refine AR (Bg lb ?_);have mi':=L.stepB mi lb λj j1 hj=>EL (F3 c) (El L.sa j1 hj);by_cases c1:ib+1=b.size
  ·rw[if_pos (by rw[c1];exact beq_self_eq_true _)]
   exact AW ⟨g,.inl ⟨_,_,rfl,L.done mi' (by lia)⟩⟩
  ·rw[if_neg (by intro z;exact c1 (beq_iff_eq.mp z))]
   by_cases c2:bc+1 >= mg
   ·rw[if_pos c2]
    exact AW ⟨g,.inr ⟨_,_,_,_,_,rfl,⟨mi',la,by lia⟩,by lia⟩⟩
   ·rw[if_neg c2]
    exact AW ⟨g,_,_,_,_,_,rfl,⟨mi',la,by lia⟩,by lia⟩
 ·rw[decide_eq_false c]
  dsimp only;rw[if_neg (by decide)];refine AR (Bg la' ?_);have mi':=L.stepA mi la' λj j1 hj=>EL (IP.mp c) (El L.sb j1 hj);by_cases c1:ia+1+1=a.size
  ·rw[if_pos (by rw[c1];exact beq_self_eq_true _)]
   exact AW ⟨g,.inl ⟨_,_,rfl,L.last mi' (by lia)⟩⟩
  ·rw[if_neg (by intro z;exact c1 (beq_iff_eq.mp z))]
   by_cases c2:ac+1 >= mg
   ·rw[if_pos c2]
    exact AW ⟨g,.inr ⟨_,_,_,_,_,rfl,⟨mi',by lia,lb⟩,by lia⟩⟩
   ·rw[if_neg c2]
    exact AW ⟨g,_,_,_,_,_,rfl,⟨mi',by lia,lb⟩,by lia⟩
theorem Om(L:Lo G rk a b){mg m ia ib ac bc:Nat}{out:Array AE}{st0:Bz}(g:Gx st0 st)(mi:MI rk a.toList b.toList out.toList ia ib)(la:ia+1<a.size)(lb:ib<b.size)(h:∀j,ib<=j->∀hj:j<b.size,rk (a[ia]'(by lia))<=rk b[j])(hm:m<=ia+ib) :
  wpS (AL prog w) A E s (loEnd a b mg ac bc out ia ib) (λr st'=>match r with | .done c'=>E2 rk a b st0 m c' st' | .yield c'=>Y2 rk a b st0 m c' st') st:=by
 have la':ia<a.size:=by lia
 unfold loEnd;refine AR (Bg la' ?_);have mi':=L.stepA mi la' h;by_cases c1:ia+1+1=a.size
 ·rw[if_pos (by rw[c1];exact beq_self_eq_true _)]
  exact AW ⟨g,.inl ⟨_,_,rfl,L.last mi' (by lia)⟩⟩
 ·rw[if_neg (by intro z;exact c1 (beq_iff_eq.mp z))]
  by_cases c2:(decide (ac<7)&&decide (bc<7))=true
  ·rw[if_pos c2]
   exact AW ⟨g,.inr ⟨_,_,_,_,_,_,rfl,⟨mi',by lia,lb⟩,by lia⟩⟩
  ·rw[if_neg c2]
   exact AW ⟨g,_,_,_,_,_,_,rfl,⟨mi',by lia,lb⟩,by lia⟩
theorem Dz{key:AE}{arr:Array AE}{base i:Nat}(h:base+i<arr.size):bey rk false key arr base i=!decide (rk key<rk arr[base+i]):=by
 unfold bey;rw[if_neg (by decide),Fl h]
theorem Er{key:AE}{arr:Array AE}{base i:Nat}(h:base+i<arr.size):bey rk true key arr base i=decide (rk arr[base+i]<rk key):=by
 unfold bey;rw[if_pos rfl,Fl h]
theorem Nh(C:Cmp prog w A E s κ G rk)(L:Lo G rk a b){mg m k bc ia ib:Nat}{out:Array AE}{st0:Bz}(kd:kindOf st0=κ)(g:Gx st0 st)(mi:MI rk a.toList b.toList out.toList ia ib)(la:ia+1<a.size)(lb:ib<b.size)(h:∀j,ia<=j->∀hj:j<a.size,rk b[ib]<=rk a[j])(hm:m<=ia+ib) :
  wpS (AL prog w) A E s (loMid a b mg k bc out ia ib) (λr st'=>match r with | .done c'=>E2 rk a b st0 m c' st' | .yield c'=>Y2 rk a b st0 m c' st') st:=by
 have la':ia<a.size:=by lia
 unfold loMid;refine AR (Bg lb ?_);have mi':=L.stepB mi lb h;by_cases c1:ib+1=b.size
 ·rw[if_pos (by rw[c1];exact beq_self_eq_true _)]
  exact AW ⟨g,.inl ⟨_,_,rfl,L.done mi' (by lia)⟩⟩
 ·rw[if_neg (by intro z;exact c1 (beq_iff_eq.mp z))]
  refine AR (Bg la' ?_);refine AR (DR C (L.ga.at la') L.gb (g.kind.trans kd) (by lia) (by lia) (FN (Qe L.sb (by lia))) λk' kn kt kf=>?_);dsimp only;have t1:∀i,ib+1<=i->i<ib+1+k'->∀hi:i<b.size,rk b[i]<rk a[ia]:=λi i1 i2 hi=>by
   have z:=kt (i-(ib+1)) (by lia);rw[Er (by lia)] at z;have e:ib+1+(i-(ib+1))=i:=by lia
   simp only[e] at z;exact of_decide_eq_true z
  have t2:∀j,ib+1+k'<=j->∀hj:j<b.size,rk a[ia]<=rk b[j]:=λi i1 hi=>by
   have z:=kf (i-(ib+1)) (by lia) (by lia);rw[Er (by lia)] at z;have e:ib+1+(i-(ib+1))=i:=by lia
   simp only[e] at z;exact IP.mp (of_decide_eq_false z)
  by_cases c2:k'>0
  ·rw[if_pos c2]
   have mi2:=L.manyB (k:=k') mi' λi i1 i2 hi j j1 hj=>EL (F3 (t1 i i1 i2 hi)) (El L.sa j1 hj);by_cases c3:ib+1+k'=b.size
   ·rw[if_pos (by rw[c3];exact beq_self_eq_true _)]
    exact AW ⟨g,.inl ⟨_,_,rfl,L.done mi2 (by lia)⟩⟩
   ·rw[if_neg (by intro z;exact c3 (beq_iff_eq.mp z))]
    exact Om L g mi2 la (by lia) t2 (by lia)
  ·rw[if_neg c2]
   have:k'=0:=by lia
   subst this;exact Om L g mi' la (by lia) t2 (by lia)
theorem Np(C:Cmp prog w A E s κ G rk)(L:Lo G rk a b){mg m ac bc ia ib:Nat}{out:Array AE}{st0:Bz}(kd:kindOf st0=κ)(g:Gx st0 st)(at_:At rk a b out ia ib)(hm:m<=ia+ib) :
  wpS (AL prog w) A E s (loGal a b mg ac bc out ia ib) (λr st'=>match r with | .done c'=>E2 rk a b st0 m c' st' | .yield c'=>Y2 rk a b st0 m c' st') st:=by
 obtain ⟨mi,la,lb⟩:=at_;have la':ia<a.size:=by lia
 unfold loGal;refine AR (setMin ?_);have g':=Qa g mg;generalize IQ (kindOf st) (AQ st) (BG st) mg (FO st)=st1 at g';refine AR (Bg lb ?_);refine AR (DR C (L.gb.at lb) L.ga (g'.kind.trans kd) (by lia) (by lia) (FN (Qe L.sa (by lia))) λk kn kt kf=>?_);dsimp only;have t1:∀i,ia<=i->i<ia+k->∀hi:i<a.size,rk a[i]<=rk b[ib]:=λi i1 i2 hi=>by
  have z:=kt (i-ia) (by lia);rw[Dz (by lia)] at z;have e:ia+(i-ia)=i:=by lia
  simp only[e] at z;refine IP.mp λy=>?_;rw[decide_eq_true y] at z;cases z
 have t2:∀j,ia+k<=j->∀hj:j<a.size,rk b[ib]<=rk a[j]:=λi i1 hi=>by
  have z:=kf (i-ia) (by lia) (by lia);rw[Dz (by lia)] at z;have e:ia+(i-ia)=i:=by lia
  simp only[e] at z;have z':decide (rk b[ib]<rk a[i])=true:=by
   cases q:decide (rk b[ib]<rk a[i]) with
   | true=>rfl
   | false=>rw[q] at z;cases z
  exact F3 (of_decide_eq_true z')
 by_cases c2:k>0
 ·rw[if_pos c2]
  have mi2:=L.manyA (k:=k) mi λi i1 i2 hi j j1 hj=>EL (t1 i i1 i2 hi) (El L.sb j1 hj);by_cases c3:ia+k+1=a.size
  ·rw[if_pos (by rw[c3];exact beq_self_eq_true _)]
   exact AW ⟨g',.inl ⟨_,_,rfl,L.last mi2 (by lia)⟩⟩
  ·rw[if_neg (by intro z;exact c3 (beq_iff_eq.mp z))]
   by_cases c4:ia+k=a.size
   ·rw[if_pos (by rw[c4];exact beq_self_eq_true _)]
    exact AW ⟨g',.inl ⟨_,_,rfl,L.doneA mi2 (by lia)⟩⟩
   ·rw[if_neg (by intro z;exact c4 (beq_iff_eq.mp z))]
    exact Nh C L kd g' mi2 (by lia) lb t2 (by lia)
 ·rw[if_neg c2]
  have:k=0:=by lia
  subst this;exact Nh C L kd g' mi la lb t2 hm
theorem Rx(C:Cmp prog w A E s κ G rk)(L:Lo G rk a b)(kd:kindOf st=κ)(a1:1<=a.size)(b1:1<=b.size)(hf:∀j,∀hj:j<a.size,rk b[0]<=rk a[j]){Q:Array AE->Bz->Prop}(h:∀r st',Gx st st'->Mg rk a.toList b.toList r.toList->Q r st'):wpS (AL prog w) A E s (Hs a b) Q st:=by
 rw[Qz];refine AR (MV (HL ⟨rfl,?_⟩));refine AR (Bg b1 ?_);have mi0:MI rk a.toList b.toList (#[]:Array AE).toList 0 0:=⟨MU _,K9,λx hx=>(by cases hx),λx hx=>(by cases hx)⟩;have mi:MI rk a.toList b.toList (#[b[0]]:Array AE).toList 0 1:=L.stepB mi0 b1 λj _ hj=>hf j hj;by_cases c1:1=b.size
 ·rw[if_pos (by rw[<- c1];rfl)]
  exact AW (h _ _ (Gx.refl _) (L.done mi (by lia)))
 rw[if_neg (by intro z;exact c1 (beq_iff_eq.mp z))];by_cases c2:0+1=a.size
 ·rw[if_pos (by rw[<- c2];rfl)]
  exact AW (h _ _ (Gx.refl _) (L.last mi (by lia)))
 rw[if_neg (by intro z;exact c2 (beq_iff_eq.mp z))];refine AR (J4 ?_);refine AR (EC (DL (I:=λx c st'=>Gx st st'/\∃out ia ib mg,c=(none,out,ia,ib,mg)/\At rk a b out ia ib/\x+1<=ia+ib)
  (Q:=λc st'=>Gx st st'/\∃x y,c=(some x,y)/\Mg rk a.toList b.toList x.toList) ?_ ?_ ⟨Gx.refl _,_,_,_,_,rfl,⟨mi,by lia,by lia⟩,by lia⟩) ?_)
 ·rintro x c st' _ xn ⟨g,out,ia,ib,mg,rfl,at_,xm⟩
  dsimp only;refine AR (EC (DL (I:=λy c st'=>Y1 rk a b st (x+1+y) c st') (Q:=E1 rk a b st (x+2)) ?_ ?_ ⟨g,_,_,_,_,_,rfl,at_,by lia⟩) ?_)
  ·rintro y c st2 _ yn ⟨g2,out2,ia2,ib2,ac,bc,rfl,at2,hm⟩
   refine EC (Ys C L kd g2 at2 hm) λr st3 hr=>?_;cases r with
   | done c' =>
    obtain ⟨g3,q⟩:=hr;refine ⟨g3,q.imp id λ⟨o,i,j,k,l,e,a',b'⟩=>⟨o,i,j,k,l,e,a',by lia⟩⟩
   | yield c'=>exact hr
  ·rintro c st2 ⟨g2,out2,ia2,ib2,ac,bc,rfl,at2,hm⟩
   exact ⟨g2,.inr ⟨_,_,_,_,_,rfl,at2,by lia⟩⟩
  ·rintro c st2 ⟨g2,⟨r,y,rfl,m⟩ | ⟨out2,ia2,ib2,ac,bc,rfl,at2,hm⟩⟩
   ·exact AW ⟨g2,_,_,rfl,m⟩
   ·dsimp only
    refine AR (MV (HL ⟨rfl,?_⟩));refine AR (EC (DL (I:=λy c st'=>Y2 rk a b st (x+2) c st') (Q:=E2 rk a b st (x+2)) ?_ ?_ ⟨g2,_,_,_,_,_,_,rfl,at2,hm⟩) ?_)
    ·rintro y c st3 _ yn ⟨g3,out3,ia3,ib3,mg3,ac3,bc3,rfl,at3,hm3⟩
     dsimp only;split
     ·exact EC (Np C L kd g3 at3 hm3) λr st4 hr=>by cases r<;>exact hr
     ·exact EC (Np C L kd g3 at3 hm3) λr st4 hr=>by cases r<;>exact hr
    ·rintro c st3 ⟨g3,out3,ia3,ib3,mg3,ac3,bc3,rfl,at3,hm3⟩
     exact ⟨g3,.inr ⟨_,_,_,_,_,_,rfl,at3,hm3⟩⟩
    ·rintro c st3 ⟨g3,⟨r,y,rfl,m⟩ | ⟨out3,ia3,ib3,mg3,ac3,bc3,rfl,at3,hm3⟩⟩
     ·exact AW ⟨g3,_,_,rfl,m⟩
     ·refine AR (setMin (AW ⟨Qa g3 _,_,_,_,_,rfl,at3,by lia⟩))
 ·rintro c st' ⟨g,out,ia,ib,mg,rfl,⟨_,la,lb⟩,xm⟩
  lia
 ·rintro c st' ⟨g,x,y,rfl,m⟩
  exact AW (h _ _ g m)
end
variable{rk:AE->Int}{prog:AM}{w:AT}{A:BQ}{E:Ap->AA->Prop}{s:AA}{G:AE->Prop}{κ:FE}{a₀:Array AE}
abbrev hiDone(a b out:Array AE)(na nb:Nat):Array AE:=a.extract 0 na++b.extract 0 nb++out.reverse
abbrev Gn(a b out:Array AE)(na nb:Nat):Array AE:=b.extract 0 nb++a.extract 0 na++out.reverse
abbrev T1:=Option (Array AE)×Nat×Nat×Array AE×Nat×Nat
abbrev T2:=Option (Array AE)×Nat×Nat×Array AE×Nat×Nat×Nat
abbrev T0:=Option (Array AE)×Nat×Nat×Array AE×Nat
def hiOne(a b:Array AE)(mg:Nat)(r:T1):StateT Bz Sem (ForInStep T1):=do
 let y <- DD b (r.snd.snd.fst-1)
 let x <- DD a (r.snd.fst-1)
 let c <- lt' y x
 match c with
 | some aWins =>
  if aWins=true then do
   let x <- DD a (r.snd.fst-1)
   if (r.snd.fst-1==0)=true then
    pure (BO (some (hiDone a b (r.snd.snd.snd.fst.push x) (r.snd.fst-1) r.snd.snd.fst),r.snd.fst-1,r.snd.snd.fst,r.snd.snd.snd.fst.push x,r.snd.snd.snd.snd.fst+1,0))
   else if r.snd.snd.snd.snd.fst+1 >= mg then
    pure (BO (none,r.snd.fst-1,r.snd.snd.fst,r.snd.snd.snd.fst.push x,r.snd.snd.snd.snd.fst+1,0))
   else pure (C3 (none,r.snd.fst-1,r.snd.snd.fst,r.snd.snd.snd.fst.push x,r.snd.snd.snd.snd.fst+1,0))
  else do
   let y <- DD b (r.snd.snd.fst-1)
   if (r.snd.snd.fst-1==1)=true then
    pure (BO (some (Gn a b (r.snd.snd.snd.fst.push y) r.snd.fst (r.snd.snd.fst-1)),r.snd.fst,r.snd.snd.fst-1,r.snd.snd.snd.fst.push y,0,r.snd.snd.snd.snd.snd+1))
   else if r.snd.snd.snd.snd.snd+1 >= mg then
    pure (BO (none,r.snd.fst,r.snd.snd.fst-1,r.snd.snd.snd.fst.push y,0,r.snd.snd.snd.snd.snd+1))
   else pure (C3 (none,r.snd.fst,r.snd.snd.fst-1,r.snd.snd.snd.fst.push y,0,r.snd.snd.snd.snd.snd+1))
 | _=>pure (BO (some (hiDone a b r.snd.snd.snd.fst r.snd.fst r.snd.snd.fst),r.snd.fst,r.snd.snd.fst,r.snd.snd.snd.fst,r.snd.snd.snd.snd.fst,r.snd.snd.snd.snd.snd))
def hiEnd(a b:Array AE)(mg ac bc:Nat)(out:Array AE)(na nb:Nat):StateT Bz Sem (ForInStep T2):=do
 let x <- DD a (na-1)
 if (na-1==0)=true then pure (BO (some (hiDone a b (out.push x) (na-1) nb),na-1,nb,out.push x,mg,ac,bc))
 else if (decide (ac<7)&&decide (bc<7))=true then pure (BO (none,na-1,nb,out.push x,mg,ac,bc))
 else pure (C3 (none,na-1,nb,out.push x,mg,ac,bc))
def hiMid(a b:Array AE)(mg k bc:Nat)(out:Array AE)(na nb:Nat):StateT Bz Sem (ForInStep T2):=do
 let y <- DD b (nb-1)
 if (nb-1==1)=true then pure (BO (some (Gn a b (out.push y) na (nb-1)),na,nb-1,out.push y,mg,k,bc))
 else do
  let x <- DD a (na-1)
  let r <- Cu true x b 0 (nb-1) (nb-1-1)
  match r with
  | some t =>
   if nb-1-t>0 then
    if (t==1)=true then pure (BO (some (Gn a b (out.push y++(b.extract t (nb-1)).reverse) na t),na,t,out.push y++(b.extract t (nb-1)).reverse,mg,k,nb-1-t))
    else if (t==0)=true then pure (BO (some (hiDone a b (out.push y++(b.extract t (nb-1)).reverse) na t),na,t,out.push y++(b.extract t (nb-1)).reverse,mg,k,nb-1-t))
    else hiEnd a b mg k (nb-1-t) (out.push y++(b.extract t (nb-1)).reverse) na t
   else hiEnd a b mg k (nb-1-t) (out.push y) na (nb-1)
  | _=>pure (BO (some (hiDone a b (out.push y) na (nb-1)),na,nb-1,out.push y,mg,k,bc))
def hiGal(a b:Array AE)(mg ac bc:Nat)(out:Array AE)(na nb:Nat):StateT Bz Sem (ForInStep T2):=do
 Df mg
 let y <- DD b (nb-1)
 let r <- Cu false y a 0 na (na-1)
 match r with
 | some t =>
  if na-t>0 then
   if (t==0)=true then pure (BO (some (hiDone a b (out++(a.extract t na).reverse) t nb),t,nb,out++(a.extract t na).reverse,mg,na-t,bc))
   else hiMid a b mg (na-t) bc (out++(a.extract t na).reverse) t nb
  else hiMid a b mg (na-t) bc out na nb
 | _=>pure (BO (some (hiDone a b out na nb),na,nb,out,mg,ac,bc))
def IV:Array AE->Array AE->StateT Bz Sem (Array AE):=sortPriv% PySem.Builtin.mergeHi
theorem Vf(a b:Array AE):IV a b=(do
 rule "list.sort.merge-hi"
 let total:=a.size+b.size
 let done (out:Array AE) (na nb:Nat):=a.extract 0 na++b.extract 0 nb++out.reverse
 let firstOfB (out:Array AE) (na nb:Nat):=b.extract 0 nb++a.extract 0 na++out.reverse
 let mut na:=a.size-1
 let mut nb:=b.size
 let mut out:Array AE:=#[<- DD a na]
 if na==0 then return done out na nb
 if nb==1 then return firstOfB out na nb
 let mut minGallop:=QU (<- get)
 for _ in [0:total] do
  let mut acount:=0
  let mut bcount:=0
  for _ in [0:total] do
   let some aWins <- lt' (<- DD b (nb-1)) (<- DD a (na-1)) | return done out na nb
   if aWins then
    na:=na-1;out:=out.push (<- DD a na);acount:=acount+1;bcount:=0
    if na==0 then return done out na nb
    if acount >= minGallop then break
   else
    nb:=nb-1;out:=out.push (<- DD b nb);bcount:=bcount+1;acount:=0
    if nb==1 then return firstOfB out na nb
    if bcount >= minGallop then break
  rule "list.sort.gallop"
  minGallop:=minGallop+1
  for _ in [0:total] do
   if minGallop>1 then minGallop:=minGallop-1
   Df minGallop
   let some at_ <- Cu false (<- DD b (nb-1)) a 0 na (na-1) | return done out na nb
   let k:=na-at_
   acount:=k
   if k>0 then
    out:=out++(a.extract at_ na).reverse;na:=at_
    if na==0 then return done out na nb
   nb:=nb-1;out:=out.push (<- DD b nb)
   if nb==1 then return firstOfB out na nb
   let some at_ <- Cu true (<- DD a (na-1)) b 0 nb (nb-1) | return done out na nb
   let k:=nb-at_
   bcount:=k
   if k>0 then
    out:=out++(b.extract at_ nb).reverse;nb:=at_
    if nb==1 then return firstOfB out na nb
    if nb==0 then return done out na nb
   na:=na-1;out:=out.push (<- DD a na)
   if na==0 then return done out na nb
   if acount<7&&bcount<7 then break
  minGallop:=minGallop+1
  Df minGallop
 unsupported "internal:list.sort.merge-bound"):=rfl
theorem Rj(a b:Array AE):IV a b=(do
 liftM (rule "list.sort.merge-hi")
 let x <- DD a (a.size-1)
 if (a.size-1==0)=true then pure (hiDone a b #[x] (a.size-1) b.size)
 else if (b.size==1)=true then pure (Gn a b #[x] (a.size-1) b.size)
 else do
  let g <- get
  let r <- forIn [0:a.size+b.size] ((none,a.size-1,b.size,#[x],QU g):T0) λ_ r0=>do
   let r1 <- forIn [0:a.size+b.size] ((none,r0.snd.fst,r0.snd.snd.fst,r0.snd.snd.snd.fst,0,0):T1) λ_ r=>hiOne a b r0.snd.snd.snd.snd r
   match r1.fst with
   | some x=>pure (BO ((some x,r1.snd.fst,r1.snd.snd.fst,r1.snd.snd.snd.fst,r0.snd.snd.snd.snd):T0))
   | none=>do
    liftM (rule "list.sort.gallop")
    let r2 <- forIn [0:a.size+b.size] ((none,r1.snd.fst,r1.snd.snd.fst,r1.snd.snd.snd.fst,r0.snd.snd.snd.snd+1,r1.snd.snd.snd.snd.fst,r1.snd.snd.snd.snd.snd):T2) λ_ r =>
     if r.snd.snd.snd.snd.fst>1 then hiGal a b (r.snd.snd.snd.snd.fst-1) r.snd.snd.snd.snd.snd.fst r.snd.snd.snd.snd.snd.snd r.snd.snd.snd.fst r.snd.fst r.snd.snd.fst
     else hiGal a b r.snd.snd.snd.snd.fst r.snd.snd.snd.snd.snd.fst r.snd.snd.snd.snd.snd.snd r.snd.snd.snd.fst r.snd.fst r.snd.snd.fst
    match r2.fst with
    | some x=>pure (BO ((some x,r2.snd.fst,r2.snd.snd.fst,r2.snd.snd.snd.fst,r2.snd.snd.snd.snd.fst):T0))
    | none=>do
     Df (r2.snd.snd.snd.snd.fst+1)
     pure (C3 ((none,r2.snd.fst,r2.snd.snd.fst,r2.snd.snd.snd.fst,r2.snd.snd.snd.snd.fst+1):T0))
  match r.fst with
  | some x=>pure x
  | none=>unsupported "internal:list.sort.merge-bound"):=by
 rw[Vf];dsimp only
 congr 1
 funext _
 congr 1
 funext y
 refine ifc rfl (ifc rfl ?_)
 congr 1
 funext g
 congr 1
 ·congr 1
  funext x r0
  congr 1
  funext r1
  obtain ⟨o1,r1⟩:=r1;cases o1 with
  | some x=>rfl
  | none =>
   dsimp only
   congr 1
   funext u
   congr 1
   funext r2
   obtain ⟨o2,r2⟩:=r2;cases o2<;>rfl
 ·funext r
  obtain ⟨o,r⟩:=r;cases o<;>rfl
variable{rk:AE->Int}{prog:AM}{w:AT}{A:BQ}{E:Ap->AA->Prop}{s:AA}{G:AE->Prop}{κ:FE}{a₀:Array AE}
abbrev nk(rk:AE->Int):AE->Int:=λx=>- rk x
theorem VG{a b l q:List AE}(m:Mg (nk rk) b.reverse a.reverse l)(e:q=l.reverse):Mg rk a b q:=by
 obtain ⟨p,sr⟩:=m;subst e;refine ⟨(NN l).trans (p.trans ?_),?_⟩
 ·exact (((NN b).append (NN a))).trans Hc
 ·exact P6.mpr (sr.imp λ{x y} h=>by
   have:- rk x<=- rk y:=h;lia)
theorem Dg{a:Array AE}{n:Nat}(h:n<=a.size):a.toList.reverse.drop (a.size-n)=(a.toList.take n).reverse:=by
 rw[List.drop_reverse]
 congr 2
 simp;lia
section
variable{a b:Array AE}{st:Bz}
def HAt(rk:AE->Int)(a b out:Array AE)(na nb:Nat):Prop:=MI (nk rk) b.toList.reverse a.toList.reverse out.toList (b.size-nb) (a.size-na)/\na<=a.size/\nb<=b.size
structure Hi(G:AE->Prop)(rk:AE->Int)(a b:Array AE):Prop where
 ga:Al G a
 gb:Al G b
 sa:Srt rk a.toList
 sb:Srt rk b.toList
 hf:∀j,∀hj:j<a.size,∀h0:0<b.size,rk b[0]<=rk a[j]
theorem Fq{l:List AE}(h:Srt rk l):Srt (nk rk) l.reverse:=P6.mpr (h.imp λ{x y} h=>by show-rk y<=- rk x;lia)
theorem Es{a:Array AE}{n:Nat}{z:AE}(hn:n<=a.size)(h:z∈a.toList.reverse.drop (a.size-n)):∃j,j<n/\∃hj:j<a.size,z=a[j]:=by
 rw[Dg hn] at h;have h':=IB.mp h;obtain ⟨k,hk,e⟩:=CL.mp h';rw[Cc] at hk;have:a.toList.length=a.size:=by simp
 refine ⟨k,by lia,by lia,?_⟩;rw[<- e,JI];simp
theorem rtake{a:Array AE}{n t:Nat}(hn:n<=a.size)(ht:t<=n):(a.toList.reverse.drop (a.size-n)).take (n-t)=((a.toList.drop t).take (n-t)).reverse:=by
 rw[Dg hn,List.take_reverse]
 congr 1
 have:a.toList.length=a.size:=by simp
 rw[Cc,show min n a.toList.length-(n-t)=t by lia,List.drop_take]
theorem Rz{out a:Array AE}{n t:Nat}(hn:n<=a.size)(ht:t<=n):(out++(a.extract t n).reverse).toList=out.toList++(a.toList.reverse.drop (a.size-n)).take (n-t):=by
 rw[rtake hn ht,Do,Kj,F4]
theorem Ms{out a:Array AE}{n:Nat}(h1:1<=n)(hn:n<=a.size):(out.push (a[n-1]'(by lia))).toList=out.toList++(a.toList.reverse.drop (a.size-n)).take 1:=by
 have:=rtake (a:=a) (n:=n) (t:=n-1) hn (by lia);rw[show n-(n-1)=1 by lia] at this;rw[this,JJ]
 congr 1
 have hl:n-1<a.toList.length:=by simp;lia
 rw[N1 hl,MH,P5];simp
theorem Hi.stepA(L:Hi G rk a b){out:Array AE}{na nb:Nat}(m:HAt rk a b out na nb)(h1:1<=na)(h:∀j,j<nb->∀hj:j<b.size,rk b[j]<=rk (a[na-1]'(by have:=m.2.1;lia))):HAt rk a b (out.push (a[na-1]'(by have:=m.2.1;lia))) (na-1) nb:=by
 obtain ⟨mi,ha,hb⟩:=m;refine ⟨?_,by lia,hb⟩;rw[Ms h1 ha,show a.size-(na-1)=a.size-na+1 by lia];refine mi.takeB (Fq L.sa) 1 λy hy z hz=>?_;rw[show (1:Nat)=na-(na-1) by lia,rtake ha (by lia)] at hy;obtain ⟨j,j1,j2,hj,rfl⟩:=CV (IB.mp hy);have:j=na-1:=by lia
 subst this;obtain ⟨i,i1,hi,rfl⟩:=Es hb hz;have:=h i i1 hi;show-_<=- _;lia
theorem Hi.stepB(L:Hi G rk a b){out:Array AE}{na nb:Nat}(m:HAt rk a b out na nb)(h1:1<=nb)(h:∀j,j<na->∀hj:j<a.size,rk a[j]<=rk (b[nb-1]'(by have:=m.2.2;lia))):HAt rk a b (out.push (b[nb-1]'(by have:=m.2.2;lia))) na (nb-1):=by
 obtain ⟨mi,ha,hb⟩:=m;refine ⟨?_,ha,by lia⟩;rw[Ms h1 hb,show b.size-(nb-1)=b.size-nb+1 by lia];refine mi.takeA (Fq L.sb) 1 λy hy z hz=>?_;rw[show (1:Nat)=nb-(nb-1) by lia,rtake hb (by lia)] at hy;obtain ⟨j,j1,j2,hj,rfl⟩:=CV (IB.mp hy);have:j=nb-1:=by lia
 subst this;obtain ⟨i,i1,hi,rfl⟩:=Es ha hz;have:=h i i1 hi;show-_<=- _;lia
theorem Hi.manyA(L:Hi G rk a b){out:Array AE}{na nb t:Nat}(m:HAt rk a b out na nb)(ht:t<=na)(h:∀i,t<=i->i<na->∀hi:i<a.size,∀j,j<nb->∀hj:j<b.size,rk b[j]<=rk a[i]):HAt rk a b (out++(a.extract t na).reverse) t nb:=by
 obtain ⟨mi,ha,hb⟩:=m;refine ⟨?_,by lia,hb⟩;rw[Rz ha ht,show a.size-t=a.size-na+(na-t) by lia];refine mi.takeB (Fq L.sa) _ λy hy z hz=>?_;rw[rtake ha ht] at hy;obtain ⟨i,i1,i2,hi,rfl⟩:=CV (IB.mp hy);obtain ⟨j,j1,hj,rfl⟩:=Es hb hz;have:=h i i1 (by lia) hi j j1 hj;show-_<=- _;lia
theorem Hi.manyB(L:Hi G rk a b){out:Array AE}{na nb t:Nat}(m:HAt rk a b out na nb)(ht:t<=nb)(h:∀i,t<=i->i<nb->∀hi:i<b.size,∀j,j<na->∀hj:j<a.size,rk a[j]<=rk b[i]):HAt rk a b (out++(b.extract t nb).reverse) na t:=by
 obtain ⟨mi,ha,hb⟩:=m;refine ⟨?_,ha,by lia⟩;rw[Rz hb ht,show b.size-t=b.size-nb+(nb-t) by lia];refine mi.takeA (Fq L.sb) _ λy hy z hz=>?_;rw[rtake hb ht] at hy;obtain ⟨i,i1,i2,hi,rfl⟩:=CV (IB.mp hy);obtain ⟨j,j1,hj,rfl⟩:=Es ha hz;have:=h i i1 (by lia) hi j j1 hj;show-_<=- _;lia
theorem Gk(a:Array AE)(n:Nat):(a.extract 0 n).toList=a.toList.take n:=by
 rw[F4];simp[Sr]
theorem Hi.doneA(L:Hi G rk a b){out:Array AE}{na nb:Nat}(m:HAt rk a b out na nb)(z:na=0):Mg rk a.toList b.toList (hiDone a b out na nb).toList:=by
 subst z;obtain ⟨mi,ha,hb⟩:=m;refine VG (mi.doneB (Fq L.sb) (by simp)) ?_;rw[Dg hb,Dg ha];unfold hiDone;rw[Do,Do,Kj,Gk,Gk,GN,GN,F5,F5,C0]
theorem Hi.doneB(L:Hi G rk a b){out:Array AE}{na nb:Nat}(m:HAt rk a b out na nb)(z:nb=0):Mg rk a.toList b.toList (hiDone a b out na nb).toList:=by
 subst z;obtain ⟨mi,ha,hb⟩:=m;refine VG (mi.doneA (Fq L.sa) (by simp)) ?_;rw[Dg hb,Dg ha];unfold hiDone;rw[Do,Do,Kj,Gk,Gk,GN,GN,F5,F5,C0]
theorem Hi.first(L:Hi G rk a b){out:Array AE}{na nb:Nat}(m:HAt rk a b out na nb)(z:nb=1):Mg rk a.toList b.toList (Gn a b out na nb).toList:=by
 subst z;obtain ⟨mi,ha,hb⟩:=m;refine VG (mi.last (Fq L.sa) (by simp;lia) λy hy z hz=>?_) ?_
 ·obtain ⟨j,j1,hj,rfl⟩:=Es hb hz
  have:j=0:=by lia
  subst this;obtain ⟨i,hi,rfl⟩:=CL.mp (IB.mp hy);have hi':i<a.size:=by simpa using hi
  have:=L.hf i hi' hj;show-rk _<=- rk _;simp;lia
 ·rw[Dg hb,Dg ha]
  unfold Gn;rw[Do,Do,Kj,Gk,Gk,GN,GN,F5,F5,C0]
def F1(rk:AE->Int)(a b:Array AE)(st:Bz)(m:Nat)(r:T1)(st':Bz):Prop:=Gx st st'/\((∃x y,r=(some x,y)/\Mg rk a.toList b.toList x.toList)\/∃out na nb ac bc,r=(none,na,nb,out,ac,bc)/\HAt rk a b out na nb/\1<=na/\2<=nb/\na+nb+m<=a.size+b.size)
def F2(rk:AE->Int)(a b:Array AE)(st:Bz)(m:Nat)(r:T2)(st':Bz):Prop:=Gx st st'/\((∃x y,r=(some x,y)/\Mg rk a.toList b.toList x.toList)\/∃out na nb mg ac bc,r=(none,na,nb,out,mg,ac,bc)/\HAt rk a b out na nb/\1<=na/\2<=nb/\na+nb+m<=a.size+b.size)
def Z1(rk:AE->Int)(a b:Array AE)(st:Bz)(m:Nat)(r:T1)(st':Bz):Prop:=Gx st st'/\∃out na nb ac bc,r=(none,na,nb,out,ac,bc)/\HAt rk a b out na nb/\1<=na/\2<=nb/\na+nb+m<=a.size+b.size
def Z2(rk:AE->Int)(a b:Array AE)(st:Bz)(m:Nat)(r:T2)(st':Bz):Prop:=Gx st st'/\∃out na nb mg ac bc,r=(none,na,nb,out,mg,ac,bc)/\HAt rk a b out na nb/\1<=na/\2<=nb/\na+nb+m<=a.size+b.size
theorem Xr(C:Cmp prog w A E s κ G rk)(L:Hi G rk a b){mg m na nb ac bc:Nat}{out:Array AE}{st0:Bz}(kd:kindOf st0=κ)(g:Gx st0 st)(at_:HAt rk a b out na nb)(n1:1<=na)(n2:2<=nb)(hm:na+nb+m<=a.size+b.size) :
  wpS (AL prog w) A E s (hiOne a b mg (none,na,nb,out,ac,bc)) (λr st'=>match r with | .done c'=>F1 rk a b st0 (m+1) c' st' | .yield c'=>Z1 rk a b st0 (m+1) c' st') st:=by
 obtain ⟨_,ha,hb⟩:=id at_;have la:na-1<a.size:=by lia
 have lb:nb-1<b.size:=by lia
 unfold hiOne;dsimp only;refine AR (Bg lb (AR (Bg la (AR (C _ _ (L.gb.at lb) (L.ga.at la) st _ (g.kind.trans kd) ?_)))));by_cases c:rk b[nb-1]<rk a[na-1]
 ·rw[decide_eq_true c]
  dsimp only;rw[if_pos rfl];refine AR (Bg la ?_);have mi':=L.stepA at_ n1 λj j1 hj=>EL (El L.sb (show j<=nb-1 by lia) lb) (F3 c);by_cases c1:na-1=0
  ·rw[if_pos (by rw[c1];rfl)]
   exact AW ⟨g,.inl ⟨_,_,rfl,L.doneA mi' c1⟩⟩
  ·rw[if_neg (by intro z;exact c1 (beq_iff_eq.mp z))]
   by_cases c2:ac+1 >= mg
   ·rw[if_pos c2]
    exact AW ⟨g,.inr ⟨_,_,_,_,_,rfl,mi',by lia,n2,by lia⟩⟩
   ·rw[if_neg c2]
    exact AW ⟨g,_,_,_,_,_,rfl,mi',by lia,n2,by lia⟩
 ·rw[decide_eq_false c]
  dsimp only;rw[if_neg (by decide)];refine AR (Bg lb ?_);have mi':=L.stepB at_ (by lia) λj j1 hj=>EL (El L.sa (show j<=na-1 by lia) la) (IP.mp c);by_cases c1:nb-1=1
  ·rw[if_pos (by rw[c1];rfl)]
   exact AW ⟨g,.inl ⟨_,_,rfl,L.first mi' c1⟩⟩
  ·rw[if_neg (by intro z;exact c1 (beq_iff_eq.mp z))]
   by_cases c2:bc+1 >= mg
   ·rw[if_pos c2]
    exact AW ⟨g,.inr ⟨_,_,_,_,_,rfl,mi',n1,by lia,by lia⟩⟩
   ·rw[if_neg c2]
    exact AW ⟨g,_,_,_,_,_,rfl,mi',n1,by lia,by lia⟩
theorem Oe(L:Hi G rk a b){mg m na nb ac bc:Nat}{out:Array AE}{st0:Bz}(g:Gx st0 st)(at_:HAt rk a b out na nb)(n1:1<=na)(n2:2<=nb)(h:∀j,j<nb->∀hj:j<b.size,rk b[j]<=rk (a[na-1]'(by have:=at_.2.1;lia)))(hm:na+nb+m<=a.size+b.size) :
  wpS (AL prog w) A E s (hiEnd a b mg ac bc out na nb) (λr st'=>match r with | .done c'=>F2 rk a b st0 m c' st' | .yield c'=>Z2 rk a b st0 m c' st') st:=by
 obtain ⟨_,ha,hb⟩:=id at_;have la:na-1<a.size:=by lia
 unfold hiEnd;refine AR (Bg la ?_);have mi':=L.stepA at_ n1 h;by_cases c1:na-1=0
 ·rw[if_pos (by rw[c1];rfl)]
  exact AW ⟨g,.inl ⟨_,_,rfl,L.doneA mi' c1⟩⟩
 ·rw[if_neg (by intro z;exact c1 (beq_iff_eq.mp z))]
  by_cases c2:(decide (ac<7)&&decide (bc<7))=true
  ·rw[if_pos c2]
   exact AW ⟨g,.inr ⟨_,_,_,_,_,_,rfl,mi',by lia,n2,by lia⟩⟩
  ·rw[if_neg c2]
   exact AW ⟨g,_,_,_,_,_,_,rfl,mi',by lia,n2,by lia⟩
theorem Ny(C:Cmp prog w A E s κ G rk)(L:Hi G rk a b){mg m k bc na nb:Nat}{out:Array AE}{st0:Bz}(kd:kindOf st0=κ)(g:Gx st0 st)(at_:HAt rk a b out na nb)(n1:1<=na)(n2:2<=nb)(h:∀j,j<na->∀hj:j<a.size,rk a[j]<=rk (b[nb-1]'(by have:=at_.2.2;lia)))(hm:na+nb+m<=a.size+b.size) :
  wpS (AL prog w) A E s (hiMid a b mg k bc out na nb) (λr st'=>match r with | .done c'=>F2 rk a b st0 m c' st' | .yield c'=>Z2 rk a b st0 m c' st') st:=by
 obtain ⟨_,ha,hb⟩:=id at_;have la:na-1<a.size:=by lia
 have lb:nb-1<b.size:=by lia
 unfold hiMid;refine AR (Bg lb ?_);have mi':=L.stepB at_ (by lia) h;by_cases c1:nb-1=1
 ·rw[if_pos (by rw[c1];rfl)]
  exact AW ⟨g,.inl ⟨_,_,rfl,L.first mi' c1⟩⟩
 ·rw[if_neg (by intro z;exact c1 (beq_iff_eq.mp z))]
  refine AR (Bg la ?_);refine AR (DR C (L.ga.at la) L.gb (g.kind.trans kd) (by lia) (by lia) (FN (Qe L.sb (by lia))) λt kn kt kf=>?_);dsimp only;have t1:∀i,i<t->∀hi:i<b.size,rk b[i]<rk a[na-1]:=λi i1 hi=>by
   have z:=kt i i1;rw[Er (by lia)] at z;simp only[Mo] at z;exact of_decide_eq_true z
  have t2:∀j,t<=j->j<nb-1->∀hj:j<b.size,rk a[na-1]<=rk b[j]:=λi i1 i2 hi=>by
   have z:=kf i i1 i2;rw[Er (by lia)] at z;simp only[Mo] at z;exact IP.mp (of_decide_eq_false z)
  by_cases c2:nb-1-t>0
  ·rw[if_pos c2]
   have mi2:=L.manyB (t:=t) mi' (by lia) λi i1 i2 hi j j1 hj=>EL (El L.sa (show j<=na-1 by lia) la) (t2 i i1 i2 hi);by_cases c3:t=1
   ·rw[if_pos (by rw[c3];rfl)]
    exact AW ⟨g,.inl ⟨_,_,rfl,L.first mi2 c3⟩⟩
   ·rw[if_neg (by intro z;exact c3 (beq_iff_eq.mp z))]
    by_cases c4:t=0
    ·rw[if_pos (by rw[c4];rfl)]
     exact AW ⟨g,.inl ⟨_,_,rfl,L.doneB mi2 c4⟩⟩
    ·rw[if_neg (by intro z;exact c4 (beq_iff_eq.mp z))]
     exact Oe L g mi2 n1 (by lia) (λj j1 hj=>F3 (t1 j j1 hj)) (by lia)
  ·rw[if_neg c2]
   exact Oe L g mi' n1 (by lia) (λj j1 hj=>F3 (t1 j (by lia) hj)) (by lia)
theorem Ob(C:Cmp prog w A E s κ G rk)(L:Hi G rk a b){mg m ac bc na nb:Nat}{out:Array AE}{st0:Bz}(kd:kindOf st0=κ)(g:Gx st0 st)(at_:HAt rk a b out na nb)(n1:1<=na)(n2:2<=nb)(hm:na+nb+m<=a.size+b.size) :
  wpS (AL prog w) A E s (hiGal a b mg ac bc out na nb) (λr st'=>match r with | .done c'=>F2 rk a b st0 m c' st' | .yield c'=>Z2 rk a b st0 m c' st') st:=by
 obtain ⟨_,ha,hb⟩:=id at_;have lb:nb-1<b.size:=by lia
 unfold hiGal;refine AR (setMin ?_);have g':=Qa g mg;generalize IQ (kindOf st) (AQ st) (BG st) mg (FO st)=st1 at g';refine AR (Bg lb ?_);refine AR (DR C (L.gb.at lb) L.ga (g'.kind.trans kd) (by lia) (by lia) (FN (Qe L.sa (by lia))) λt kn kt kf=>?_);dsimp only;have t1:∀i,i<t->∀hi:i<a.size,rk a[i]<=rk b[nb-1]:=λi i1 hi=>by
  have z:=kt i i1;rw[Dz (by lia)] at z;simp only[Mo] at z;refine IP.mp λy=>?_;rw[decide_eq_true y] at z;cases z
 have t2:∀j,t<=j->j<na->∀hj:j<a.size,rk b[nb-1]<=rk a[j]:=λi i1 i2 hi=>by
  have z:=kf i i1 i2;rw[Dz (by lia)] at z;simp only[Mo] at z;have z':decide (rk b[nb-1]<rk a[i])=true:=by
   cases q:decide (rk b[nb-1]<rk a[i]) with
   | true=>rfl
   | false=>rw[q] at z;cases z
  exact F3 (of_decide_eq_true z')
 by_cases c2:na-t>0
 ·rw[if_pos c2]
  have mi2:=L.manyA (t:=t) at_ kn λi i1 i2 hi j j1 hj=>EL (El L.sb (show j<=nb-1 by lia) lb) (t2 i i1 i2 hi);by_cases c3:t=0
  ·rw[if_pos (by rw[c3];rfl)]
   exact AW ⟨g',.inl ⟨_,_,rfl,L.doneA mi2 c3⟩⟩
  ·rw[if_neg (by intro z;exact c3 (beq_iff_eq.mp z))]
   exact Ny C L kd g' mi2 (by lia) n2 (λj j1 hj=>t1 j j1 hj) (by lia)
 ·rw[if_neg c2]
  exact Ny C L kd g' at_ n1 n2 (λj j1 hj=>t1 j (by lia) hj) hm
theorem Qo(C:Cmp prog w A E s κ G rk)(L:Hi G rk a b)(kd:kindOf st=κ)(a1:1<=a.size)(b1:1<=b.size)(hl:∀j,∀hj:j<b.size,rk b[j]<=rk (a[a.size-1]'(by lia))){Q:Array AE->Bz->Prop}(h:∀r st',Gx st st'->Mg rk a.toList b.toList r.toList->Q r st'):wpS (AL prog w) A E s (IV a b) Q st:=by
 rw[Rj];refine AR (MV (HL ⟨rfl,?_⟩));refine AR (Bg (by lia) ?_);have mi0:HAt rk a b #[] a.size b.size:=⟨by
  rw[Iy,Iy];exact ⟨Hc.trans Hc,K9,λx hx=>(by cases hx),λx hx=>(by cases hx)⟩,AF _,AF _⟩
 have mi:HAt rk a b #[a[a.size-1]] (a.size-1) b.size:=L.stepA mi0 a1 λj _ hj=>hl j hj;by_cases c1:a.size-1=0
 ·rw[if_pos (by rw[c1];rfl)]
  exact AW (h _ _ (Gx.refl _) (L.doneA mi c1))
 rw[if_neg (by intro z;exact c1 (beq_iff_eq.mp z))];by_cases c2:b.size=1
 ·rw[if_pos (by rw[c2];rfl)]
  exact AW (h _ _ (Gx.refl _) (L.first mi c2))
 rw[if_neg (by intro z;exact c2 (beq_iff_eq.mp z))];refine AR (J4 ?_);refine AR (EC (DL (I:=λx c st'=>Gx st st'/\∃out na nb mg,c=(none,na,nb,out,mg)/\HAt rk a b out na nb/\1<=na/\2<=nb/\na+nb+(x+1)<=a.size+b.size)
  (Q:=λc st'=>Gx st st'/\∃x y,c=(some x,y)/\Mg rk a.toList b.toList x.toList) ?_ ?_ ⟨Gx.refl _,_,_,_,_,rfl,mi,by lia,by lia,by lia⟩) ?_)
 ·rintro x c st' _ xn ⟨g,out,na,nb,mg,rfl,at_,n1,n2,xm⟩
  dsimp only;refine AR (EC (DL (I:=λy c st'=>Z1 rk a b st (x+1+y) c st') (Q:=F1 rk a b st (x+2)) ?_ ?_ ⟨g,_,_,_,_,_,rfl,at_,n1,n2,by lia⟩) ?_)
  ·rintro y c st2 _ yn ⟨g2,out2,na2,nb2,ac,bc,rfl,at2,m1,m2,hm⟩
   refine EC (Xr C L kd g2 at2 m1 m2 hm) λr st3 hr=>?_;cases r with
   | done c' =>
    obtain ⟨g3,q⟩:=hr;refine ⟨g3,q.imp id λ⟨o,i,j,k,l,e,a',b',c',d'⟩=>⟨o,i,j,k,l,e,a',b',c',by lia⟩⟩
   | yield c'=>exact hr
  ·rintro c st2 ⟨g2,out2,na2,nb2,ac,bc,rfl,at2,m1,m2,hm⟩
   exact ⟨g2,.inr ⟨_,_,_,_,_,rfl,at2,m1,m2,by lia⟩⟩
  ·rintro c st2 ⟨g2,⟨r,y,rfl,m⟩ | ⟨out2,na2,nb2,ac,bc,rfl,at2,m1,m2,hm⟩⟩
   ·exact AW ⟨g2,_,_,rfl,m⟩
   ·dsimp only
    refine AR (MV (HL ⟨rfl,?_⟩));refine AR (EC (DL (I:=λy c st'=>Z2 rk a b st (x+2) c st') (Q:=F2 rk a b st (x+2)) ?_ ?_ ⟨g2,_,_,_,_,_,_,rfl,at2,m1,m2,hm⟩) ?_)
    ·rintro y c st3 _ yn ⟨g3,out3,na3,nb3,mg3,ac3,bc3,rfl,at3,k1,k2,hm3⟩
     dsimp only;split
     ·exact EC (Ob C L kd g3 at3 k1 k2 hm3) λr st4 hr=>by cases r<;>exact hr
     ·exact EC (Ob C L kd g3 at3 k1 k2 hm3) λr st4 hr=>by cases r<;>exact hr
    ·rintro c st3 ⟨g3,out3,na3,nb3,mg3,ac3,bc3,rfl,at3,k1,k2,hm3⟩
     exact ⟨g3,.inr ⟨_,_,_,_,_,_,rfl,at3,k1,k2,hm3⟩⟩
    ·rintro c st3 ⟨g3,⟨r,y,rfl,m⟩ | ⟨out3,na3,nb3,mg3,ac3,bc3,rfl,at3,k1,k2,hm3⟩⟩
     ·exact AW ⟨g3,_,_,rfl,m⟩
     ·refine AR (setMin (AW ⟨Qa g3 _,_,_,_,_,rfl,at3,k1,k2,by lia⟩))
 ·rintro c st' ⟨g,out,na,nb,mg,rfl,at_,n1,n2,xm⟩
  lia
 ·rintro c st' ⟨g,x,y,rfl,m⟩
  exact AW (h _ _ g m)
end
variable{rk:AE->Int}{prog:AM}{w:AT}{A:BQ}{E:Ap->AA->Prop}{s:AA}{G:AE->Prop}{κ:FE}{a₀:Array AE}
def lay(arr:Array AE)(sa:Nat)(r:Array AE):Array AE:=r.toList.zipIdx.foldl (λa (p,j)=>a.setIfInBounds (sa+j) p) arr
theorem Sd(sa:Nat):∀(l:List AE) (k:Nat) (arr:Array AE),sa+k+l.length<=arr.size->∀q:Nat,
  ((l.zipIdx k).foldl (λa (x:AE×Nat)=>a.setIfInBounds (sa+x.2) x.1) arr).size=arr.size/\((l.zipIdx k).foldl (λa (x:AE×Nat)=>a.setIfInBounds (sa+x.2) x.1) arr)[q]?=if sa+k<=q/\q<sa+k+l.length then l[q-(sa+k)]? else arr[q]?
 | [],k,arr,h,q=>by
  refine ⟨rfl,?_⟩;rw[if_neg (by simp)];rfl
 | x::l,k,arr,h,q=>by
  rw[Dx] at h;rw[List.zipIdx_cons,L6];have ih:=Sd sa l (k+1) (arr.setIfInBounds (sa+k) x) (by rw[IA];lia) q;refine ⟨ih.1.trans IA,ih.2.trans ?_⟩;rw[Dx];by_cases c:sa+k<=q/\q<sa+k+(l.length+1)
  ·rw[if_pos c]
   by_cases d:q=sa+k
   ·subst d
    rw[if_neg (by lia),Array.getElem?_setIfInBounds_self_of_lt (by lia)];simp
   ·rw[if_pos (by lia),show q-(sa+k)=(q-(sa+(k+1)))+1 by lia,List.getElem?_cons_succ]
  ·rw[if_neg c,if_neg (by lia),Array.getElem?_setIfInBounds_ne (by lia)]
theorem QF{arr r:Array AE}{sa:Nat}(h:sa+r.size<=arr.size)(q:Nat):(lay arr sa r)[q]?=if sa<=q/\q<sa+r.size then r[q-sa]? else arr[q]?:=by
 have:=(Sd sa r.toList 0 arr (by simpa using h) q).2;unfold lay;simpa using this
theorem ZF{arr r:Array AE}{lo mid hi:Nat}(lm:lo<=mid)(mh:mid<=hi)(ha:hi<=arr.size)(p:r.toList.Perm ((arr.extract lo mid).toList++(arr.extract mid hi).toList)):(lay arr lo r).Perm arr:=by
 have rl:r.size=hi-lo:=by
  have:=p.length_eq;simp at this;lia
 have e:(lay arr lo r).toList=arr.toList.take lo++(r.toList++arr.toList.drop hi):=by
  apply F8;intro q;rw[B7,QF (by lia)];by_cases c:q<lo
  ·rw[if_neg (by lia),A2 (by simp;lia),KS c,B7]
  ·rw[Cs (by simp;lia)]
   have e1:(arr.toList.take lo).length=lo:=by simp;lia
   rw[e1];by_cases d:q<hi
   ·rw[if_pos (by lia),A2 (by simp;lia),B7]
   ·rw[if_neg (by lia),Cs (by simp;lia),Sl,AU,rl,B7]
    congr 1
    lia
 have e2:arr.toList=arr.toList.take lo++(((arr.extract lo mid).toList++(arr.extract mid hi).toList)++arr.toList.drop hi):=by
  have x1:(arr.extract lo mid).toList=(arr.toList.drop lo).take (mid-lo):=by rw[F4]
  have x2:(arr.extract mid hi).toList=(arr.toList.drop mid).take (hi-mid):=by rw[F4]
  rw[x1,x2,C0];have y2:(arr.toList.drop mid).take (hi-mid)++arr.toList.drop hi=arr.toList.drop mid:=by
   rw[show arr.toList.drop hi=(arr.toList.drop mid).drop (hi-mid) by rw[P4];congr 1;lia];exact FU ..
  rw[y2];have y1:(arr.toList.drop lo).take (mid-lo)++arr.toList.drop mid=arr.toList.drop lo:=by
   rw[show arr.toList.drop mid=(arr.toList.drop lo).drop (mid-lo) by rw[P4];congr 1;lia];exact FU ..
  rw[y1];exact (FU ..).symm
 refine Hk.mpr ?_;rw[e,e2];have e3:(U8 lo arr.toList++(((arr.extract lo mid).toList++(arr.extract mid hi).toList)++arr.toList.drop hi)).take lo=U8 lo arr.toList:=by rw[<- e2]
 have e4:(U8 lo arr.toList++(((arr.extract lo mid).toList++(arr.extract mid hi).toList)++arr.toList.drop hi)).drop hi=arr.toList.drop hi:=by rw[<- e2]
 first
  | exact FV _ (LI _ p)
  | (rw[e3,e4];exact FV _ (LI _ p))
theorem Fe{arr:Array AE}(h:Al G arr)(i j:Nat):Al G (arr.extract i j):=λk x e=>by
 rw[Array.getElem?_extract] at e;split at e
 ·exact h _ x e
 ·cases e
theorem srt_extract{arr:Array AE}{i j:Nat}(h:Up rk arr i j)(hj:j<=arr.size):Srt rk (arr.extract i j).toList:=by
 unfold Srt;rw[CO];intro p q hp hq pq;simp at hp hq;have:=h (i+p) (i+q) (by lia) (by lia) (by lia);rw[Fl (by lia),Fl (by lia)] at this;simpa using this
theorem Zu{arr:Array AE}{i j k:Nat}(h:k<(arr.extract i j).size):(arr.extract i j)[k]=arr[i+k]'(by simp at h;lia):=by simp
def Ch(rk:AE->Int)(arr:Array AE):List (Nat×Nat×Nat)->Nat->Nat->Prop
 | [],lo,hi=>lo=hi
 | (s,n,_)::rest,lo,hi=>s=lo/\1<=n/\Up rk arr lo (lo+n)/\Ch rk arr rest (lo+n) hi
theorem Ch.le{arr:Array AE}:∀{l:List (Nat×Nat×Nat)}{lo hi:Nat},Ch rk arr l lo hi->lo+l.length<=hi
 | [],lo,hi,h=>by have h':lo=hi:=h;simp;lia
 | (s,n,_)::rest,lo,hi,⟨_,h1,_,h⟩=>by have:=Ch.le h;simp;lia
theorem Up.congr{arr arr':Array AE}{lo hi:Nat}(h:Up rk arr lo hi)(e:∀i,lo<=i->i<hi->arr'[i]?=arr[i]?):Up rk arr' lo hi:=λi j li ij jh=>by
 rw[Ef (e i li (by lia)),Ef (e j (by lia) jh)];exact h i j li ij jh
theorem Ch.congr{arr arr':Array AE}:∀{l:List (Nat×Nat×Nat)}{lo hi:Nat},Ch rk arr l lo hi->(∀i,lo<=i->i<hi->arr'[i]?=arr[i]?)->Ch rk arr' l lo hi
 | [],lo,hi,h,_=>h
 | (s,n,_)::rest,lo,hi,⟨e1,h1,u,h⟩,e=>by
  have le:=Ch.le h;exact ⟨e1,h1,u.congr λi li il=>e i li (by lia),Ch.congr h λi li il=>e i (by lia) il⟩
theorem Ch.cut{arr:Array AE}:∀{l m:List (Nat×Nat×Nat)}{lo hi:Nat},Ch rk arr (l++m) lo hi↔∃mid,Ch rk arr l lo mid/\Ch rk arr m mid hi
 | [],m,lo,hi=>⟨λh=>⟨lo,rfl,h⟩,λ⟨mid,e,h⟩=>by have e':lo=mid:=e;rw[e'];exact h⟩
 | (s,n,x)::l,m,lo,hi=>⟨λ⟨e1,h1,u,h⟩=>by
   obtain ⟨mid,a,b⟩:=Ch.cut.mp h;exact ⟨mid,⟨e1,h1,u,a⟩,b⟩,λ⟨mid,⟨e1,h1,u,a⟩,b⟩=>⟨e1,h1,u,Ch.cut.mpr ⟨mid,a,b⟩⟩⟩
variable{rk:AE->Int}{prog:AM}{w:AT}{A:BQ}{E:Ap->AA->Prop}{s:AA}{G:AE->Prop}{κ:FE}{a₀:Array AE}
def Fz:Nat->StateT Bz Sem Bool:=sortPriv% PySem.Builtin.mergeAt
abbrev Dv(st:Bz)(p:Array (Nat×Nat×Nat)):Bz:=IQ (kindOf st) (AQ st) p (QU st) (FO st)
theorem Te(i:Nat):Fz i=(do
 let s <- get
 let (some (sa,na,power),some (sb,nb,_)):=((BG s)[i]?,(BG s)[i+1]?) | unsupported "internal:list.sort.pending"
 set (Dv s (((BG s).setIfInBounds i (sa,na+nb,power)).eraseIdxIfInBounds (i+1)))
 let some k <- Cu false (<- DD (AQ s) sb) (AQ s) sa na 0 | return false
 let (sa,na):=(sa+k,na-k)
 if na==0 then return true
 let some nb <- Cu true (<- DD (AQ s) (sa+na-1)) (AQ s) sb nb (nb-1) | return false
 if nb==0 then return true
 let x:=(AQ s).extract sa sb
 let y:=(AQ s).extract sb (sb+nb)
 let merged <- if na<=nb then Hs x y else IV x y
 modify λs=>So s (lay (AQ s) sa merged)
 return (FO (<- get)).isNone):=rfl
theorem ACW{σ:Type}{M:TH}{x:σ}{Q:PUnit->σ->Prop}{st:σ}(h:Q ⟨⟩ x):wpS M A E s (set x:StateT σ Sem PUnit) Q st:=by
 unfold wpS;rw[StateT.run_set];exact wpAny_pure ⟨rfl,h⟩
theorem RK(C:Cmp prog w A E s κ G rk){st:Bz}(B:Ba G rk κ a₀ st){i sa na pa sb nb pb:Nat}(hp1:(BG st)[i]?=some (sa,na,pa))(hp2:(BG st)[i+1]?=some (sb,nb,pb))(esb:sb=sa+na)(n1:1<=na)(n2:1<=nb)(hz:sb+nb<=a₀.size)(ua:Up rk (AQ st) sa (sa+na))(ub:Up rk (AQ st) sb (sb+nb)){Q:Bool->Bz->Prop}
  (h:∀st',Ba G rk κ a₀ st'->BG st'=((BG st).setIfInBounds i (sa,na+nb,pa)).eraseIdxIfInBounds (i+1)->(∀q,q<sa\/sb+nb<=q->(AQ st')[q]?=(AQ st)[q]?)->Up rk (AQ st') sa (sb+nb)->Q true st'):wpS (AL prog w) A E s (Fz i) Q st:=by
 have sz:=B.size;have al:=B.all.perm B.perm;rw[Te];refine AR (J4 ?_);rw[hp1,hp2];dsimp only;refine AR (ACW ?_);have B1:Ba G rk κ a₀ (Dv st (((BG st).setIfInBounds i (sa,na+nb,pa)).eraseIdxIfInBounds (i+1))):=⟨B.perm,B.kind,B.failed,B.all,B.di⟩;have hb:sb<(AQ st).size:=by lia
 refine AR (Bg hb ?_);refine AR (DR C (al.at hb) al B1.kind (by lia) (by lia) (FN ua) λk kn kt kf=>?_);dsimp only;have t1:∀q,sa<=q->q<sa+k->N rk (AQ st) q<=N rk (AQ st) sb:=λq q1 q2=>by
  have z:=kt (q-sa) (by lia);rw[Dz (by lia)] at z;have e:sa+(q-sa)=q:=by lia
  simp only[e] at z;rw[Fl (show q<(AQ st).size by lia),Fl hb];refine IP.mp λy=>?_;rw[decide_eq_true y] at z;cases z
 have t2:∀q,sa+k<=q->q<sa+na->N rk (AQ st) sb<N rk (AQ st) q:=λq q1 q2=>by
  have z:=kf (q-sa) (by lia) (by lia);rw[Dz (by lia)] at z;have e:sa+(q-sa)=q:=by lia
  simp only[e] at z;rw[Fl (show q<(AQ st).size by lia),Fl hb];cases c:decide (rk (AQ st)[sb]<rk ((AQ st)[q]'(by lia))) with
  | true=>exact of_decide_eq_true c
  | false=>rw[c] at z;cases z
 by_cases c1:na-k=0
 ·rw[if_pos (by rw[c1];rfl)]
  refine AW (h _ B1 rfl (λ_ _=>rfl) λp q sp pq qh=>?_);by_cases d:q<sa+na
  ·exact ua p q sp pq d
  ·by_cases d':p<sa+na
   ·exact EL (t1 p sp (by lia)) (ub sb q (AF _) (by lia) qh)
   ·exact ub p q (by lia) pq qh
 rw[if_neg (by intro z;exact c1 (beq_iff_eq.mp z))];have hl:sa+k+(na-k)-1<(AQ st).size:=by lia
 refine AR (Bg hl ?_);refine AR (DR C (al.at hl) al B1.kind (by lia) (by lia) (FN ub) λm mn mt mf=>?_);dsimp only;have el:sa+k+(na-k)-1=sb-1:=by lia
 have u1:∀q,sb<=q->q<sb+m->N rk (AQ st) q<N rk (AQ st) (sb-1):=λq q1 q2=>by
  have z:=mt (q-sb) (by lia);rw[Er (by lia)] at z;have e:sb+(q-sb)=q:=by lia
  simp only[e,el] at z;rw[Fl (show q<(AQ st).size by lia),Fl (show sb-1<(AQ st).size by lia)];exact of_decide_eq_true z
 have u2:∀q,sb+m<=q->q<sb+nb->N rk (AQ st) (sb-1)<=N rk (AQ st) q:=λq q1 q2=>by
  have z:=mf (q-sb) (by lia) (by lia);rw[Er (by lia)] at z;have e:sb+(q-sb)=q:=by lia
  simp only[e,el] at z;rw[Fl (show q<(AQ st).size by lia),Fl (show sb-1<(AQ st).size by lia)];exact IP.mp (of_decide_eq_false z)
 by_cases c2:m=0
 ·rw[if_pos (by rw[c2];rfl)]
  refine AW (h _ B1 rfl (λ_ _=>rfl) λp q sp pq qh=>?_);by_cases d:q<sa+na
  ·exact ua p q sp pq d
  ·by_cases d':p<sa+na
   ·exact EL (ua p (sb-1) sp (by lia) (by lia)) (u2 q (by lia) qh)
   ·exact ub p q (by lia) pq qh
 rw[if_neg (by intro z;exact c2 (beq_iff_eq.mp z))];have exs:((AQ st).extract (sa+k) sb).size=sb-(sa+k):=by simp;lia
 have eys:((AQ st).extract sb (sb+m)).size=m:=by simp;lia
 have sx:Srt rk ((AQ st).extract (sa+k) sb).toList:=srt_extract (λp q a b c=>ua p q (by lia) b (by lia)) (by lia);have sy:Srt rk ((AQ st).extract sb (sb+m)).toList:=srt_extract (λp q a b c=>ub p q a b (by lia)) (by lia);have atx:∀j,∀hj:j<((AQ st).extract (sa+k) sb).size,rk ((AQ st).extract (sa+k) sb)[j]=N rk (AQ st) (sa+k+j):=λj hj=>by
  rw[Zu hj,Fl (by lia)]
 have aty:∀j,∀hj:j<((AQ st).extract sb (sb+m)).size,rk ((AQ st).extract sb (sb+m))[j]=N rk (AQ st) (sb+j):=λj hj=>by
  rw[Zu hj,Fl (by lia)]
 have first:∀j,∀hj:j<((AQ st).extract (sa+k) sb).size,∀h0:0<((AQ st).extract sb (sb+m)).size,rk (((AQ st).extract sb (sb+m))[0]'h0)<=rk ((AQ st).extract (sa+k) sb)[j]:=λj hj h0=>by
  rw[atx j hj,aty 0 h0,Sk];exact F3 (t2 _ (by lia) (by lia))
 have lastx:∀j,∀hj:j<((AQ st).extract sb (sb+m)).size,rk ((AQ st).extract sb (sb+m))[j]<=N rk (AQ st) (sb-1):=λj hj=>by
  rw[aty j hj];exact F3 (u1 _ (by lia) (by lia))
 have fin:∀(r:Array AE) (st2:Bz),Gx (Dv st (((BG st).setIfInBounds i (sa,na+nb,pa)).eraseIdxIfInBounds (i+1))) st2->Mg rk ((AQ st).extract (sa+k) sb).toList ((AQ st).extract sb (sb+m)).toList r.toList ->
   wpS (AL prog w) A E s (do modify λs=>So s (lay (AQ s) (sa+k) r);let g <- get;pure (FO g).isNone) Q st2:=λr st2 g ⟨pm,sr⟩=>by
  have rs:r.size=sb+m-(sa+k):=by
   have:=pm.length_eq;simp at this;lia
  have ea:AQ st2=AQ st:=g.arr;have hs:sa+k+r.size<=(AQ st).size:=by lia
  refine AR (HP ?_);refine AR (J4 ?_);have ef:FO (So st2 (lay (AQ st2) (sa+k) r))=none:=g.failed.trans B.failed;rw[ef];have lp:=ZF (arr:=AQ st) (r:=r) (lo:=sa+k) (mid:=sb) (hi:=sb+m) (by lia) (by lia) (by lia) pm;have mem:∀j,∀hj:j<r.size,∃q,sa+k<=q/\q<sb+m/\rk r[j]=N rk (AQ st) q:=λj hj=>by
   have:r[j]∈r.toList:=OG hj;rcases Co.mp (pm.mem_iff.mp this) with z | z
   ·obtain ⟨q,hq,e⟩:=CL.mp z
    have hq':q<((AQ st).extract (sa+k) sb).size:=by rw[<- AU];exact hq
    exact ⟨sa+k+q,by lia,by lia,by rw[<- e,<- atx q hq'];simp⟩
   ·obtain ⟨q,hq,e⟩:=CL.mp z
    have hq':q<((AQ st).extract sb (sb+m)).size:=by rw[<- AU];exact hq
    exact ⟨sb+q,by lia,by lia,by rw[<- e,<- aty q hq'];simp⟩
  have laid:∀q,N rk (lay (AQ st) (sa+k) r) q=if c:sa+k<=q/\q<sa+k+r.size then rk (r[q-(sa+k)]'(by lia)) else N rk (AQ st) q:=λq=>by
   have e:=QF (arr:=AQ st) (r:=r) (sa:=sa+k) hs q;by_cases c:sa+k<=q/\q<sa+k+r.size
   ·rw[dif_pos c]
    rw[if_pos c] at e;unfold N;rw[e,Bn (by lia)]
   ·rw[dif_neg c]
    rw[if_neg c] at e;exact Ef e
  refine AW (h _ ⟨?_,g.kind.trans B.kind,ef,B.all,B.di⟩ g.pend (λq hq=>?_) ?_)
  ·show (lay (AQ st2) (sa+k) r).Perm a₀
   rw[ea];exact lp.trans B.perm
  ·show (lay (AQ st2) (sa+k) r)[q]?=_
   rw[ea,QF hs,if_neg (by lia)]
  ·show Up rk (lay (AQ st2) (sa+k) r) sa (sb+nb)
   rw[ea];intro p q sp pq qh;rw[laid p,laid q];by_cases cp:sa+k<=p/\p<sa+k+r.size
   ·rw[dif_pos cp]
    by_cases cq:sa+k<=q/\q<sa+k+r.size
    ·rw[dif_pos cq]
     exact El sr (by lia) (by lia)
    ·rw[dif_neg cq]
     obtain ⟨v,v1,v2,ev⟩:=mem (p-(sa+k)) (by lia);rw[ev];by_cases d:v<sb
     ·exact EL (ua v (sb-1) (by lia) (by lia) (by lia)) (u2 q (by lia) qh)
     ·exact ub v q (by lia) (by lia) qh
   ·rw[dif_neg cp]
    by_cases cq:sa+k<=q/\q<sa+k+r.size
    ·rw[dif_pos cq]
     obtain ⟨v,v1,v2,ev⟩:=mem (q-(sa+k)) (by lia);rw[ev];by_cases d:v<sb
     ·exact ua p v sp (by lia) (by lia)
     ·exact EL (t1 p sp (by lia)) (ub sb v (AF _) (by lia) (by lia))
    ·rw[dif_neg cq]
     by_cases d:q<sa+k
     ·exact ua p q sp pq (by lia)
     ·by_cases d2:p<sa+k
      ·exact EL (t1 p sp d2) (ub sb q (AF _) (by lia) qh)
      ·exact ub p q (by lia) pq qh
 by_cases c3:na-k<=m
 ·rw[if_pos c3]
  refine AR (Rx C ⟨Fe al _ _,Fe al _ _,sx,sy,λy hy z hz=>?_⟩ B1.kind (by lia) (by lia) (λj hj=>first j hj (by lia)) λr st2 g mg=>fin r st2 g mg);obtain ⟨j,j1,hj,rfl⟩:=Dh hz;obtain ⟨q,hq,e⟩:=CL.mp hy;have hq':q<((AQ st).extract sb (sb+m)).size:=by rw[<- AU];exact hq
  have e':y=((AQ st).extract sb (sb+m))[q]:=by rw[<- e];simp
  rw[e',atx j hj,show sa+k+j=sb-1 by lia];exact lastx q hq'
 ·rw[if_neg c3]
  refine AR (Qo C ⟨Fe al _ _,Fe al _ _,sx,sy,λj hj h0=>first j hj h0⟩ B1.kind (by lia) (by lia) (λj hj=>?_) λr st2 g mg=>fin r st2 g mg);rw[atx _ (by lia),show sa+k+(((AQ st).extract (sa+k) sb).size-1)=sb-1 by lia];exact lastx j hj
variable{rk:AE->Int}{prog:AM}{w:AT}{A:BQ}{E:Ap->AA->Prop}{s:AA}{G:AE->Prop}{κ:FE}{a₀:Array AE}
def Oz:Nat->Nat->Nat->Nat:=sortPriv% PySem.Builtin.minRun
def powerT:Nat->Nat->Nat->Nat->Nat:=sortPriv% PySem.Builtin.power
def Mu:StateT Bz Sem Unit:=sortPriv% PySem.Builtin.sortRuns
theorem PJ:Mu=(do
 let size:=(AQ (<- get)).size
 let minrun:=Oz size size 0
 let mut lo:=0
 for _ in [0:size] do
  if lo >= size then break
  let some found <- JM lo (size-lo) | return
  let mut n:=found
  if n<minrun then
   rule "list.sort.binary-insertion"
   let force:=min (size-lo) minrun
   if !(<- Lb lo force n) then return
   n:=force
  if let some (s1,n1,_):=(BG (<- get)).back? then
   let pw:=powerT size (2*s1+n1) (2*s1+n1+n1+n) size
   for _ in [0:size] do
    let p:=BG (<- get)
    let some (_,_,older):=(if p.size>1 then p[p.size-2]? else none) | break
    if older<=pw then break
    if !(<- Fz (p.size-2)) then return
   modify λs=>Dv s ((BG s).modify ((BG s).size-1) λ(st,len,_)=>(st,len,pw))
  modify λs=>Dv s ((BG s).push (lo,n,0))
  lo:=lo+n
 for _ in [0:size] do
  let p:=BG (<- get)
  if p.size<=1 then break
  let i:=p.size-2
  let before:=if i>0 then p[i-1]?.map (·.2.1) else none
  let i:=if before.any (· < (p[i+1]?.elim 0 (·.2.1))) then i-1 else i
  if !(<- Fz i) then return):=rfl
structure Rn(G:AE->Prop)(rk:AE->Int)(κ:FE)(a₀:Array AE)(lo:Nat)(st:Bz):Prop where
 ba:Ba G rk κ a₀ st
 ch:Ch rk (AQ st) (BG st).toList 0 lo
theorem Ku{α:Type}:∀{l:List α}{i:Nat}{x y:α},l[i]?=some x->l[i+1]?=some y->l=l.take i++x::y::l.drop (i+2)
 | a::b::l,0,x,y,h1,h2=>by
  simp at h1 h2;subst h1 h2;rfl
 | a::l,i+1,x,y,h1,h2=>by
  have:=Ku (l:=l) (i:=i) (x:=x) (y:=y) (by simpa using h1) (by simpa using h2);rw[MH,OB]
  congr 1
theorem YJ{p:Array (Nat×Nat×Nat)}{i:Nat}{x y v:Nat×Nat×Nat}(h1:p[i]?=some x)(h2:p[i+1]?=some y):((p.setIfInBounds i v).eraseIdxIfInBounds (i+1)).toList=p.toList.take i++v::p.toList.drop (i+2):=by
 have hi:i+1<p.size:=(Da.mp h2).1;have e:=Ku (l:=p.toList) (i:=i) (x:=x) (y:=y) (by rw[B7];exact h1) (by rw[B7];exact h2);have tl:(p.toList.take i).length=i:=by simp;lia
 have es:(p.setIfInBounds i v).toList=p.toList.take i++v::y::p.toList.drop (i+2):=by
  rw[Array.toList_setIfInBounds]
  conv=>lhs;rw[e]
  rw[List.set_append_right _ _ (by lia),tl,Iy];rfl
 have hz:i+1<(p.setIfInBounds i v).size:=by rw[IA];exact hi
 rw[Array.eraseIdxIfInBounds,dif_pos hz,Array.toList_eraseIdx,es,List.eraseIdx_append_of_length_le (by lia),tl]
 congr 1
 rw[show i+1-i=1 by lia];rfl
theorem Pg(C:Cmp prog w A E s κ G rk){st:Bz}{lo i:Nat}(R:Rn G rk κ a₀ lo st)(hl:lo<=a₀.size)(hi:i+1<(BG st).size){Q:Bool->Bz->Prop}
  (h:∀st',Rn G rk κ a₀ lo st'->(BG st').size+1=(BG st).size->(∀q,lo<=q->(AQ st')[q]?=(AQ st)[q]?)->Q true st'):wpS (AL prog w) A E s (Fz i) Q st:=by
 obtain ⟨sa,na,pa,e1⟩:∃sa na pa,(BG st)[i]?=some (sa,na,pa):=⟨_,_,_,Bn (by lia)⟩;obtain ⟨sb,nb,pb,e2⟩:∃sb nb pb,(BG st)[i+1]?=some (sb,nb,pb):=⟨_,_,_,Bn hi⟩;have e:=Ku (l:=(BG st).toList) (i:=i) (by rw[B7];exact e1) (by rw[B7];exact e2);have ch:=R.ch;rw[e] at ch;obtain ⟨mid,c1,rfl,n1,ua,rfl,n2,ub,c2⟩:=Ch.cut.mp ch;have le:=c2.le;have le1:=c1.le;have z2:sa+na+nb<=lo:=by lia
 refine RK C R.ba e1 e2 rfl n1 n2 (by lia) ua ub λst' B' pe low up=>?_;have pl:=YJ (v:=(sa,na+nb,pa)) e1 e2;refine h st' ⟨B',?_⟩ ?_ λq hq=>low q (.inr (by lia))
 ·rw[pe,pl]
  refine Ch.cut.mpr ⟨sa,c1.congr λq _ hq=>low q (.inl hq),rfl,by lia,?_,?_⟩
  ·rw[show sa+(na+nb)=sa+na+nb by lia]
   exact up
  ·rw[show sa+(na+nb)=sa+na+nb by lia]
   exact c2.congr λq hq _=>low q (.inr hq)
 ·have:=congrArg FK pl
  rw[<- pe] at this;simp at this;lia
theorem Ch.mod{arr:Array AE}{f:Nat×Nat×Nat->Nat×Nat×Nat}(hf:∀x,(f x).1=x.1/\(f x).2.1=x.2.1):∀{l:List (Nat×Nat×Nat)}{lo hi:Nat} (i:Nat),Ch rk arr l lo hi->Ch rk arr (l.modify i f) lo hi
 | [],lo,hi,i,h=>by rw[List.modify_nil];exact h
 | (a,n,p)::l,lo,hi,0,⟨e1,h1,u,h⟩=>by
  rw[List.modify_zero_cons];have:=hf (a,n,p);generalize f (a,n,p)=y at this;obtain ⟨y1,y2,y3⟩:=y;obtain ⟨z1,z2⟩:=this;dsimp only at z1 z2;subst z1 z2;exact ⟨e1,h1,u,h⟩
 | (a,n,p)::l,lo,hi,i+1,⟨e1,h1,u,h⟩=>by
  rw[List.modify_succ_cons];exact ⟨e1,h1,u,Ch.mod hf i h⟩
theorem ABj{c:Prop}{i:Decidable c}{a b m:Nat}(h1:a<=m)(h2:b<=m):(@ite Nat c i a b)<=m:=by
 split
 ·exact h1
 ·exact h2
theorem Ml(C:Cmp prog w A E s κ G rk){st:Bz}(B:Ba G rk κ a₀ st)(hp:BG st=#[]){Q:Unit->Bz->Prop}
  (h:∀st',Ba G rk κ a₀ st'->Up rk (AQ st') 0 a₀.size->Q () st'):wpS (AL prog w) A E s Mu Q st:=by
 rw[PJ];refine AR (J4 ?_);dsimp only;rw[B.size];refine AR (EC (DL (I:=λx c st'=>∃lo,c=(none,lo)/\x<=lo/\lo<=a₀.size/\Rn G rk κ a₀ lo st') (Q:=λc st'=>c=(none,a₀.size)/\Rn G rk κ a₀ a₀.size st') ?_ ?_ ⟨0,rfl,AF _,Bi _,B,by rw[hp];rfl⟩) ?_)
 ·rintro x c st1 _ xn ⟨lo,rfl,xl,ll,R⟩
  dsimp only;by_cases c1:lo >= a₀.size
  ·rw[if_pos c1]
   have:lo=a₀.size:=by lia
   subst this;exact AW ⟨rfl,R⟩
  rw[if_neg c1];refine AR (Mj C R.ba (by lia) (by lia) λn st2 n1 nn nx up=>?_);dsimp only;have R2:Rn G rk κ a₀ lo st2:=⟨R.ba.nx nx,by rw[nx.pend];exact R.ch.congr λi _ hi=>nx.low i hi⟩;by_cases c2:n<Oz a₀.size a₀.size 0
  ·rw[if_pos c2]
   refine AR (MV (HL ⟨rfl,?_⟩));obtain ⟨f,ef⟩:∃f,f=min (a₀.size-lo) (Oz a₀.size a₀.size 0):=⟨_,rfl⟩;rw[<- ef];refine AR (QM C R2.ba (n:=f) (by lia) (by lia) up λst3 nx3 up3=>?_);have R3:Rn G rk κ a₀ lo st3:=⟨R2.ba.nx nx3,by rw[nx3.pend];exact R2.ch.congr λi _ hi=>nx3.low i hi⟩;rw[if_neg (by decide)];refine AR (J4 ?_);have put:∀{st4:Bz},Rn G rk κ a₀ lo st4->(∀q,lo<=q->(AQ st4)[q]?=(AQ st3)[q]?)->Rn G rk κ a₀ (lo+f) (Dv st4 ((BG st4).push (lo,f,0))):=λ{st4} R4 e4=>⟨⟨R4.ba.perm,R4.ba.kind,R4.ba.failed,R4.ba.all,R4.ba.di⟩,by
    show Ch rk (AQ st4) ((BG st4).push (lo,f,0)).toList 0 (lo+f);rw[JJ];exact Ch.cut.mpr ⟨lo,R4.ch,rfl,by lia,up3.congr λq hq _=>e4 q hq,rfl⟩⟩
   cases hb:(BG st3).back? with
   | none =>
    dsimp only;exact AR (HP (AW ⟨lo+f,rfl,by lia,by lia,put R3 λ_ _=>rfl⟩))
   | some v =>
    obtain ⟨s1,m1,q1⟩:=v;dsimp only;refine AR (EC (DL (I:=λ_ c st4=>c=(none,())/\Rn G rk κ a₀ lo st4/\∀q,lo<=q->(AQ st4)[q]?=(AQ st3)[q]?) (Q:=λc st4=>c=(none,())/\Rn G rk κ a₀ lo st4/\∀q,lo<=q->(AQ st4)[q]?=(AQ st3)[q]?) ?_ (λ_ _ h=>h) ⟨rfl,R3,λ_ _=>rfl⟩) ?_)
    ·rintro y c st4 _ _ ⟨rfl,R4,e4⟩
     refine AR (J4 ?_);by_cases d1:(BG st4).size>1
     ·rw[if_pos d1,Bn (show (BG st4).size-2<(BG st4).size by lia)]
      dsimp only;split
      ·exact AW ⟨rfl,R4,e4⟩
      ·refine AR (Pg C R4 (by lia) (by lia) λst5 R5 _ e5=>?_)
       rw[if_neg (by decide)];exact AW ⟨rfl,R5,λq hq=>(e5 q hq).trans (e4 q hq)⟩
     ·rw[if_neg d1]
      exact AW ⟨rfl,R4,e4⟩
    ·rintro c st4 ⟨rfl,R4,e4⟩
     dsimp only;refine AR (HP (AR (HP (AW ⟨lo+f,rfl,by lia,by lia,?_⟩))));refine put (st4:=Dv st4 ((BG st4).modify ((BG st4).size-1) _)) ⟨⟨R4.ba.perm,R4.ba.kind,R4.ba.failed,R4.ba.all,R4.ba.di⟩,?_⟩ e4;show Ch rk (AQ st4) ((BG st4).modify ((BG st4).size-1) _).toList 0 lo;rw[Q8];refine Ch.mod (f:=_) ?_ _ R4.ch;exact λ_=>⟨rfl,rfl⟩
  ·rw[if_neg c2]
   refine AR (J4 ?_);have put:∀{st4:Bz},Rn G rk κ a₀ lo st4->(∀q,lo<=q->(AQ st4)[q]?=(AQ st2)[q]?)->Rn G rk κ a₀ (lo+n) (Dv st4 ((BG st4).push (lo,n,0))):=λ{st4} R4 e4=>⟨⟨R4.ba.perm,R4.ba.kind,R4.ba.failed,R4.ba.all,R4.ba.di⟩,by
    show Ch rk (AQ st4) ((BG st4).push (lo,n,0)).toList 0 (lo+n);rw[JJ];exact Ch.cut.mpr ⟨lo,R4.ch,rfl,by lia,up.congr λq hq _=>e4 q hq,rfl⟩⟩
   cases hb:(BG st2).back? with
   | none =>
    dsimp only;exact AR (HP (AW ⟨lo+n,rfl,by lia,by lia,put R2 λ_ _=>rfl⟩))
   | some v =>
    obtain ⟨s1,m1,q1⟩:=v;dsimp only;refine AR (EC (DL (I:=λ_ c st4=>c=(none,())/\Rn G rk κ a₀ lo st4/\∀q,lo<=q->(AQ st4)[q]?=(AQ st2)[q]?) (Q:=λc st4=>c=(none,())/\Rn G rk κ a₀ lo st4/\∀q,lo<=q->(AQ st4)[q]?=(AQ st2)[q]?) ?_ (λ_ _ h=>h) ⟨rfl,R2,λ_ _=>rfl⟩) ?_)
    ·rintro y c st4 _ _ ⟨rfl,R4,e4⟩
     refine AR (J4 ?_);by_cases d1:(BG st4).size>1
     ·rw[if_pos d1,Bn (show (BG st4).size-2<(BG st4).size by lia)]
      dsimp only;split
      ·exact AW ⟨rfl,R4,e4⟩
      ·refine AR (Pg C R4 (by lia) (by lia) λst5 R5 _ e5=>?_)
       rw[if_neg (by decide)];exact AW ⟨rfl,R5,λq hq=>(e5 q hq).trans (e4 q hq)⟩
     ·rw[if_neg d1]
      exact AW ⟨rfl,R4,e4⟩
    ·rintro c st4 ⟨rfl,R4,e4⟩
     dsimp only;refine AR (HP (AR (HP (AW ⟨lo+n,rfl,by lia,by lia,?_⟩))));refine put (st4:=Dv st4 ((BG st4).modify ((BG st4).size-1) _)) ⟨⟨R4.ba.perm,R4.ba.kind,R4.ba.failed,R4.ba.all,R4.ba.di⟩,?_⟩ e4;show Ch rk (AQ st4) ((BG st4).modify ((BG st4).size-1) _).toList 0 lo;rw[Q8];refine Ch.mod (f:=_) ?_ _ R4.ch;exact λ_=>⟨rfl,rfl⟩
 ·rintro c st' ⟨lo,rfl,xl,ll,R⟩
  have:lo=a₀.size:=by lia
  subst this;exact ⟨rfl,R⟩
 ·rintro c st' ⟨rfl,R⟩
  dsimp only;refine AR (EC (DL (I:=λx c st2=>c=(none,())/\Rn G rk κ a₀ a₀.size st2/\((BG st2).size<=1\/(BG st2).size+x<=a₀.size)) (Q:=λc st2=>c=(none,())/\Rn G rk κ a₀ a₀.size st2/\(BG st2).size<=1) ?_ ?_ ⟨rfl,R,.inr ?_⟩) ?_)
  ·rintro x c st2 _ xn ⟨rfl,R2,sz⟩
   refine AR (J4 ?_);by_cases d1:(BG st2).size<=1
   ·rw[if_pos d1]
    exact AW ⟨rfl,R2,d1⟩
   ·rw[if_neg d1]
    refine AR (Pg C R2 (AF _) ?_ λst3 R3 z3 _=>?_)
    ·exact G4 (Nat.add_le_add_right (ABj (m:=(BG st2).size-2) (by lia) (by lia)) 1) (by lia)
    ·rw[if_neg (by decide)]
     exact AW ⟨rfl,R3,by lia⟩
  ·rintro c st2 ⟨rfl,R2,sz⟩
   exact ⟨rfl,R2,by lia⟩
  ·have:=R.ch.le
   simp at this;lia
  ·rintro c st2 ⟨rfl,R2,sz⟩
   refine AW (h st2 R2.ba ?_);have ch:=R2.ch;cases e:(BG st2).toList with
   | nil =>
    rw[e] at ch;have z:0=a₀.size:=ch;intro i j _ _ hj;lia
   | cons v l =>
    rw[e] at ch;obtain ⟨v1,v2,v3⟩:=v;have ln:l=[]:=by
     have:=congrArg FK e;simp at this;exact Fs.mp (by lia)
    subst ln;obtain ⟨_,_,u,z⟩:=ch;have z':0+v2=a₀.size:=z;rw[<- z'];exact u
end TM
end
section
namespace SB
open PySem PySem.W PyProof.Rows
theorem Vc:∀{x y:List Int},HT.lexLt x y=true->HT.lexLt y x=false
 | [],[],h=>by cases h
 | [],_::_,_=>rfl
 | _::_,[],h=>by cases h
 | a::x,b::y,h=>by
  rw[HT.Bq] at h ⊢;by_cases c:a=b
  ·rw[if_pos c] at h
   rw[if_pos c.symm];exact Vc h
  ·rw[if_neg c] at h
   rw[if_neg (DM c)];have:=of_decide_eq_true h;exact decide_eq_false (by lia)
theorem Vb:∀{x y:List Int},x≠y->HT.lexLt x y=false->HT.lexLt y x=true
 | [],[],n,_=>absurd rfl n
 | [],_::_,_,h=>by cases h
 | _::_,[],_,_=>rfl
 | a::x,b::y,n,h=>by
  rw[HT.Bq] at h ⊢;by_cases c:a=b
  ·rw[if_pos c] at h
   rw[if_pos c.symm];exact Vb (λe=>n (by rw[c,e])) h
  ·rw[if_neg c] at h
   rw[if_neg (DM c)];have:=of_decide_eq_false h;exact decide_eq_true (by lia)
theorem Uh:∀{x y z:List Int},HT.lexLt x y=true->HT.lexLt y z=true->HT.lexLt x z=true
 | [],[],_,h,_=>by cases h
 | [],_::_,[],_,h=>by cases h
 | [],_::_,_::_,_,_=>rfl
 | _::_,[],_,h,_=>by cases h
 | _::_,_::_,[],_,h=>by cases h
 | a::x,b::y,c::z,h,k=>by
  rw[HT.Bq] at h k ⊢;by_cases ab:a=b
  ·rw[if_pos ab] at h
   by_cases bc:b=c
   ·rw[if_pos bc] at k
    rw[if_pos (ab.trans bc)];exact Uh h k
   ·rw[if_neg bc] at k
    rw[if_neg (λe=>bc (by lia))];have:=of_decide_eq_true k;exact decide_eq_true (by lia)
  ·rw[if_neg ab] at h
   have h':=of_decide_eq_true h;by_cases bc:b=c
   ·rw[if_pos bc] at k
    rw[if_neg (by lia)];exact decide_eq_true (by lia)
   ·rw[if_neg bc] at k
    have k':=of_decide_eq_true k;rw[if_neg (by lia)];exact decide_eq_true (by lia)
section
variable{prog:AM}{w:AT}{A:BQ}{E:Ap->AA->Prop}{s:AA}
theorem Zg{b fin:Bool}{Q:Bool->AA->Prop}{x y:List Int}{vs us:List Ap}(hx:ItemsAre (LM prog w) x vs):∀{y:List Int}{us:List Ap} (i:Nat),ItemsAre (LM prog w) y us->fin=decide (x.length<y.length)->Q (HT.lexLt x y) s->KatLex prog w A b fin Q (vs.zip us) i s:=by
 induction hx with
 | nil =>
  intro y us i hy hf q;cases hy with
  | nil=>rw[hf];exact q
  | cons h1 t=>rw[hf];exact q
 | @cons k v ks vs' hk ht ih =>
  intro y us i hy hf q;cases hy with
  | nil=>rw[hf];exact q
  | @cons k' v' ks' us' hk' ht' =>
   rw[HT.Bq] at q;refine kat_cons ((LM prog w).eqBool hk hk' ?_);by_cases c:k=k'
   ·rw[if_pos c] at q
    rw[decide_eq_true c];refine kat_yes (ih (i+1) ht' ?_ q);rw[hf];simp
   ·rw[if_neg c] at q
    rw[decide_eq_false c];refine kat_no ?_;obtain ⟨t1,rfl⟩:=JA hk;obtain ⟨t2,rfl⟩:=JA hk';cases (b&&i==0) with
    | true =>
     rw[<- keyLt'_oneType];exact kat_lt_int q
    | false=>exact kat_one _ _ (lt_int q)
theorem ADu{b:Bool}{x y:List Int}{a c:Addr}{Q:Bool->AA->Prop}(hx:IK prog w s.heap x a)(hy:IK prog w s.heap y c)(q:Q (HT.lexLt x y) s):wpAny (AL prog w) A (keyLt' (U4 b) (.ref a) (.ref c)) Q E s:=by
 obtain ⟨ox,xs,n,gx,cx,dx,ix⟩:=hx;obtain ⟨oy,ys,k,gy,cy,dy,iy⟩:=hy;refine kat_lt gx dx gy dy (Zg (x:=x) (y:=y) (us:=ys.toList) ix 0 iy ?_ q);have l1:=ix.length;have l2:=iy.length;rw[l1,l2,AU,AU]
end
structure Row(prog:AM)(w:AT)(h:Heap)(vs:List Ap)(ks:List (List Int×Addr)):Prop where
 vals:vs=ks.map λx=>AS x.2
 keys:∀x∈ks,IK prog w h x.1 x.2
 full:∀x∈ks,x.1≠[]
 nd:(ks.map (·.1)).Nodup
def ltK(ks:List (List Int×Addr))(i j:Nat):Bool:=HT.lexLt (ks.getD i ([],0)).1 (ks.getD j ([],0)).1
theorem Row.tot{prog:AM}{w:AT}{h:Heap}{vs:List Ap}{ks:List (List Int×Addr)}(R:Row prog w h vs ks):Tot ks.length (ltK ks):=by
 have ne:∀i j,i<ks.length->j<ks.length->i≠j->(ks.getD i ([],0)).1≠(ks.getD j ([],0)).1:=λi j hi hj hij e=>by
  have r:=CO.mp R.nd;have g1:(ks.getD i ([],0)).1=(ks.map (·.1))[i]'(by simpa using hi):=by simp[AC,hi]
  have g2:(ks.getD j ([],0)).1=(ks.map (·.1))[j]'(by simpa using hj):=by simp[AC,hj]
  rw[g1,g2] at e;rcases Nat.lt_or_gt_of_ne hij with c | c
  ·exact r i j _ _ c e
  ·exact r j i _ _ c e.symm
 exact ⟨λi j hi hj hij e=>Vb (ne i j hi hj hij) e,λi j _ _ e=>Vc e,λi j k _ _ _ e1 e2=>Uh e1 e2⟩
section
variable{prog:AM}{w:AT}{A:BQ}{E:Ap->AA->Prop}{s:AA}{vs:List Ap}{ks:List (List Int×Addr)}
theorem Row.tups{h:Heap}(R:Row prog w h vs ks):∃fs,KatTups h vs fs/\fs.length=vs.length/\∀v∈fs,∃n t,v=EV n t:=by
 obtain ⟨e,hk,hf,hn⟩:=R;clear hn;subst e
 induction ks with
 | nil=>exact ⟨[],trivial,rfl,λv hv=>by cases hv⟩
 | cons x r ih =>
  obtain ⟨fs,t,l,q⟩:=ih (λy hy=>hk y (AH _ hy)) (λy hy=>hf y (AH _ hy));obtain ⟨o,xs,n,gx,cx,dx,ix⟩:=hk x AG;have hx:=hf x AG;obtain ⟨xk,xa⟩:=x;cases hxs:xs.toList with
  | nil =>
   rw[hxs] at ix;cases ix;exact absurd rfl hx
  | cons f rest =>
   have hf0:xs[0]?=some f:=by rw[<- B7,hxs];rfl
   have hi:=QT ix f (by rw[hxs];exact AG);refine ⟨f::fs,KatTups.cons gx cx dx hf0 t,by simp[l],λv hv=>?_⟩;rcases AX.mp hv with rfl | hv
   ·exact hi
   ·exact q v hv
theorem row_kept{h h':Heap}(R:Row prog w h vs ks)(e:∀x∈ks,∀o,h.get? x.2=some o->h'.get? x.2=some o):Row prog w h' vs ks:=⟨R.vals,λx hx=>Gs (R.keys x hx) λo=>e x hx o,R.full,R.nd⟩
theorem perm_back{α β:Type}{f:α->β}{l m:List β}(p:l.Perm m):∀ks:List α,m=ks.map f->∃ks':List α,ks'.Perm ks/\l=ks'.map f:=by
 induction p with
 | nil =>
  intro ks e;cases ks with
  | nil=>exact ⟨[],.refl _,rfl⟩
  | cons _ _=>cases e
 | @cons x l1 l2 _ ih =>
  intro ks e;cases ks with
  | nil=>cases e
  | cons k r =>
   rw[B5] at e;obtain ⟨e1,e2⟩:=Q4 e;obtain ⟨r',p',e'⟩:=ih r e2;exact ⟨k::r',p'.cons k,by rw[B5,e1,e']⟩
 | swap x y l1 =>
  intro ks e
  match ks,e with
  | [],e=>cases e
  | [_],e=>simp at e
  | a::b::r,e =>
   rw[B5,B5] at e;obtain ⟨e1,e2⟩:=Q4 e;obtain ⟨e3,e4⟩:=Q4 e2;exact ⟨b::a::r,U3 ..,by rw[B5,B5,e1,e3,e4]⟩
 | trans _ _ ih1 ih2 =>
  intro ks e;obtain ⟨k2,p2,e2⟩:=ih2 ks e;obtain ⟨k1,p1,e1⟩:=ih1 k2 e2;exact ⟨k1,p1.trans p2,e1⟩
theorem Mx{ks:List Int}{us:List Ap}(h:ItemsAre (LM prog w) ks us):ks=us.map numOf:=by
 induction h with
 | nil=>rfl
 | cons h1 _ ih =>
  obtain ⟨t,e⟩:=JA h1;rw[B5,<- ih,e];rfl
theorem AFH{h:Heap}{k k':List Int}{a:Addr}(x:IK prog w h k a)(y:IK prog w h k' a):k=k':=by
 obtain ⟨o,items,n,ho,_,hd,hi⟩:=x;obtain ⟨o',items',n',ho',_,hd',hi'⟩:=y;rw[ho] at ho';cases ho';rw[hd] at hd';cases hd';rw[Mx hi,Mx hi']
set_option tactic.hygienic true in
theorem Jh{α:Type}{p q:α->Bool}:∀{l:List α}{x:α},(∀y∈l,p y=true->q y=true)->x∈l->p x=false->q x=true->(l.filter p).length<(l.filter q).length
 | [],x,_,h,_,_=>by cases h
 | a::l,x,hs,hx,px,qx=>by
  have le:∀{m:List α},(∀y∈m,p y=true->q y=true)->(m.filter p).length<=(m.filter q).length:=λ{m}=>by
   induction m with
   | nil=>exact λ_=>AF _
   | cons b m ih =>
    intro hm;have:=ih λy hy=>hm y (AH _ hy);rw[DV,DV];have hb:=hm b (AG ..);split
    ·rename_i pb
     rw[if_pos (hb pb)];simp;exact this
    ·split
     ·simp;lia
     ·exact this
  have hl:=le λy hy=>hs y (AH _ hy);rw[DV,DV];rcases AX.mp hx with rfl | hx
  ·rw[if_neg (by rw[px];decide),if_pos qx]
   simp;lia
  ·have ih:=Jh (λy hy=>hs y (AH _ hy)) hx px qx
   have ha:=hs a (AG ..);split
   ·rename_i pa
    rw[if_pos (ha pa)];simp;exact ih
   ·split
    ·simp;lia
    ·exact ih
def cntK(ks:List (List Int×Addr))(k:List Int):Int:=((ks.filter λy=>HT.lexLt y.1 k).length:Int)
open Classical in
noncomputable def rkK(ks:List (List Int×Addr))(x:AE):Int:=if h:∃i,i<ks.length/\x.1=AS (ks.getD i ([],0)).2 then cntK ks (ks.getD (Fa h) ([],0)).1 else 0
def itK(ks:List (List Int×Addr))(i:Nat):AE:=(AS (ks.getD i ([],0)).2,AS (ks.getD i ([],0)).2)
theorem Row.key{h:Heap}(R:Row prog w h vs ks){i:Nat}(hi:i<ks.length):IK prog w h (ks.getD i ([],0)).1 (ks.getD i ([],0)).2:=by
 have e:ks.getD i ([],0)=ks[i]:=by simp[AC,hi]
 rw[e];exact R.keys _ (Ix hi)
theorem Row.rk{h:Heap}(R:Row prog w h vs ks){i:Nat}(hi:i<ks.length):rkK ks (itK ks i)=cntK ks (ks.getD i ([],0)).1:=by
 have ex:∃j,j<ks.length/\(itK ks i).1=AS (ks.getD j ([],0)).2:=⟨i,hi,rfl⟩;unfold rkK;rw[dif_pos ex];obtain ⟨hj,ej⟩:=FS ex;have ea:(ks.getD i ([],0)).2=(ks.getD (Fa ex) ([],0)).2:=by
  have:AS (ks.getD i ([],0)).2=AS (ks.getD (Fa ex) ([],0)).2:=ej;injection this
 have k1:=R.key hi;have k2:=R.key hj;rw[<- ea] at k2;rw[AFH k1 k2]
theorem RB{a b:List Int}(ha:a∈ks.map (·.1))(h:HT.lexLt a b=true):cntK ks a<cntK ks b:=by
 obtain ⟨x,hx,rfl⟩:=B6.mp ha;unfold cntK;have:=Jh (p:=λy:List Int×Addr=>HT.lexLt y.1 x.1) (q:=λy=>HT.lexLt y.1 b) (l:=ks) (x:=x) (λy _ e=>Uh e h) hx (by
  cases c:HT.lexLt x.1 x.1 with
  | false=>rfl
  | true=>have:=Vc c;rw[c] at this;cases this) h
 lia
theorem Row.rk_lt{h:Heap}(R:Row prog w h vs ks){i j:Nat}(hi:i<ks.length)(hj:j<ks.length):decide (rkK ks (itK ks i)<rkK ks (itK ks j))=ltK ks i j:=by
 rw[R.rk hi,R.rk hj];have mk:∀{i:Nat},i<ks.length->(ks.getD i ([],0)).1∈ks.map (·.1):=λ{i} hi=>GH (by
  have e:ks.getD i ([],0)=ks[i]:=by simp[AC,hi]
  rw[e];exact Ix hi)
 unfold ltK;cases c:HT.lexLt (ks.getD i ([],0)).1 (ks.getD j ([],0)).1 with
 | true=>exact decide_eq_true (RB (mk hi) c)
 | false =>
  refine decide_eq_false ?_;by_cases e:(ks.getD i ([],0)).1=(ks.getD j ([],0)).1
  ·rw[e];exact Q5 _
  ·have:=RB (ks:=ks) (mk hj) (Vb e c)
   lia
theorem Zn{b:Bool}(R:Row prog w s.heap vs ks) :
  wpAny (AL prog w) A (sortRuns'.run (IQ (U4 b) (vs.toArray.zip vs.toArray) #[] 7 none)) (λr s'=>s'=s/\∃p:Array Nat,PP ks.length p/\Up (ltK ks) p ks.length/\AQ r.2=p.map (W9 (vs.toArray.zip vs.toArray))/\FO r.2=none) E s:=by
 have lk:ks.length=vs.length:=by rw[R.vals,AB]
 have T:=R.tot;have gi:∀i,i<ks.length->W9 (vs.toArray.zip vs.toArray) i=itK ks i:=λi hi=>by
  rw[kat_item rfl];unfold itK;rw[R.vals];simp[AC,hi]
 have e0:(vs.toArray.zip vs.toArray).toList=(AZ ks.length).map (itK ks):=by
  have:=congrArg RA (kas_range (vs.toArray.zip vs.toArray));rw[<- this,OH,show (vs.toArray.zip vs.toArray).size=ks.length by rw[lk];simp];exact KB λi hi=>gi i (BC.mp hi)
 have C:TM.Cmp prog w A E s (U4 b) (λx=>∃i,i<ks.length/\x=itK ks i) (rkK ks):=λx y ⟨i,hi,ex⟩ ⟨j,hj,ey⟩ st Q kd q=>by
  subst ex ey;rw[lt'_eq];refine AR (J4 ?_);rw[kd];refine AR (MV (NA (ADu (R.key hi) (R.key hj) ⟨rfl,?_⟩)));rw[R.rk_lt hi hj] at q;exact AW q
 have al:TM.Al (λx=>∃i,i<ks.length/\x=itK ks i) (vs.toArray.zip vs.toArray):=λi x e=>by
  rw[<- B7,e0,BM] at e;cases g:(AZ ks.length)[i]? with
  | none=>rw[g] at e;cases e
  | some k =>
   rw[g] at e;have hk:=BC.mp (BH g);exact ⟨k,hk,(BY e).symm⟩
 have di:TM.Di (rkK ks) (vs.toArray.zip vs.toArray):=by
  unfold TM.Di;rw[e0,J3];unfold QQ;rw[D2];refine Fc (λ{i j} hi hj ij e=>?_) G0;have hi':=BC.mp hi;have hj':=BC.mp hj;have e':rkK ks (itK ks i)=rkK ks (itK ks j):=e;have z1:=R.rk_lt hi' hj';have z2:=R.rk_lt hj' hi';rw[e',decide_eq_false (Q5 _)] at z1;rw[e',decide_eq_false (Q5 _)] at z2;have:=T.or i j hi' hj' ij z1.symm;rw[<- z2] at this;cases this
 have W:=TM.Ml C (st:=IQ (U4 b) (vs.toArray.zip vs.toArray) #[] 7 none) (a₀:=vs.toArray.zip vs.toArray) ⟨UI _,rfl,rfl,al,di⟩ rfl
  (Q:=λ_ st'=>∃p:Array Nat,PP ks.length p/\Up (ltK ks) p ks.length/\AQ st'=p.map (W9 (vs.toArray.zip vs.toArray))/\FO st'=none) λst' B up=>by
  have pm:=Hk.mp B.perm;rw[e0] at pm;obtain ⟨l,pl,el⟩:=perm_back pm (AZ ks.length) rfl;have ll:l.length=ks.length:=by rw[pl.length_eq,CS]
  have lt:∀{k:Nat},k<ks.length->g l.toArray k<ks.length/\l[k]?=some (g l.toArray k):=λ{k} hk=>by
   have hk':k<l.length:=by lia
   have e:g l.toArray k=l[k]:=by unfold g;simp[EA,hk']
   rw[e];exact ⟨BC.mp (pl.mem_iff.mp (Ix hk')),AK hk'⟩
  have nd:l.Nodup:=pl.nodup_iff.mpr G0;have at_:∀{k:Nat},k<ks.length->TM.N (rkK ks) (AQ st') k=rkK ks (itK ks (g l.toArray k)):=λ{k} hk=>by
   unfold TM.N;rw[<- B7,el,BM,(lt hk).2];rfl
  have sz:(vs.toArray.zip vs.toArray).size=ks.length:=by rw[lk];simp
  refine ⟨l.toArray,⟨by simpa using ll,λk hk=>(lt hk).1,λk k' hk hk' e=>?_⟩,λx y xy hy=>?_,?_,B.failed⟩
  ·have a1:=(lt hk).2
   have a2:=(lt hk').2;rw[<- e] at a2;exact (Lu (by lia) nd).mp (a1.trans a2.symm)
  ·have hx:x<ks.length:=by lia
   have u:=up x y (Bi _) (by lia) (by rw[sz];exact hy);rw[at_ hx,at_ hy] at u;cases c:ltK ks (g l.toArray x) (g l.toArray y) with
   | true=>rfl
   | false =>
    have ne:g l.toArray x≠g l.toArray y:=λe=>by
     have a1:=(lt hx).2;have a2:=(lt hy).2;rw[<- e] at a2;have:=(Lu (by lia) nd).mp (a1.trans a2.symm);lia
    have z:=T.or _ _ (lt hx).1 (lt hy).1 ne c;rw[<- R.rk_lt (lt hy).1 (lt hx).1] at z;have:=of_decide_eq_true z;lia
  ·apply TB.mp
   rw[el,OH];refine KB λi hi=>(gi i ?_).symm;exact BC.mp (pl.mem_iff.mp (by simpa using hi))
 exact Ee W (λr s' h=>h) λ_ _ e=>e
theorem Yj{a:Addr}{n:Nat}{P:PySem.Fin->AA->Prop}(ho:s.heap.get? a=some (EE "list" vs.toArray n))(R:Row prog w s.heap vs ks)(hz:vs.length<=1000)
  (h:∀p:Array Nat,PP ks.length p->Up (ltK ks) p ks.length->P (.done (.ret .none)) {s with heap:=sortedHeap s.heap a vs (K3 (p.toList.map λi=>vs.getD i C1))}) :
  wpAny (AL prog w) A (Builtin.«list.sort» ⟨[.ref a],[]⟩) P E s:=by
 have la:a<s.heap.objs.size:=AY ho;have lk:ks.length=vs.length:=by rw[R.vals,AB]
 rw[list_sort_plain];refine As (R6 ho rfl ?_);refine As (Nw ho rfl ?_);obtain ⟨e1,ho1⟩:∃e1,(s.heap.update a (EH λ_=>#[])).get? a=some (EE "list" #[] e1):=⟨_,get?_update_seq ho (λ_=>#[])⟩;refine As (S4 ho1 rfl ?_);refine As (wpAny_newTuple ?_);refine As (No ?_);refine EU ?_;have hoa:(((s.heap.update a (EH λ_=>#[])).push (EE "tuple" vs.toArray 0)).push (EE "list" #[] 0)).get? a=some (EE "list" #[] e1):=AD _ (AD _ ho1);show wpAny (AL prog w) A _ P E {s with heap:=((s.heap.update a (EH λ_=>#[])).push (EE "tuple" vs.toArray 0)).push (EE "list" #[] 0)};dsimp only;have vz:vs.toArray.size=vs.length:=by simp
 by_cases h2:vs.toArray.size<2
 ·rw[if_pos h2,if_pos h2]
  refine As (wpAny_pure ?_);rw[StateT.run_pure];refine As (wpAny_pure ?_);dsimp only;have out:((vs.toArray.zip vs.toArray).map (·.2))=K3 ((K3 (AZ ks.length)).toList.map λi=>vs.getD i C1):=by
   apply TB.mp;rw[OH,Array.toList_zip,List.map_snd_zip (by simp),lk];apply F8;intro i;by_cases c:i<vs.length
   ·simp[c]
   ·simp[c]
  refine As (S4 hoa rfl ?_);refine As (Nw hoa rfl ?_ (hsz2:=by rw[Array.size_map,Array.size_zip,vz,FX];lia));simp only[bne_self_eq_false,AV,if_false];refine wpAny_pure ?_;rw[show (AQ (IQ general' (vs.toArray.zip vs.toArray) #[] 7 none)).map (·.2)=_ from out];exact h _ (AAX _) λx y hxy hy=>absurd hxy (by lia)
 ·rw[if_neg h2,if_neg h2]
  have R1:Row prog w (((s.heap.update a (EH λ_=>#[])).push (EE "tuple" vs.toArray 0)).push (EE "list" #[] 0)) vs ks:=row_kept R λx hx o gx=>by
   have ne:x.2≠a:=λe=>by
    obtain ⟨o',_,_,go',co',_⟩:=R.keys x hx;rw[e,ho] at go';cases go';have z:EQ "list" = EQ "tuple":=co';exact absurd z (by decide)
   exact AD _ (AD _ ((FL _ _ (DM ne)).trans gx))
  obtain ⟨fs,kt,lf,hfs⟩:=R1.tups;refine As (kat_kind (s:={s with heap:=((s.heap.update a (EH λ_=>#[])).push (EE "tuple" vs.toArray 0)).push (EE "list" #[] 0)}) (T:=.type "int") kt (by lia) (λv hv=>by obtain ⟨n,t,rfl⟩:=hfs v hv;exact VM rfl) (by decide) ?_);refine As (Ee (Zn (s:={s with heap:=((s.heap.update a (EH λ_=>#[])).push (EE "tuple" vs.toArray 0)).push (EE "list" #[] 0)}) R1) ?_ λ_ _ e=>e)
  ·rintro⟨⟨⟩,st'⟩ s' ⟨rfl,p,P1,P2,har,hf⟩
   dsimp only;have hout:=kat_snds (ks:=vs) (vs:=vs) rfl har;rw[hout];refine As (S4 hoa rfl ?_);refine As (Nw hoa rfl ?_ (hsz2:=by rw[A9,AB,AU,P1.size,FX];lia));rw[hf];simp only[bne_self_eq_false,AV,if_false];exact wpAny_pure (h p P1 P2)
end
theorem Px{n:Nat}{p:Array Nat}(P:PP n p):p.toList.Perm (AZ n):=by
 refine SB.Gh ?_ (λx hx=>?_) (by rw[CS,AU,P.size];exact AF _)
 ·refine CO.mpr λi j hi hj hij e=>?_
  have hi':i<n:=by rw[<- P.size];simpa using hi
  have hj':j<n:=by rw[<- P.size];simpa using hj
  have hi2:i<p.size:=by simpa using hi
  have hj2:j<p.size:=by simpa using hj
  have:=P.inj i j hi' hj' (by simpa [g,EA,hi2,hj2] using e);lia
 ·obtain ⟨i,hi,rfl⟩:=CL.mp hx
  have hi2:i<p.size:=by simpa using hi
  have:=P.lt i (by rw[<- P.size];exact hi2);refine BC.mpr ?_;simpa [g,EA,hi2] using this
section
variable{prog:AM}{w:AT}{A:BQ}{E:Ap->AA->Prop}{s:AA}{S:Addr}{es:Array (Int×Ap)}{t:C6}{ks:List (List Int×Addr)}
theorem Qn{Q:List Ap->AA->Prop}{o:Obj}{ep:Nat}(hh:A.handled=none)(ho:s.heap.get? S=some o)(hex:o.ExactSet)(hd:o.data=.set es ep t)(T:Tab t)(hl:es.size=t.place.size)(hp:t.plain=true)(hled:t.led=ledOf w)(h61:es.size<=301)
  (q:∀(h':Heap) (tk:Nat) (acc:Array Ap),(∀b ob,s.heap.get? b=some ob->h'.get? b=some ob)->s.heap.objs.size<=h'.objs.size->acc.toList.map (λv=>v)=(ord w S ep es).toList.map (·.2)->Q acc.toList {s with heap:=h',toks:=tk}) :
  wpAny (AL prog w) A (Pw (.ref S)) Q E s:=by
 unfold Pw;refine As (MQ (EW M7 ?_));rw[Fk M8 _];show wpAny _ A.in1 (N7 [] >>= λl=>again (.builtin "list.__iadd__" ⟨[l,.ref S],[]⟩)) _ _ s;refine As (CH ?_);refine wpAny_pure ⟨LJ IF _,EW OM ?_⟩;rw[Fk IF _];have gD:(s.heap.push {cls:=.type "list",data:=.seq ([]:List Ap).toArray}).get? s.heap.objs.size=some {cls:=.type "list",data:=.seq #[] 0}:=AN _ rfl;show wpAny _ A.in1 (EO (.ref s.heap.objs.size) (.ref S) (.ref s.heap.objs.size)) _ _ _;have fin':∀(h':Heap) (tk:Nat) (acc':Array Ap) (c':Nat),(∀b ob,b≠s.heap.objs.size->(s.heap.push {cls:=.type "list",data:=.seq ([]:List Ap).toArray}).get? b=some ob->h'.get? b=some ob)->h'.get? s.heap.objs.size=some {cls:=.type "list",dict:=none,data:=.seq acc' c',slots:=#[]} ->
   ItemsOf (λi v=>∃e,(ord w S ep es)[i]?=some e/\v=e.2) acc' es.size->wpAny (AL prog w) A (match AS s.heap.objs.size with
   | AS a=>do
    match (<- load a).data with
     | WZ xs _=>pure xs.toList
     | _=>unsupported "internal:collect"
   | _=>unsupported "internal:collect") Q E {s with heap:=h',toks:=tk}:=λh' tk acc' c' hk hS' hacc=>by
  show wpAny _ A (load s.heap.objs.size >>= _) _ _ _;refine As (P7 hS' ?_);refine wpAny_pure ?_;refine q h' tk acc' (λb ob e=>hk b ob (BU (AY e)) (AD _ e)) (De (AY hS')) ?_;rw[Xs];apply F8;intro i;rw[BM,B7,B7];by_cases c:i<es.size
  ·have c1:i<acc'.size:=by rw[hacc.1];exact c
   obtain ⟨e,ge,ev⟩:=hacc.2 i _ (Bn c1);rw[Bn c1,ge,ev];rfl
  ·rw[IU (by rw[hacc.1];lia),IU (by rw[Lx];lia)]
   rfl
 refine Ee (Us (A:=A) (R:=λr s'=>∃h' tk acc' c',r=.ok (.ret (.ref s.heap.objs.size))/\s'={s with heap:=h',toks:=tk}/\(∀b ob,b≠s.heap.objs.size->(s.heap.push {cls:=.type "list",data:=.seq ([]:List Ap).toArray}).get? b=some ob->h'.get? b=some ob)/\h'.get? s.heap.objs.size=some {cls:=.type "list",dict:=none,data:=.seq acc' c',slots:=#[]}/\ItemsOf (λi v=>∃e,(ord w S ep es)[i]?=some e/\v=e.2) acc' es.size)
  (s:={s with heap:=s.heap.push {cls:=.type "list",data:=.seq ([]:List Ap).toArray}}) hh (AD _ ho) hex hd T hl hp hled h61 s.heap.objs.size (.ref s.heap.objs.size) 0 gD λh' tk acc' c' hk hS' hacc=>⟨h',tk,acc',c',rfl,rfl,hk,hS',hacc⟩) (λfin s' h=>?_) (λe s' h=>?_)
 ·cases fin with
  | done f =>
   obtain ⟨h',tk,acc',c',e,rfl,hk,hS',hacc⟩:=h;cases e;exact fin' h' tk acc' c' hk hS' hacc
  | again c'=>exact ⟨h.1,EJ h.2 λr s'' hr=>by obtain ⟨h',tk,acc',c',rfl,rfl,hk,hS',hacc⟩:=hr;exact fin' h' tk acc' c' hk hS' hacc⟩
 ·obtain ⟨_,_,_,_,e,_⟩:=h
  cases e
theorem sorted_set(hh:A.handled=none)(X:TS prog w s.heap S es t ks)(hK:∀x∈ks,IK prog w s.heap x.1 x.2)(hf:∀x∈ks,x.1≠[])(h61:ks.length<=301){Q:Ap->AA->Prop}
  (q:∀(h':Heap) (tk:Nat) (D:Addr) (ko:List (List Int×Addr)) (e:Nat),(∀b ob,s.heap.get? b=some ob->h'.get? b=some ob)->s.heap.objs.size<=D->h'.get? D=some (EE "list" (ko.map λx=>AS x.2).toArray e)->ko.Perm ks->(ko.map (·.1)).Pairwise (λa b=>HT.lexLt a b=true)->Q (.ref D) {s with heap:=h',toks:=tk}) :
  wpAny (AL prog w) A (call (.builtin "sorted") [.ref S]) Q E s:=by
 obtain ⟨o,ep,ho,hex,hd⟩:=X.obj;have lks:ks.length=es.size:=by
  have:=congrArg FK X.els;rw[AB,AU] at this;exact this.symm
 refine KG kind_sorted plain_sorted entry_sorted (args_sorted1 _) ?_;unfold Tl;refine As (m:=checkCount "sorted" 1 1 _) (wpAny_pure ?_);refine As (Qn (A:=A.in1) (by simp[hh]) ho hex hd X.tab X.len X.pl X.ld (by lia) λh1 tk1 acc kp hsz hacc=>?_);have op:=Ri w S ep es;rw[X.els] at op;obtain ⟨k1,p1,e1⟩:=perm_back op ks rfl;rw[e1,Xs,J3] at hacc;have hvs:acc.toList=k1.map λx=>AS x.2:=hacc;generalize hv:acc.toList=vs at hvs;have lvs:vs.length=ks.length:=by rw[hvs,AB,p1.length_eq]
 refine As (No ?_ (by rw[FX];lia));have hoL:(h1.push (EE "list" vs.toArray 0)).get? h1.objs.size=some (EE "list" vs.toArray 0):=AN _ rfl;have kp2:∀b ob,s.heap.get? b=some ob->(h1.push (EE "list" vs.toArray 0)).get? b=some ob:=λb ob e=>AD _ (kp b ob e);have R:Row prog w (h1.push (EE "list" vs.toArray 0)) vs k1:=⟨hvs,λx hx=>Gs (hK x (p1.mem_iff.mp hx)) λob e=>kp2 _ ob e,λx hx=>hf x (p1.mem_iff.mp hx),(MG (p1.map (·.1))).mpr X.nd⟩;refine As (EU (DE UU ⟨_,hoL,rfl⟩ TZ (Yj (s:={s with heap:=h1.push (EE "list" vs.toArray 0),toks:=tk1}) hoL R (by lia) λp P1 P2=>⟨_,rfl,?_⟩) (UV _)));refine wpAny_pure ⟨_,rfl,?_⟩;obtain ⟨e,he⟩:=sortedHeap_at (out:=K3 (p.toList.map λi=>vs.getD i C1)) hoL;have lk1:k1.length=ks.length:=p1.length_eq;have eo:(p.toList.map λi=>vs.getD i C1)=(p.toList.map λi=>k1.getD i ([],0)).map λx=>AS x.2:=by
  rw[J3];refine KB λi hi=>?_;have hi':i<k1.length:=BC.mp ((Px P1).mem_iff.mp hi);rw[hvs];simp[AC,hi']
 rw[eo] at he ⊢;have pk:(p.toList.map λi=>k1.getD i ([],0)).Perm k1:=by
  have z:=SB.JR (l:=k1) (Px P1);rw[SB.Hu ([],0) λi hi=>BC.mp ((Px P1).mem_iff.mp hi)] at z;exact z
 refine q _ tk1 h1.objs.size _ e (λb ob eb=>?_) hsz he (pk.trans p1) ?_
 ·have hb:=AY (kp b ob eb)
  rw[sortedHeap_old (BU hb) (by rw[DB];exact FC hb)];exact kp2 b ob eb
 ·rw[J3]
  refine CO.mpr λi j hi hj hij=>?_;have hi':i<p.size:=by simpa using hi
  have hj':j<p.size:=by simpa using hj
  have z:=P2 i j hij (by rw[<- P1.size];exact hj');unfold ltK g at z;simpa [EA,hi',hj'] using z
end
end SB
end
section
namespace SB
open PySem PySem.SetTable
section
variable{prog:AM}{w:AT}{A:BQ}{s:AA}
set_option tactic.hygienic true in
theorem Ym{R:RH->AA->Prop}{I:Addr}{fp wr:List Addr}{G:Array S5->Array S5->Prop}{n:Nat}{P:Nat->Ap->Prop}{St:Nat->AA->Prop}
  (W:WalksS prog w A.in1 I fp wr G n P St) (S:Addr) (hSf:S∉fp) (vals:Nat->List Int×Addr) (hP:∀i v,P i v->v=.ref (vals i).2) (hn:∀ks:List (List Int×Addr),(∀x∈ks,∃j,j<n/\x=vals j)->(ks.map (·.1)).Nodup->ks.length<=300) (hoff:∀i,i<n->(vals i).2∉S::wr) (hu:A.in1.units<C2)
  (hR:∀s' es' t' ks',TS prog w s'.heap S es' t' ks'->Of vals n ks'->Moved (S::wr) G s s'->R (.ok (.ret .none)) s') :
  ∀(k i:Nat) (s₁:AA) (es:Array (Int×Ap)) (t:C6) (ks:List (List Int×Addr)),n-i=k->i<=n->St i s₁->TS prog w s₁.heap S es t ks->(∀j,j<n->IK prog w s₁.heap (vals j).1 (vals j).2)->Of vals i ks->Moved (S::wr) G s s₁ ->
   codeAny (AL prog w) A (.builtin "set.update.loop" ⟨[.ref S,.ref I],[]⟩) R s₁:=by
 have nSw:S∉wr:=λh=>hSf (W.sub _ h);have inS:∀b∈wr,b∈S::wr:=λb hb=>AH _ hb;intro k
 induction k with
 | zero =>
  intro i s₁ es t ks hk hi hst X hK O mv;obtain rfl:i=n:=by lia
  refine EW K4 ?_;rw[Fk G6 _];show wpAny _ A.in1 (LD (.ref I) >>= _) _ _ s₁;refine As (W.done s₁ _ _ hst λs₂ m2=>?_);show wpAny _ A.in1 (ret C1) _ _ s₂;exact wpAny_pure (hR s₂ es t ks (Vt X λo e=>m2.heap S o nSw e) O (XW W.gtrans mv (m2.mono inS)))
 | succ k ih =>
  intro i s₁ es t ks hk hi hst X hK O mv;have lt:i<n:=by lia
  refine EW K4 ?_;rw[Fk G6 _];show wpAny _ A.in1 (LD (.ref I) >>= _) _ _ s₁;refine As (W.item i s₁ _ _ lt hst λv s₂ pv st2 m2=>?_);obtain rfl:=hP i v pv;have X2:TS prog w s₂.heap S es t ks:=Vt X λo e=>m2.heap S o nSw e;have hK2:∀j,j<n->IK prog w s₂.heap (vals j).1 (vals j).2:=λj hj=>Gs (hK j hj) λo e=>m2.heap _ o (λz=>hoff j hj (inS _ z)) e;show wpAny _ A.in1 (SC [AS (vals i).2] (setAdd S (.ref (vals i).2)) >>= _) _ _ s₂;refine As (EU (ADL X2 (λx hx=>?_) (hK2 i lt) hu (hn ks (λx hx=>let ⟨j,hj,e⟩:=O.sub x hx;⟨j,by lia,e⟩) X2.nd) λb h' es' t' ks' sb X' ad=>?_))
  ·obtain ⟨j,hj,rfl⟩:=O.sub x hx
   exact hK2 j (by lia)
  ·refine wpAny_pure ⟨LJ G6 _,ih (i+1) _ es' t' ks' (by lia) lt (W.frame _ s₂ _ _ st2 (TC _ _) λb hb o e=>?_) X' (λj hj=>Gs (hK2 j hj) λo e=>?_) (O.next ad) ?_⟩
   ·rw[sb.2 b (λ(z:b=S)=>hSf (by rw[<- z];exact hb))]
    exact e
   ·rw[sb.2 _ (λ(z:(vals j).2=S)=>hoff j hj (by rw[z];exact AG))]
    exact e
   ·refine XW W.gtrans mv ((m2.mono inS).then_heap (TC _ _) λb o hb e=>?_)
    rw[sb.2 b (λ(z:b=S)=>hb (by rw[z];exact AG))];exact e
end
section
variable{prog:AM}{w:AT}{A:BQ}{E:Ap->AA->Prop}{s:AA}
theorem ACd{l:Addr}{items:Array Ap}{vals:Nat->List Int×Addr}{Q:Ap->AA->Prop}(hh:A.handled=none)(hu:A.units+6<C2)(hl:s.heap.IsList l items)(hv:∀(i:Nat) (v:Ap),items[i]?=some v->v=AS (vals i).2)
  (hK:∀j,j<items.size->IK prog w s.heap (vals j).1 (vals j).2) (h61:∀ks:List (List Int×Addr),(∀x∈ks,∃j,j<items.size/\x=vals j)->(ks.map (·.1)).Nodup->ks.length<=300)
  (q:∀h' tk es t ks,TS prog w h' s.heap.objs.size es t ks->Of vals items.size ks->(∀b o,s.heap.get? b=some o->h'.get? b=some o)->Q (.ref s.heap.objs.size) {s with heap:=h',toks:=tk}) :
  wpAny (AL prog w) A (call (.type "set") [.ref l]) Q E s:=by
 obtain ⟨c,tl,hmro⟩:=IC.mro;have made:=IC.made;have ssub:=IC.sub;have nt:=IC.notType;have cc:=IC.canCreate;have tc:=F.typeCall_set_1 (.ref l);refine NO (UB ?_);show wpAny _ _ (callAny (.type "set") _) _ _ _;refine wpAny_pure ⟨RY _ (by decide +kernel),EW F.entry_type_call ?_⟩;rw[Around.under_plain (weight_type_call_type "set" [.ref l] []) rfl]
 repeat (any_goals (first | assumption | wp_step))
 refine EJ (ZV (.ref l) (E:=E) (Q₁:=λobj s₁=>∃led:Bool,led=ledOf w/\obj=.ref s.heap.objs.size/\s₁={s with heap:=s.heap.push {cls:=.type "set",dict:=none,data:=.set #[] 0 (.fresh 0 0 led)}}) ⟨_,rfl,rfl,rfl⟩) λr s₁ hr=>?_;cases r with
 | error e=>exact hr
 | ok fl =>
  cases fl with
  | ret obj =>
   obtain ⟨led,hled,rfl,rfl⟩:=hr;have gS:(s.heap.push {cls:=.type "set",dict:=none,data:=.set #[] 0 (.fresh 0 0 led)}).get? s.heap.objs.size=some {cls:=.type "set",dict:=none,data:=.set #[] 0 (.fresh 0 0 led)}:=AN _ rfl;have tS:VQ {s with heap:=s.heap.push {cls:=.type "set",dict:=none,data:=.set #[] 0 (.fresh 0 0 led)}} (.ref s.heap.objs.size) "set":=⟨_,gS,rfl⟩;have il:=IC.init.lookup;have ib:=IC.init.bind (.ref s.heap.objs.size)
   repeat (any_goals (first | assumption | wp_step))
   refine EJ (QO (R:=wants (λr s₂=>r=.none/\∃h' tk es t ks,s₂={s with heap:=h',toks:=tk}/\TS prog w h' s.heap.objs.size es t ks/\Of vals items.size ks/\(∀b o,s.heap.get? b=some o->h'.get? b=some o)) E) IC.init.plain F.entry_set_init (check_set_init_1 tS ?_)) λr₂ s₂ hr₂=>?_
   ·obtain ⟨⟨ocls,odict,odata,oslots⟩,hol,hcl,nl,hdl⟩:=id hl
    simp only at hcl hdl;subst hcl hdl;have hol2:(s.heap.push {cls:=.type "set",dict:=none,data:=.set #[] 0 (.fresh 0 0 led)}).get? l=some {cls:=.type "list",dict:=odict,data:=.seq items nl,slots:=oslots}:=AD _ hol;have s1:=F.sub_list_set;have s2:=F.sub_list_frozenset;have s3:(EQ "list" == EQ "dict")=false:=by decide
    have hl1:(s.heap.push {cls:=.type "set",dict:=none,data:=.set #[] 0 (.fresh 0 0 led)}).IsList l items:=⟨_,hol2,rfl,nl,rfl⟩;unfold Builtin.«set.__init__» noKeywords U5;generalize hPI:Po=PI
    wp_walk
    subst hPI;refine NI hl1 ?_;refine As (MQ ?_);have ll:l<s.heap.objs.size:=AY hol;have h3:A.in1.in1.in1.handled=none:=by simp[hh]
    have nI:l≠(s.heap.push {cls:=.type "set",dict:=none,data:=.set #[] 0 (.fresh 0 0 led)}).objs.size:=by
     rw[DB];exact BU (FC ll)
    have nS:s.heap.objs.size∉[(s.heap.push {cls:=.type "set",dict:=none,data:=.set #[] 0 (.fresh 0 0 led)}).objs.size,l]:=by
     rw[DB];simp only[AX,Cn,LL,or_false,not_or];exact ⟨BU (EB _),Wp ll⟩
    have lows:∀j,j<items.size->(vals j).2<s.heap.objs.size:=λj hj=>by
     obtain ⟨o,_,_,ho,_⟩:=hK j hj;exact AY ho
    have old2:∀(x:Obj) b o,s.heap.get? b=some o->((s.heap.push {cls:=.type "set",dict:=none,data:=.set #[] 0 (.fresh 0 0 led)}).push x).get? b=some o:=λx b o e=>AD _ (AD _ e);refine Ym (s:=_) ((XZ h3 _ l nI items).toS) s.heap.objs.size nS vals hv h61 (λj hj z=>?_) ?_ (λs' es' t' ks' X' O' mv=>?_) (items.size-0) 0 _ #[] (.fresh 0 0 led) [] (by lia) (Bi _)
     ⟨⟨_,AN _ rfl,rfl,rfl⟩,(hl1.push _)⟩ (ABK hled (AD _ gS)) (λj hj=>Gs (hK j hj) λo e=>old2 _ _ _ e) ⟨λx hx=>(by cases hx),λj hj=>absurd hj (by lia),AF _⟩ (Moved.refl λ_=>rfl)
    ·have:=lows j hj
     rw[DB] at z;simp only[AX,Cn,LL,or_false] at z;rcases z with z | z
     ·exact absurd z (BU this)
     ·exact absurd z (BU (FC this))
    ·show A.units+1+1+1<C2
     lia
    ·obtain ⟨h',g',d',tk',os'⟩:=s'
     have eg:g'=s.gens:=mv.gens;have ed:d'=s.drawn:=mv.drawn;have eo:os'=s.os:=mv.os;subst eg ed eo;show wpAny _ _ _ _ _ _;refine wpAny_pure ?_;show wpAny _ _ (ret C1) _ _ _;refine wpAny_pure ⟨rfl,h',tk',es',t',ks',rfl,X',O',λb o e=>?_⟩;have hb:=AY e;refine mv.heap b o ?_ (old2 _ b o e);rw[DB];simp only[AX,Cn,LL,or_false,not_or];exact ⟨BU hb,BU (FC hb)⟩
   ·cases r₂ with
    | error e=>exact hr₂
    | ok fl₂ =>
     cases fl₂ with
     | ret r =>
      obtain ⟨rfl,h',tk,es,t,ks,rfl,X',O',kp⟩:=hr₂
      repeat (any_goals (first | assumption | wp_step))
      exact q _ _ _ _ _ X' O' kp
     | _=>exact hr₂.elim
  | _=>exact hr.elim
end
end SB
namespace L2
open PySem PySem.Spec PyProof.Rows
section
variable{X:Cx}{e:Expr}{te:TE}{p1 p2 pos pos2:Pos}
theorem ik_ofB{pins:List (Addr×Obj)}{σ:St}{H:Hp}{s:AA}(I:Inv X pins σ H s){b:Addr}{ns:List Int}(h:SqT X.K H b (ns.map V.int)):SB.IK X.prog X.w s.heap ns b:=by
 obtain ⟨its,r,⟨o,ho,hc,n,hd⟩,_⟩:=I.tuple h;exact ⟨o,its.toArray,n,ho,hc,hd,by simpa using Td r⟩
def Wy(K:Au)(te:TE):TE:=λσ H Q=>te σ H λv H1=>∃a xs rs,v=.ref a/\SqL K H1 a xs/\Cb (rPair K H1) rs xs/\(∀ms:List (List Int),ms.Nodup->(∀m∈ms,m∈rs)->ms.length<=300)/\(∀r∈rs,r≠[]) /\
 ∀l ys ms,H1 l=none->ms.Pairwise (λa b=>HT.lexLt a b=true)->(∀r,r∈ms↔r∈rs)->Cb (rPair K H1) ms ys->Cb (λm y=>∃i:Nat,rs[i]?=some m/\xs[i]?=some y) ms ys->Q (.ref l) (upd H1 l (.lst ys))
theorem Qw(hc:X.calm=true)(hu:X.A.units+7<C2)(hg:Gl X "sorted")(hm:X.mg "sorted" = none)(hg2:Gl X "set")(hm2:X.mg "set" = none)(he:PE X e te)
  (hv:HU "sorted" = some (.builtin "sorted"):=by exact OC) (hv2:HU "set" = some (.type "set"):=by decide +kernel)
  (s1:Ct [e] X.env=(false,eval e X.env)::Ct [] X.env:=by rfl)
  (s2:Ct [.Call (.Name "set" p2) [e] [] pos2] X.env=(false,eval (.Call (.Name "set" p2) [e] [] pos2) X.env)::Ct [] X.env:=by rfl) :
  PE X (.Call (.Name "sorted" p1) [.Call (.Name "set" p2) [e] [] pos2] [] pos) (Wy X.K te):=by
 intro pins s σ H Q I h;refine EN (Em I hg hm hv ?_ (by decide) (by decide));refine L4 ?_ s2 rfl;rw[s2];show wpAny _ _ (UN ((false,eval (.Call (.Name "set" p2) [e] [] pos2) X.env)::Hm pos (Ct [] X.env))) _ _ s;refine IJ ?_;refine EN (Em I hg2 hm2 hv2 ?_ (by decide) (by decide));refine D0 ?_ s1 rfl;rw[s1];show wpAny _ _ (UN ((false,eval e X.env)::Hm pos2 (Ct [] X.env))) _ _ s;refine IJ (thn (he pins s σ H _ I h) λu s1 ⟨x,H1,I1,r1,q1⟩=>?_);refine K8 ?_;obtain ⟨a,xs,rs,rfl,ha,pr,h61,hne,q⟩:=q1;cases r1;obtain ⟨its,r,pl,_⟩:=I1.list ha;have lx:=r.length;have lr:=B4 pr;have hl:=pl.isList;have at_:∀i:Nat,i<its.length->∃b ns,its[i]?=some (.ref b)/\xs[i]?=some (.ref b)/\rs[i]?=some ns/\rPair X.K H1 ns (.ref b):=λi hi=>by
  have hx:i<xs.length:=by lia
  obtain ⟨ns,hns,rp⟩:=Paired.get pr (AK hx);obtain ⟨b,eb,hb⟩:=Cy rp;obtain ⟨u,hu',ru⟩:=r.get (AK hx);rw[eb] at ru rp;cases ru;exact ⟨b,ns,hu',by rw[AK hx,eb],hns,rp⟩
 have pick:∃vals:Nat->List Int×Addr,∀i:Nat,i<its.length->its[i]?=some (.ref (vals i).2)/\rs[i]?=some (vals i).1/\rPair X.K H1 (vals i).1 (.ref (vals i).2)/\xs[i]?=some (.ref (vals i).2):=by
  refine ⟨λi=>if h:i<its.length then (Fa (FS (at_ i h)),Fa (at_ i h)) else ([],0),λi hi=>?_⟩;have z:=FS (FS (at_ i hi));dsimp only;rw[dif_pos hi];exact ⟨z.1,z.2.2.1,z.2.2.2,z.2.1⟩
 obtain ⟨vals,hvals⟩:=pick;have hsz:its.toArray.size=its.length:=by simp
 have few:∀ks:List (List Int×Addr),(∀x∈ks,∃j,j<its.length/\x=vals j)->(ks.map (·.1)).Nodup->ks.length<=300:=λks hs hn=>by
  have:=h61 (ks.map (·.1)) hn λm hm=>by
   obtain ⟨x,hx,rfl⟩:=B6.mp hm;obtain ⟨j,hj,rfl⟩:=hs x hx;exact BH (hvals j hj).2.1
  rwa [AB] at this
 refine SB.ACd (items:=its.toArray) (vals:=vals) (I1.ok.hd hc) (by lia) hl (λi v hv=>?_) (λj hj=>?_) (by rw[hsz];exact few) λh' tk es t ks T O kp=>?_
 ·have hi:i<its.length:=by
   have:=(Da.mp hv).1;rw[hsz] at this;exact this
  have z:=(hvals i hi).1;have hv':its[i]?=some v:=by simpa using hv
  rw[hv'] at z;exact BY z
 ·rw[hsz] at hj
  obtain ⟨b,eb,hb⟩:=Cy (hvals j hj).2.2.1;cases eb;exact ik_ofB I1 hb
 refine K8 ?_;rw[hsz] at O;have hK:∀x∈ks,SB.IK X.prog X.w h' x.1 x.2:=λx hx=>by
  obtain ⟨j,hj,rfl⟩:=O.sub x hx;obtain ⟨b,eb,hb⟩:=Cy (hvals j hj).2.2.1;cases eb;exact SB.Gs (ik_ofB I1 hb) λo e=>kp _ o e
 have inrs:∀j,j<its.length->(vals j).1∈rs:=λj hj=>BH (hvals j hj).2.1;have hSz:s1.heap.objs.size<=h'.objs.size:=by
  obtain ⟨o,_,ho,_⟩:=T.obj;exact De (AY ho)
 refine SB.sorted_set (s:={s1 with heap:=h',toks:=tk}) (I1.ok.hd hc) T hK (λx hx=>?_) (SR (few ks O.sub T.nd)) λh2 tk2 D ko e kp2 hD he pk so=>?_
 ·obtain ⟨j,hj,rfl⟩:=O.sub x hx
  exact hne _ (inrs j hj)
 have hD':s1.heap.objs.size<=D:=CF hSz hD;have hn:H1 D=none:=I1.hok.fresh hD';have lko:ko.length<=301:=by rw[pk.length_eq];exact SR (few ks O.sub T.nd)
 have kov:∀x∈ko,∃j,j<its.length/\x=vals j:=λx hx=>O.sub x (pk.mem_iff.mp hx);have vl:∀l:List (List Int×Addr),Vals (l.map λx=>V.ref x.2) (l.map λx=>AS x.2):=λl=>by
  induction l with
  | nil=>exact .nil
  | cons x r ih=>exact .cons rfl ih
 have pv:∀l:List (List Int×Addr),(∀x∈l,∃j,j<its.length/\x=vals j)->Cb (rPair X.K H1) (l.map (·.1)) (l.map λx=>V.ref x.2):=λl=>by
  induction l with
  | nil=>exact λ_=>.nil
  | cons x r ih =>
   intro hh;obtain ⟨j,hj,rfl⟩:=hh x AG;exact .cons (hvals j hj).2.2.1 (ih λy hy=>hh y (AH _ hy))
 have pw:∀l:List (List Int×Addr),(∀x∈l,∃j,j<its.length/\x=vals j)->Cb (λm y=>∃i:Nat,rs[i]?=some m/\xs[i]?=some y) (l.map (·.1)) (l.map λx=>V.ref x.2):=λl=>by
  induction l with
  | nil=>exact λ_=>.nil
  | cons x r ih =>
   intro hh;obtain ⟨j,hj,rfl⟩:=hh x AG;exact .cons ⟨j,(hvals j hj).2.1,(hvals j hj).2.2.2⟩ (ih λy hy=>hh y (AH _ hy))
 refine ⟨.ref D,_,I1.laid (o:=.lst (ko.map λx=>V.ref x.2)) (a:=D) (t':=tk2) (λb o eb=>kp2 b o (kp b o eb)) hD' ⟨?_,ko.map (λx=>AS x.2),e,vl ko,he⟩,rfl,q D _ (ko.map (·.1)) hn so (λrr=>?_) (pv ko kov) (pw ko kov)⟩
 ·rw[AB]
  exact small (by lia)
 ·constructor
  ·intro hr
   obtain ⟨x,hx,rfl⟩:=B6.mp hr;obtain ⟨j,hj,rfl⟩:=kov x hx;exact inrs j hj
  ·intro hr
   obtain ⟨j,hj⟩:=Db.mp hr;have hjl:j<its.length:=by
    have:=(AJ.mp hj).1;lia
   have z:=(hvals j hjl).2.1;rw[hj] at z;cases z;exact (pk.map (·.1)).mem_iff.mpr (O.sup j hjl)
end
end L2
end
section
namespace K53s
open PySem L2 G
def Wi(K:Au)(C:Addr):Sp:=λvs H Q _=>∃(l:Addr) (n top:Nat) (rows:List Row),vs=[.int n,.ref l,.int top]/\RowsAt K H l rows/\Ok n rows/\n<=12/\rows.length<=4100/\FewB rows top/\Knot rows top /\
 ∀(p:Addr) (nums:List Row) (hd:Nat) (H':Hp),Same H H'->SvAt K C H' p n nums hd->Canon n nums hd->(∀s,led nums hd s=led rows top s)->(nums.length<=4000/\nums.length<=rows.length/\∀t,(nums.filter λr=>decide (r.1=t)).length<=300)->Q (.ref p) H'
def pl01:List (Key×V):=mergeK [] [(ED (0:Int),V.int 0),(ED (1:Int),V.int 1)]
theorem ZP:PlD pl01 λk=>if k=0 then some 0 else if k=1 then some 1 else none:=by
 intro k;show valV (putK (putK ([]:List (Key×V)) (ED (0:Int)) (V.int 0)) (ED (1:Int)) (V.int 1)) (ED (k:Int))=_;rw[Ea,Ea];by_cases k1:k=1
 ·subst k1;rfl
 by_cases k0:k=0
 ·subst k0;rfl
 rw[if_neg (λz=>k1 (by injection z with z;lia)),if_neg (λz=>k0 (by injection z with z;lia))];dsimp only;rw[if_neg k0,if_neg k1];rfl
theorem AEX:pl01.length<=2+4100*0:=by
 show (putK (putK ([]:List (Key×V)) (ED (0:Int)) (V.int 0)) (ED (1:Int)) (V.int 1)).length<=2+4100*0;exact CF (CT _ _ _) (Nat.succ_le_succ (CT _ _ _))
def LayR(rows:List Row)(pl:Nat->Option Nat)(H:Hp)(k:Nat)(v:V):Prop:=∃q b,v=.ref q/\H q=some (.tup [.int k,.ref b])/\H b=some (.tup (r3 (rowIn rows pl k)))
theorem LayR.keeps{rows:List Row}{pl:Nat->Option Nat}{H H':Hp}{k:Nat}{v:V}(e:∀a xs,H a=some (.tup xs)->H' a=some (.tup xs))(h:LayR rows pl H k v):LayR rows pl H' k v :=
 let ⟨q,b,h1,h2,h3⟩:=h;⟨q,b,h1,e _ _ h2,e _ _ h3⟩
def RowR(H:Hp)(r:Row)(v:V):Prop:=∃b,v=.ref b/\H b=some (.tup (r3 r))
theorem RowR.keeps{H H':Hp}{r:Row}{v:V}(e:∀a xs,H a=some (.tup xs)->H' a=some (.tup xs))(h:RowR H r v):RowR H' r v :=
 let ⟨b,h1,h2⟩:=h;⟨b,h1,e _ _ h2⟩
def sel(rows:List Row)(pl:Nat->Option Nat)(ly:List Nat)(j:Nat):List Row:=((ly.take j).map (rowIn rows pl)).filter λr=>decide (r.2.2≠0)
theorem TQ{rows:List Row}{pl:Nat->Option Nat}{ly:List Nat}{j k:Nat}(h:ly[j]?=some k):sel rows pl ly (j+1)=sel rows pl ly j++if (rowIn rows pl k).2.2≠0 then [rowIn rows pl k] else []:=by
 unfold sel;rw[EI,h,B8,Ex];by_cases c:(rowIn rows pl k).2.2≠0
 ·simp[c]
 ·simp[c]
theorem Vl(rows:List Row)(pl:Nat->Option Nat)(ly:List Nat)(j:Nat):(sel rows pl ly j).length<=ly.length:=by
 unfold sel;refine CF (EZ _ _) ?_;rw[AB,Cc];lia
theorem QJ{rows:List Row}{pl:Nat->Option Nat}{ly:List Nat}{r:Row}:r∈sel rows pl ly ly.length↔∃k∈ly,r=rowIn rows pl k/\r.2.2≠0:=by
 unfold sel;rw[DI,C7,B6];constructor
 ·rintro⟨⟨k,hk,rfl⟩,h⟩
  exact ⟨k,hk,rfl,of_decide_eq_true h⟩
 ·rintro⟨k,hk,rfl,h⟩
  exact ⟨⟨k,hk,rfl⟩,decide_eq_true h⟩
def placeOf(rows:List Row)(pl:Nat->Option Nat)(nums:List Row)(k:Nat):Nat:=(numOf 2 nums (rowIn rows pl k)).getD (rowIn rows pl k).2.1
theorem KZ{α β γ:Type}{F:β->γ->Prop}{f:α->β}:∀{l:List α}{m:List γ},Cb (λa b=>F (f a) b) l m->Cb F (l.map f) m
 | _,_,.nil=>.nil
 | _,_,.cons h t=>.cons h (KZ t)
theorem ACU{rows new:List Row}{rc:List Nat}{pl:Nat->Option Nat}{t:Nat}(h:(new.map r3i).Pairwise (λa b=>HT.lexLt a b=true))(hw:∀r,r∈new->∃k,k∈rc/\tieOf rows k=t/\r=rowIn rows pl k/\r.2.2≠0):new.Pairwise RowLt:=by
 have h2:new.Pairwise (λa b=>HT.lexLt (r3i a) (r3i b)=true):=D2.mp h;have tie:∀r∈new,r.1=t:=λr hr=>by
  obtain ⟨k,_,h,e,_⟩:=hw r hr;rw[e];exact h
 refine Fc (λ{a b} ha hb z=>?_) h2;have ea:=tie a ha;have eb:=tie b hb;obtain ⟨a1,a2,a3⟩:=a;obtain ⟨b1,b2,b3⟩:=b;dsimp only at ea eb;subst ea;subst eb;unfold r3i at z;dsimp only at z;rw[HT.Bq,if_pos rfl,HT.Bq] at z;refine .inr ⟨rfl,?_⟩;dsimp only;by_cases c:(a2:Int)=b2
 ·rw[if_pos c,HT.Bq] at z
  by_cases d:(a3:Int)=b3
  ·rw[if_pos d] at z
   cases z
  ·rw[if_neg d] at z
   have:=of_decide_eq_true z;exact .inr ⟨by lia,by lia⟩
 ·rw[if_neg c] at z
  have:=of_decide_eq_true z;exact .inl (by lia)
section
variable{P:AM}{w:AT}{K:Au}{mg:Str->Option Ap}{base:Heap}{f C:Addr}{fd:BV}
theorem Du:FnScope ["n","rows","top","reached","numbers","places","tie","layer","row","knot"] ["n","rows","top"] (Ac Ge):=⟨rfl,rfl,rfl,by decide +kernel,rfl,by decide +kernel,by decide +kernel⟩
theorem ABS{fR fI fS:Addr}{fdR fdI fdS:BV}(F:Fun K "least_graph" "least_graph" Ge f fd)(T:Txt K mg C)(M:Mk K C fS)
  (GR:FnOk P w K mg base CX0 1 fR fdR ["rows","top"] (Wj K)) (bR:Binds K fdR ["rows","top"] []) (kR:AI K (.ref fR)=true) (mR:mg "reached_knots" = some (.ref fR))
  (GI:FnOk P w K mg base CX0 1 fI fdI ["places","row"] (AFL K)) (bI:Binds K fdI ["places","row"] []) (kI:AI K (.ref fI)=true) (mI:mg "row_in_places" = some (.ref fI))
  (GS:FnOk P w K mg base CX0 1 fS fdS ["self","n","rows","head"] (JF K C)) (bS:Binds K fdS ["self","n","rows","head"] []) :
  FnOk P w K mg base CX0 3 f fd ["n","rows","top"] (Wi K C):=by
 refine F.ok Du (λvs H Q E h=>?_) (λcdv A outer s H vs Q E hr h=>?_)
 ·obtain ⟨l,n,top,rows,rfl,_⟩:=h
  rfl
 obtain ⟨l,n,top,rows,rfl,hL,ok,n12,r72,fw,kt,q⟩:=h;have hr1:Room 1 _:=hr.mono (by decide);refine ⟨_,Ae (Ax (i:=3) Du.nd rfl (BF rfl) (BP GR hr1 rfl mR kR bR .nil pass0 (Aa (pv 1) (Aa (pv 2) Ad))))
  (Ae (Ax (i:=4) Du.nd rfl (BF rfl) AAx)
  (Ae (Ax (i:=5) Du.nd rfl (JO rfl) (WD (Kz Ah Ah (Kz Ah Ah Wk)) rfl rfl (by intro z;cases z) (by decide)))
  (Ae (Cv C8 rfl (Od rfl T.range (Aa (Aw DP (pv 0) Ah) (Aa (Vy Pa Ah) (Aa (Vy Pa Ah) Ad)))) (Am (i:=6) Du.nd rfl (JO rfl))
   (Ae (QC (i:=7) (Ac Ge) ["knot"] ["places","rows","tie"] [5,1,6] Du.nd rfl (BF rfl) rfl rfl (by decide +kernel) ⟨⟨rfl,by decide +kernel⟩,⟨rfl,by decide +kernel⟩,⟨rfl,by decide +kernel⟩,trivial⟩ (Bx (pv 3))
    (λ_ _ _=>Am (i:=0) (show ((["knot"]:List Str)++(["places","rows","tie"]:List Str)).Nodup by decide +kernel) rfl (BF rfl))
    (λ_ _ _=>Dj (Ar Eu (Bc (PB (K:=K) rfl) (Bc (PB (K:=K) rfl) (pv 2) (Aw DP (pv 0) Ah) (λ_ _=>rfl)) Ah (λ_ _=>rfl)) (pv 3) (nomark _)))
    (λ_ _ _=>CG (Aa (pv 0) (Aa (BP GI hr1 rfl mI kI bI .nil pass0 (Aa (pv 1) (Aa (Bc (PB (K:=K) rfl) (pv 2) (Aw DP (pv 0) Ah) (λ_ _=>rfl)) Ad))) Ad))))
   (Ae (Cv C8 rfl (Bx (Qw rfl (CW hr) rfl T.sorted rfl T.set
     (Ca (Ac Ge) ["knot","row"] [] [] rfl rfl (by decide +kernel) trivial (Bx (pv 7))
      (λ_ _ _=>Fg (K:=K) (n:=2) rfl rfl (Bb (Am (i:=0) (show ((["knot","row"]:List Str)++([]:List Str)).Nodup by decide +kernel) rfl (BF rfl)) (Bb (Am (i:=1) (show ((["knot","row"]:List Str)++([]:List Str)).Nodup by decide +kernel) rfl (BF rfl)) Dw)))
      (λ_ _ _=>Dj (Ar Nt (Bc (ACZ (K:=K) rfl) (pv 1) Ah (λ_ _=>rfl)) Ah (nomark _)))
      (λ_ _ _=>pv 1)))) (Am (i:=8) Du.nd rfl (BF rfl))
    (Aj (KD (CW hr) (pv 4) (pv 8) (Aw Cw (BK Sw rfl T.len DT (Aa (pv 4) Ad)) Ah) rfl)))
   (Aj (Cv C8 rfl (Bx (pv 7)) (Fg (K:=K) (n:=2) rfl rfl (Bb (Am (i:=9) Du.nd rfl (BF rfl)) (Bb (Am (i:=8) Du.nd rfl (BF rfl)) Dw)))
    (Aj (KD (CW hr) (pv 5) (pv 9) (Zt (CW hr) (pv 4) (pv 8) (Bc Dn (pv 8) Ah (λ_ _=>rfl)) ⟨rfl,rfl,rfl,rfl⟩) rfl)))))))
  (Aj (Av (Ir M GS hr rfl T.mgC bS .nil pass0 (Aa (pv 0) (Aa (Bk (QD rfl) rfl T.list IX (Aa (pv 4) Ad)) (Aa (QS (CW hr) (pv 5) (pv 2) (λ_ _=>rfl)) Ad))))))))),?_⟩
 refine ⟨_,rfl,_,rfl,l,n,top,rows,rfl,hL,ok,r72,kt,λR rc H1 s1 nR eR cl tr rl0 par=>?_⟩;have rl:∀t j,(lay rows t rc j).length<=4100:=λt j=>CF (rl0 t j) (CF (EZ ..) r72);refine λN hN=>?_;have nN:H N=none:=s1.free hN;have s2:=s1.trans (Same.new hN (.dT []));refine λD hD=>⟨Ab,[(.inl (0:Int),.int 0),(.inl (1:Int),.int 1)],rfl,(by show 2<=15;decide),?_⟩;have nD:H D=none:=s2.free hD;have RN:R≠N:=Af eR hN;have RD:R≠D:=Af (show (upd H1 N (.dT [])) R=some (.lst (iN rc)) by rw[Ag RN];exact eR) hD;have ND:N≠D:=Af (show (upd H1 N (.dT [])) N=some (.dT []) from Ab) hD;refine ⟨_,rfl,_,_,rfl,rfl,1,rfl,1,rfl,(n:Int)-1,-1,rfl,⟨by lia,by lia,by lia,by lia⟩,?_⟩;refine Ry (lo:=(n:Int)-1) (n:=((n:Int)-1 - -1).toNat) (λi σ H2=>∃(nums:List Row) (kvs:List (Key×V)) (pl:Nat->Option Nat) (o6 o7 o8 o9:Option V),σ=[some (.int n),some (.ref l),some (.int top),some (.ref R),some (.ref N),some (.ref D),o6,o7,o8,o9]/\Same H H2 /\
   H2 R=some (.lst (iN rc))/\H2 N=some (.dT (numKV 2 nums))/\H2 D=some (.dK kvs)/\PlD kvs pl/\Kept2 n (n-i) rows rc nums pl/\nums.length<=300*i/\kvs.length<=2+4100*i/\∀t,(nums.filter λr=>decide (r.1=t)).length<=300)
  ⟨[],_,λk=>if k=0 then some 0 else if k=1 then some 1 else none,none,none,none,none,rfl,λb o e=>?_,?_,?_,Ab,?_,?_,by simp,?_,λt=>Bi _⟩ ?_ ?_
 ·rw[Ag (Af e nD),Ag (Af e nD)]
  exact s2 b o e
 ·rw[Ag RD,Ag RD,Ag RN]
  exact eR
 ·rw[Ag ND,Ag ND,Ab]
  rfl
 ·exact ZP
 ·exact Tv λk hk=>(cl.low ok hk).1
 ·exact AEX
 ·rintro i σ H2 hi ⟨nums,kvs,pl,o6,o7,o8,o9,rfl,sm,eR2,eN2,eD2,pd,kp,nl,kl,cn⟩
  obtain ⟨t,et,tn,tn',tlt⟩:∃t:Nat,(n:Int)-1-i=t/\n-i=t+1/\n-(i+1)=t/\t<n:=⟨n-1-i,by lia,by lia,by lia,by lia⟩;rw[et];rw[tn] at kp;have hL2:=hL.same sm;refine ⟨_,rfl,R,rfl,⟨_,SqL.of eR2⟩,λY hY=>?_⟩;have nY:H Y=none:=sm.free hY;refine Cj (K:=K) (a:=R) (xs:=iN rc) (λj τ H3=>∃(kv:Option V) (ys:List V),τ=[kv,some (.ref D),some (.ref l),some (.int t)]/\Same H2 H3/\H3 Y=some (.lst ys)/\Cb (LayR rows pl H3) (lay rows t rc j) ys)
   ⟨none,[],rfl,Same.new hY _,Ab,.nil⟩ (λj τ H3 _ ⟨_,_,_,s3,_⟩=>s3.seq (SqL.of eR2)) ?_ ?_
  ·rintro j x τ H3 hx ⟨kv,ys,rfl,s3,eY,py⟩
   obtain ⟨k,hk,rfl⟩:∃k:Nat,rc[j]?=some k/\x=.int (k:Int):=by
    unfold iN at hx;rw[BM] at hx;cases g:rc[j]? with
    | none=>rw[g] at hx;cases hx
    | some k=>rw[g] at hx;cases hx;exact ⟨k,rfl,rfl⟩
   have km:=BH hk;obtain ⟨xs,p,hS,ha,hp⟩:=PX (hL2.same s3) (cl.knot k km) (cl.two k km);refine ⟨_,rfl,_,rfl,_,_,rfl,rfl,ixA hS ha (ixA hp at0 ⟨_,rfl,rfl,_,rfl,?_⟩)⟩;refine ite2 (λc=>?_) (λc=>?_)
   ·have c':tieOf rows k=t:=by
     have:=of_decide_eq_true c;injection this with this
     exact Int.ofNat.inj this
    obtain ⟨a,b,pa,pb,re,_⟩:=kp.base.row cl ok tlt km c';have hx':valV kvs (ED (((rows.getD (k-2) (0,0,0)).2.1:Nat):Int))=some (.int (a:Int)):=by
     have:=pd (outOf rows k);rw[pa] at this;exact this
    have hy':valV kvs (ED (((rows.getD (k-2) (0,0,0)).2.2:Nat):Int))=some (.int (b:Int)):=by
     have:=pd (intoOf rows k);rw[pb] at this;exact this
    refine ⟨_,rfl,_,rfl,_,rfl,_,rfl,_,_,rfl,rfl,ixA hS ha ⟨D,p,rows.getD (k-2) (0,0,0),a,b,kvs,rfl,s3 _ _ eD2,⟨p,rfl,hp⟩,hx',hy',λu hu=>?_⟩⟩;refine ⟨(by show 2<=sizeLine;decide),λv hv=>?_⟩;have er:[V.int ((rows.getD (k-2) (0,0,0)).1:Nat),V.int (a:Int),V.int (b:Int)]=r3 (rowIn rows pl k):=by
     rw[re,<- c'];rfl
    rw[er];rw[er] at hv;have su:=Same.new hu (.tup (r3 (rowIn rows pl k)));have sv:=Same.new hv (.tup [.int (k:Int),.ref u]);have eY2:=sv _ _ (su _ _ eY);have ll:=rl t j;have ly:ys.length<=4100:=by rw[<- B4 py];lia
    have kt:∀a xs,(upd (upd H3 u (.tup (r3 (rowIn rows pl k)))) v (.tup [.int (k:Int),.ref u])) a=some (.tup xs)->(upd (upd (upd H3 u (.tup (r3 (rowIn rows pl k)))) v (.tup [.int (k:Int),.ref u])) Y (.lst (ys++[.ref v]))) a=some (.tup xs):=λa xs e=>by
     rw[Ag (Cd e eY2 (by intro z;cases z))];exact e
    refine ⟨_,eY2,smallN (by lia),_,_,rfl,λb o e=>?_,Ab,?_⟩
    ·rw[Ag (Af e hY)]
     exact sv _ _ (su _ _ (s3 b o e))
    ·rw[Qk hk,if_pos c']
     refine Paired.app (Paired.imp (λa b r=>(r.keeps λa xs e=>sv _ _ (su _ _ e)).keeps kt) py) (Paired.one ⟨v,u,rfl,kt _ _ Ab,kt _ _ (sv _ _ Ab)⟩)
   ·have c':¬ tieOf rows k=t:=λe=>c (decide_eq_true (by show V.int ((tieOf rows k:Nat):Int)=V.int (t:Int);rw[e]))
    refine ⟨_,_,rfl,s3,eY,?_⟩;rw[Qk hk,if_neg c',CU];exact py
  ·rintro τ H3 ⟨kv,ys,rfl,s3,eY,py⟩
   have rcl:(iN rc).length=rc.length:=AB ..;rw[rcl] at py;have ll:=rl t rc.length;have ly:ys.length<=4100:=by rw[<- B4 py];lia
   refine ⟨_,rfl,Y,rfl,⟨_,SqL.of eY⟩,λZ hZ=>?_⟩;refine Cj (K:=K) (a:=Y) (xs:=ys) (λj τ H4=>∃(o1 o2:Option V) (zs:List V),τ=[o1,o2]/\Same H3 H4/\H4 Z=some (.lst zs)/\Cb (RowR H4) (sel rows pl (lay rows t rc rc.length) j) zs)
    ⟨none,none,[],rfl,Same.new hZ _,Ab,.nil⟩ (λj τ H4 _ ⟨_,_,_,_,s4,_⟩=>s4.seq (SqL.of eY)) ?_ ?_
   ·rintro j x τ H4 hx ⟨o1,o2,zs,rfl,s4,eZ,pz⟩
    obtain ⟨k,hk,u,b,rfl,hu,hb⟩:=Paired.get py hx;have hu4:=s4 _ _ hu;have hb4:=s4 _ _ hb;refine ⟨u,_,rfl,SqT.of hu4,rfl,_,_,rfl,_,_,rfl,rfl,?_⟩;refine ⟨_,rfl,b,_,_,_,rfl,rfl,SqT.of hb4,at2,rfl,_,rfl,?_⟩;have zl:zs.length<=4100:=by rw[<- B4 pz];exact CF (Vl _ _ _ _) (by lia)
    refine ite2 (λc=>?_) (λc=>?_)
    ·have c':(rowIn rows pl k).2.2≠0:=λe=>by
      rw[e] at c;exact absurd c (by decide)
     refine ⟨_,rfl,_,eZ,smallN (by lia),_,_,_,rfl,λb o e=>?_,Ab,?_⟩
     ·rw[Ag (Af e hZ)]
      exact s4 b o e
     ·rw[TQ hk,if_pos c']
      have kz:∀a xs,H4 a=some (.tup xs)->(upd H4 Z (.lst (zs++[.ref b]))) a=some (.tup xs):=λa xs e=>by rw[Ag (Cd e eZ (by intro z;cases z))];exact e
      exact Paired.app (Paired.imp (λa b r=>r.keeps kz) pz) (Paired.one ⟨b,rfl,kz _ _ hb4⟩)
    ·have c':(rowIn rows pl k).2.2=0:=by
      rcases Sj (rowIn rows pl k).2.2 with e | e
      ·exact e
      ·exact absurd (by rw[decide_eq_false (λz=>by injection z with z;lia)];rfl) c
     refine ⟨_,_,_,rfl,s4,eZ,?_⟩;rw[TQ hk,if_neg (λz=>z c'),CU];exact pz
   ·rintro τ H4 ⟨o1,o2,zs,rfl,s4,eZ,pz⟩
    rw[<- B4 py] at pz;have zl:(sel rows pl (lay rows t rc rc.length) (lay rows t rc rc.length).length).length<=4100:=CF (Vl _ _ _ _) (by lia);refine ⟨Z,zs,(sel rows pl (lay rows t rc rc.length) (lay rows t rc rc.length).length).map r3i,rfl,SqL.of eZ,KZ (Paired.imp (λr v ⟨b,e,hb⟩=>by rw[e];exact FQ (ns:=r3i r) hb) pz),λms nd hm=>?_,λr hr=>?_,λS ys' ms hS so mem pr pw=>?_⟩
    ·obtain ⟨new,rfl⟩:=JB ms λm hm'=>by
      obtain ⟨r',_,e⟩:=B6.mp (hm m hm');exact ⟨r',e.symm⟩
     rw[AB];refine fw.sel kp cl ok tlt par new ((D2.mp nd).imp λh e=>h (by rw[e])) λr hr=>?_;obtain ⟨r',h1,h2⟩:=B6.mp (hm _ (GH hr));rw[Jw h2] at h1;obtain ⟨k,h1,h2,h3⟩:=QJ.mp h1;obtain ⟨h4,h5⟩:=Ie.mp h1;exact ⟨k,h4,h5,h2,h3⟩
    ·obtain ⟨r',_,rfl⟩:=B6.mp hr
     exact λz=>by cases z
    obtain ⟨new,rfl⟩:=JB ms λm hm=>by
     obtain ⟨r',_,e⟩:=B6.mp ((mem m).mp hm);exact ⟨r',e.symm⟩
    have nd:=Xc so;have inNew:∀r∈new,r∈sel rows pl (lay rows t rc rc.length) (lay rows t rc rc.length).length:=λr hr=>by
     obtain ⟨r',h1,h2⟩:=B6.mp ((mem (r3i r)).mp (GH hr));rw[<- Jw h2];exact h1
    have hw:∀r,r∈new->∃k,k∈rc/\tieOf rows k=t/\r=rowIn rows pl k/\r.2.2≠0:=λr hr=>by
     obtain ⟨k,h1,h2,h3⟩:=QJ.mp (inNew r hr);obtain ⟨h4,h5⟩:=Ie.mp h1;exact ⟨k,h4,h5,h2,h3⟩
    have hw2:∀k∈rc,tieOf rows k=t->(rowIn rows pl k).2.2≠0->rowIn rows pl k∈new:=λk hk hkt w0=>by
     have h0:r3i (rowIn rows pl k)∈new.map r3i:=(mem _).mpr (GH (QJ.mpr ⟨k,Ie.mpr ⟨hk,hkt⟩,rfl,w0⟩));obtain ⟨r',h1,h2⟩:=B6.mp h0;rw[<- Jw h2];exact h1
    have newl:new.length<=300:=fw.sel kp cl ok tlt par new nd hw;have ly':ys'.length=new.length:=by rw[<- B4 pr,AB]
    have sS:=Same.new hS (.lst ys');have eN4:=sS _ _ (s4 _ _ (s3 _ _ eN2));have eD4:=sS _ _ (s4 _ _ (s3 _ _ eD2));have eR4:=sS _ _ (s4 _ _ (s3 _ _ eR2));have eY4:=sS _ _ (s4 _ _ eY);have SN:S≠N:=Cd (show (upd H4 S (.lst ys')) S=some (.lst ys') from Ab) eN4 (by intro z;cases z);refine ⟨S,rfl,⟨_,SqL.of Ab⟩,?_⟩;refine DK (K:=K) (a:=S) (xs:=ys') (λj σ H5=>∃o8:Option V,σ=[some (.int n),some (.ref l),some (.int top),some (.ref R),some (.ref N),some (.ref D),some (.int t),some (.ref Y),o8,o9]/\(∀b o,b≠N->(upd H4 S (.lst ys')) b=some o->H5 b=some o) /\
      H5 N=some (.dT (numKV 2 (nums++new.take j)))) ⟨o8,rfl,λb o _ e=>e,by rw[P5,CU];exact eN4⟩ (λj σ H5 _ ⟨_,_,k5,_⟩=>SqL.of (k5 _ _ SN Ab)) ?_ ?_
    ·rintro j x σ H5 hx ⟨o8,rfl,k5,eN5⟩
     obtain ⟨m,hm,i',hi1,hi2⟩:=Paired.get pw hx;obtain ⟨r,hr,rfl⟩:∃r,new[j]?=some r/\m=r3i r:=by
      rw[BM] at hm;cases g:new[j]? with
      | none=>rw[g] at hm;cases hm
      | some r=>rw[g] at hm;cases hm;exact ⟨r,rfl,rfl⟩
     obtain ⟨r',hr',b,rfl,hb⟩:=Paired.get pz hi2;have er:r'=r:=by
      rw[BM,hr'] at hi1;exact Jw (BY hi1)
     subst er;have bN:b≠N:=Cd (sS _ _ hb) eN4 (by intro z;cases z);have hb5:=k5 _ _ bN (sS _ _ hb);have rn:r'∉nums++new.take j:=λhm=>by
      rcases Co.mp hm with hm | hm
      ·have:=kp.base.ge r' hm
       obtain ⟨k,_,h5,h2,_⟩:=hw r' (BH hr);rw[h2] at this;have e:(rowIn rows pl k).1=tieOf rows k:=rfl;lia
      ·obtain ⟨j',hj'⟩:=Db.mp hm
       rw[List.getElem?_take] at hj';split at hj'
       ·have:=(Lu (AJ.mp hj').1 nd).mp (hj'.trans hr.symm)
        lia
       ·cases hj'
     have nl2:(nums++new.take j).length<=300*13:=by
      rw[By,Cc];lia
     refine ⟨_,rfl,N,_,rfl,eN5,_,_,rfl,rfl,_,rfl,_,rfl,N,_,rfl,.inr ⟨_,ik3 r',b,eN5,rfl,hb5,by rw[JL];exact smallN (by lia),rfl⟩,?_⟩;refine ⟨_,rfl,λb o hb e=>by rw[Ag hb];exact k5 b o hb e,?_⟩;rw[Ab,Yn rn,EI,hr];rw[C0];rfl
    ·rintro σ H5 ⟨o8,rfl,k5,eN5⟩
     rw[ly',DI] at eN5;have DN:D≠N:=Cd eD4 eN4 (by intro z;cases z);have RN4:R≠N:=Cd eR4 eN4 (by intro z;cases z);have YN:Y≠N:=Cd eY4 eN4 (by intro z;cases z);have eD5:=k5 _ _ DN eD4;have eR5:=k5 _ _ RN4 eR4;have eY5:=k5 _ _ YN eY4;have YD:Y≠D:=Cd eY5 eD5 (by intro z;cases z);refine ⟨_,rfl,Y,rfl,⟨_,SqL.of eY5⟩,?_⟩;refine DK (K:=K) (a:=Y) (xs:=ys) (λj σ H6=>∃(o8 o9:Option V) (kvs':List (Key×V)),σ=[some (.int n),some (.ref l),some (.int top),some (.ref R),some (.ref N),some (.ref D),some (.int t),some (.ref Y),o8,o9]/\(∀b o,b≠D->H5 b=some o->H6 b=some o) /\
       H6 D=some (.dK kvs')/\PlD kvs' (plOf pl (placeOf rows pl (nums++new)) ((lay rows t rc rc.length).take j))/\kvs'.length<=kvs.length+j) ⟨o8,o9,kvs,rfl,λb o _ e=>e,eD5,?_,by lia⟩ (λj σ H6 _ ⟨_,_,_,_,k6,_⟩=>SqL.of (k6 _ _ YD eY5)) ?_ ?_
     ·intro k
      rw[pd k];unfold plOf;rw[if_neg (by simp)]
     ·rintro j x σ H6 hx ⟨o8,o9,kvs',rfl,k6,eD6,pd6,kl6⟩
      obtain ⟨k,hk,u,b,rfl,hu,hb⟩:=Paired.get py hx;have up:∀a xs,H3 a=some (.tup xs)->H6 a=some (.tup xs):=λa xs e=>by
       have e4:=sS _ _ (s4 _ _ e);have e5:=k5 _ _ (Cd e4 eN4 (by intro z;cases z)) e4;exact k6 _ _ (Cd e5 eD5 (by intro z;cases z)) e5
      have eN6:=k6 _ _ (DM DN) eN5;have jl:j<ys.length:=(AJ.mp hx).1;refine ⟨u,_,rfl,SqT.of (up _ _ hu),rfl,_,_,rfl,_,_,rfl,rfl,?_⟩;refine ⟨_,rfl,N,rfl,.inr ⟨_,.inl eN6⟩,_,rfl,_,rfl,b,_,_,_,rfl,rfl,SqT.of (up _ _ hb),at1,_,DGet.t (k:=ik3 (rowIn rows pl k)) eN6 (up _ _ hb),?_⟩;refine ⟨_,rfl,_,rfl,D,_,rfl,.inl ⟨kvs',ED (k:Int),eD6,rfl,smallN (by lia),rfl⟩,?_⟩;have ev:(valV (numKV 2 (nums++new)) (ik3 (rowIn rows pl k))).getD (V.int ((rowIn rows pl k).2.1:Nat))=V.int ((placeOf rows pl (nums++new) k:Nat):Int):=by
       rw[JG];unfold placeOf;cases numOf 2 (nums++new) (rowIn rows pl k)<;>rfl
      rw[ev];refine ⟨_,_,_,rfl,λb o hb e=>by rw[Ag hb];exact k6 b o hb e,Ab,?_,by have:=CT kvs' (ED (k:Int)) (V.int ((placeOf rows pl (nums++new) k:Nat):Int));lia⟩;rw[EI,hk];exact PlD.put pd6
     ·rintro σ H6 ⟨o8,o9,kvs',rfl,k6,eD6,pd6,kl6⟩
      rw[<- B4 py,DI] at pd6;refine ⟨nums++new,kvs',_,_,_,_,_,rfl,λb o e=>?_,k6 _ _ (Cd eR5 eD5 (by intro z;cases z)) eR5,k6 _ _ (DM DN) eN5,eD6,pd6,?_,by rw[By];lia,by lia,λt1=>?_⟩
      ·have e4:=sS _ _ (s4 _ _ (s3 _ _ (sm b o e)))
       exact k6 _ _ (Af e nD) (k5 _ _ (Af e nN) e4)
      ·rw[tn']
       refine kp.step cl ok tlt hw nd hw2 (ACU so hw) (λk hk=>?_) (λk hk ht=>?_)
       ·unfold plOf
        rw[if_neg (λz=>by
         obtain ⟨z1,z2⟩:=Ie.mp z;rcases hk with hk | hk
         ·exact hk z1
         ·exact hk z2)]
       ·refine ⟨placeOf rows pl (nums++new) k,by unfold plOf;rw[if_pos (Ie.mpr ⟨hk,ht⟩)],?_⟩
        unfold placeOf;cases g:numOf 2 (nums++new) (rowIn rows pl k) with
        | some m =>
         obtain ⟨j,h1,h2⟩:=Ky _ _ _ _ g;exact .inl ⟨j,h1,by show m=j+2;lia⟩
        | none=>exact .inr ⟨La _ _ _ g,rfl⟩
      ·rw[Ex,By]
       by_cases c:t1=t
       ·rw[IZ.mpr λr hr z=>by
         have:=kp.base.ge r hr;have:=of_decide_eq_true z;lia]
        have:=EZ (λr:Row=>decide (r.1=t1)) new;simp only[G9];lia
       ·rw[IZ (l:=new) |>.mpr λr hr z=>by
         obtain ⟨k,_,h5,h2,_⟩:=hw r hr;have:=of_decide_eq_true z;rw[h2] at this;have e:(rowIn rows pl k).1=tieOf rows k:=rfl;lia]
        exact cn t1
 ·rintro σ H2 ⟨nums,kvs,pl,o6,o7,o8,o9,rfl,sm,eR2,eN2,eD2,pd,kp,nl,kl,cn⟩
  have e0:n-((n:Int)-1 - -1).toNat=0:=by lia
  rw[e0] at kp;have ht:∃p:Nat,pl top=some p:=by
   rcases tr with h | h
   ·have:top=0\/top=1:=by lia
    rcases this with rfl | rfl
    ·exact ⟨0,kp.base.z⟩
    ·exact ⟨1,kp.base.o⟩
   ·obtain ⟨p,hp,_⟩:=kp.base.has top h (Bi _)
    exact ⟨p,hp⟩
  obtain ⟨hd,ehd⟩:=ht;refine ⟨_,rfl,_,rfl,N,_,rfl,eN2,λA0 ys hA kL=>?_⟩;have sA:=Same.new hA (.lst ys);refine ⟨_,rfl,_,rfl,D,.int hd,rfl,?_,?_⟩
  ·have:=DGet.k (k:=.inl (top:Int)) (sA _ _ eD2)
   rw[pd top,ehd] at this;exact this
  ·intro x dx hx hdx ne
   have hx2:(upd (upd H2 A0 (.lst ys)) dx (.own x)) x=none:=by rw[Ag (DM ne)];exact hx
   have s4:=(Same.new hdx (.own x)).trans (Same.new hx2 (.ins C dx []));refine ⟨x,dx,A0,n,hd,ys,nums,rfl,Ab,s4.seq (SqL.of Ab),Paired.imp (λa b r=>Bv _ _ _ _ s4.ts (Bv _ _ _ _ sA.ts r)) (Oc kL),λH' hs sv=>⟨rfl,q x nums hd H' (λb o e=>?_) sv (kp.canon cl ok tr ehd par).1 (kp.canon cl ok tr ehd par).2 ⟨by lia,YX kp cl,cn⟩⟩⟩;have e1:=s4 _ _ (sA _ _ (sm b o e));refine hs b o e1 λz=>?_;rw[z] at e;have:=sA _ _ (sm _ o e);rw[hx] at this;cases this
end
end K53s
end
section
namespace K53
open PySem L2 G
variable{u:Ru}
structure Gro(K:Au)(mg:Str->Option Ap)(Gc:Addr):Prop where
 cl:Cls K Gc
 mgG:mg "Growth" = some (.ref Gc)
 nW:NoAttr K Gc "web"
 nU:NoAttr K Gc "rule"
 nA:NoAttr K Gc "amount"
 nB:NoAttr K Gc "behind"
 nR:NoAttr K Gc "rows"
 nK:NoAttr K Gc "known"
def gf(W r:Addr)(n:Int)(Bh R D:Addr):List (Str×V):=putF "known" (.ref D) (putF "rows" (.ref R) (putF "behind" (.ref Bh) (putF "amount" (.int n) (putF "rule" (.ref r) (putF "web" (.ref W) [])))))
section
variable (W r Bh R D:Addr)(n:Int)
theorem Le:(gf W r n Bh R D).lookup ("known" : Str)=some (.ref D):=by unfold gf;rw[Ai,if_pos rfl]
theorem Pn:(gf W r n Bh R D).lookup ("rows" : Str)=some (.ref R):=by unfold gf;rw[Ai,if_neg (by decide +kernel),Ai,if_pos rfl]
theorem Xp:(gf W r n Bh R D).lookup ("behind" : Str)=some (.ref Bh):=by unfold gf;rw[Ai,if_neg (by decide +kernel),Ai,if_neg (by decide +kernel),Ai,if_pos rfl]
theorem Nk:(gf W r n Bh R D).lookup ("amount" : Str)=some (.int n):=by unfold gf;rw[Ai,if_neg (by decide +kernel),Ai,if_neg (by decide +kernel),Ai,if_neg (by decide +kernel),Ai,if_pos rfl]
theorem KH:(gf W r n Bh R D).lookup ("rule" : Str)=some (.ref r):=by unfold gf;rw[Ai,if_neg (by decide +kernel),Ai,if_neg (by decide +kernel),Ai,if_neg (by decide +kernel),Ai,if_neg (by decide +kernel),Ai,if_pos rfl]
theorem PN:(gf W r n Bh R D).lookup ("web" : Str)=some (.ref W):=by unfold gf;rw[Ai,if_neg (by decide +kernel),Ai,if_neg (by decide +kernel),Ai,if_neg (by decide +kernel),Ai,if_neg (by decide +kernel),Ai,if_neg (by decide +kernel),Ai,if_pos rfl]
theorem Wn{m:Str}(h1:¬ m = "known")(h2:¬ m = "rows")(h3:¬ m = "behind")(h4:¬ m = "amount")(h5:¬ m = "rule")(h6:¬ m = "web"):(gf W r n Bh R D).lookup m=none:=by
 unfold gf;rw[Ai,if_neg h1,Ai,if_neg h2,Ai,if_neg h3,Ai,if_neg h4,Ai,if_neg h5,Ai,if_neg h6]
 all_goals rfl
end
structure Gr(u:Ru)(K:Au)(C Dc Gc:Addr)(g W r Bh R D:Addr)(z:Nat)(bs:List (List Int))(H:Hp):Prop where
 ins:∃dx,H g=some (.ins Gc dx (gf W r bs.length Bh R D))
 web:WebAt K C H W z bs
 rul:∃dx,H r=some (.ins Dc dx u.rf)
 beh:∃ys,H Bh=some (.lst ys)/\Bh≠R/\Cb (λt v=>∃l,v=.ref l/\l≠R/\H l=some (.lst (nI (behP bs z t)))) (AZ (bs.length+1)) ys
section
variable{K:Au}{C Dc Gc g W r Bh R D:Addr}{z:Nat}{bs:List (List Int)}{H H':Hp}{xs:List V}{φ:Heap->Prop}
theorem tsRD(e:∀b o,b≠R->b≠D->H b=some o->H' b=some o)(hR:H R=some (.lst xs))(hD:H D=some (.ext φ)):TSm H H':=λb u hb t=>by
 have ne:∀{x:Addr}{o:HO},H x=some o->(∀ys,o≠.tup ys)->(∀q ys,o≠.frz q (.tup ys))->b≠x:=λ{x o} hx h1 h2 zz=>by
  rw[zz,hx] at hb;cases hb;obtain ⟨ys,e | ⟨q,e⟩⟩:=t
  ·exact h1 ys e
  ·exact h2 q ys e
 exact e b u (ne hR (by intro _ z;cases z) (by intro _ _ z;cases z)) (ne hD (by intro _ z;cases z) (by intro _ _ z;cases z)) hb
theorem Gr.keep(h:Gr u K C Dc Gc g W r Bh R D z bs H)(e:∀b o,b≠R->b≠D->H b=some o->H' b=some o)(hR:H R=some (.lst xs))(hD:H D=some (.ext φ)):Gr u K C Dc Gc g W r Bh R D z bs H':=by
 have ts:=tsRD e hR hD;have ni:∀{x c dx:Addr}{fs:List (Str×V)},H x=some (.ins c dx fs)->H' x=some (.ins c dx fs):=λ{x c dx fs} hx=>e _ _ (Cd hx hR (by intro z;cases z)) (Cd hx hD (by intro z;cases z)) hx;have nl:∀{x:Addr}{l:List V},x≠R->H x=some (.lst l)->H' x=some (.lst l):=λ{x l} hn hx=>e _ _ hn (Cd hx hD (by intro z;cases z)) hx;obtain ⟨d1,i1⟩:=h.ins;obtain ⟨d2,j,i2,i3⟩:=h.web;obtain ⟨d3,i4⟩:=h.rul;obtain ⟨ys,b1,b2,b3⟩:=h.beh;exact ⟨⟨d1,ni i1⟩,⟨d2,j,ni i2,Aq (Aq Az) _ _ _ _ ts i3⟩,⟨d3,ni i4⟩,⟨ys,nl b2 b1,b2,Paired.imp (λt v ⟨l,c1,c2,c3⟩=>⟨l,c1,c2,nl c2 c3⟩) b3⟩⟩
theorem Gr.same(h:Gr u K C Dc Gc g W r Bh R D z bs H)(e:Same H H'):Gr u K C Dc Gc g W r Bh R D z bs H':=by
 obtain ⟨d1,i1⟩:=h.ins;obtain ⟨d3,i4⟩:=h.rul;obtain ⟨ys,b1,b2,b3⟩:=h.beh;exact ⟨⟨d1,e _ _ i1⟩,h.web.same e,⟨d3,e _ _ i4⟩,⟨ys,e _ _ b1,b2,Paired.imp (λt v ⟨l,c1,c2,c3⟩=>⟨l,c1,c2,e _ _ c3⟩) b3⟩⟩
end
theorem Mt:∀(l:List Nat) (st:Sta) (p:Nat),passT u.al st (l++[p])=(passT u.al st l).bind λs=>if u.al (s.getD p 0)=true then some (s.set p 0) else none
 | [],st,p=>by
  show passT u.al st [p]=(some st).bind _;unfold passT;show (if _ then passT u.al _ [] else none)=_;rfl
 | q::l,st,p=>by
  show passT u.al st (q::(l++[p]))=_;unfold passT;by_cases c:u.al (st.getD q 0)=true
  ·rw[if_pos c,if_pos c,Mt l]
  ·rw[if_neg c,if_neg c]
   rfl
def VJ(u:Ru)(K:Au)(C Dc Gc:Addr):Sp:=λvs H Q _=>∃(g W r Bh R D:Addr) (z t:Nat) (bs:List (List Int)) (v:V) (o:Option Sta),vs=[.ref g,.int t,v]/\Gr u K C Dc Gc g W r Bh R D z bs H/\z<=10/\t<=bs.length/\RS z H v o /\
 ∀(v':V) (H':Hp),Same H H'->RS z H' v' (o.bind λr=>pasT u.al (Lp bs) z t r)->Q v' H'
section
variable{P:AM}{w:AT}{K:Au}{mg:Str->Option Ap}{base:Heap}{f C D Gc:Addr}{fd:BV}
theorem QW:FnScope ["self","number","reached","state","point"] ["self","number","reached"] (Ac Nz):=⟨rfl,rfl,rfl,by decide +kernel,rfl,by decide +kernel,by decide +kernel⟩
theorem Vw{fP:Addr}{fdP:BV}(F:Fun K "past_points" "Growth.past_points" Nz f fd)(U:Rul u K mg D)(O:Gro K mg Gc)(GP:FnOk P w K mg base CX0 2 fP fdP ["self","web","state","point"] (Qp u D))(bP:Binds K fdP ["self","web","state","point"] [])(mP:Meth K D "passed" fP) :
  FnOk P w K mg base CX0 3 f fd ["self","number","reached"] (VJ u K C D Gc):=by
 refine F.ok QW (λvs H Q E h=>?_) (λcdv A outer s H vs Q E hr h=>?_)
 ·obtain ⟨g,W,r,Bh,R,Dk,z,t,bs,v,o,rfl,_⟩:=h
  rfl
 obtain ⟨g,W,r,Bh,R,Dk,z,t,bs,v,o,rfl,gr,z10,tb,rs,q⟩:=h;refine ⟨_,Ae (Ax (i:=3) QW.nd rfl (BF rfl) (pv 2))
  (Ae (Cv C8 rfl (Bx (Bc Bm (Br (pv 0) rfl) (pv 1) (λ_ _=>rfl))) (Am (i:=4) QW.nd rfl (BF rfl))
   (Aj (CQ (Lw (ABg (pv 3))) (Aj (Ax (i:=3) QW.nd rfl (BF rfl) (CJ (Br (pv 0) rfl) U.cl mP GP hr bP .nil pass0 (Aa (Br (pv 0) rfl) (Aa (pv 3) (Aa (pv 4) Ad)))))) BX)))
  (Aj (Av (pv 3)))),?_⟩
 obtain ⟨dg,hg⟩:=gr.ins;obtain ⟨dr,hr0⟩:=gr.rul;obtain ⟨ys,hB,_,pB⟩:=gr.beh;have lB:=B4 pB;rw[CS] at lB;have tl:t<ys.length:=by lia
 obtain ⟨t',ht',l,el,_,hl⟩:=Paired.get pB (AK tl);have et:t'=t:=by
  have:=(AJ.mp ht').2;rw[List.getElem_range] at this;exact this.symm
 subst et;have hat:atI ys (t':Int)=some (.ref l):=by
  rw[<- el];exact Bl (AK tl)
 refine ⟨_,rfl,?_⟩;refine ⟨_,rfl,g,Gc,dg,_,_,rfl,hg,O.cl,O.nB,Xp _ _ _ _ _ _,_,rfl,Bh,ys,_,_,rfl,rfl,SqL.of hB,hat,l,rfl,⟨_,SqL.of hl⟩,?_⟩;refine DK (K:=K) (a:=l) (xs:=nI (behP bs z t')) (λi σ H2=>∃(v':V) (o4:Option V),σ=[some (.ref g),some (.int t'),some v,some v',o4]/\Same H H2/\RS z H2 v' (o.bind λr=>passT u.al r ((behP bs z t').take i)))
  ⟨v,none,rfl,Same.refl _,by
   have e:(o.bind λr=>passT u.al r ((behP bs z t').take 0))=o:=by cases o<;>rfl
   rw[e];exact rs⟩ (λi σ H2 _ ⟨_,_,_,s2,_⟩=>s2.seq (SqL.of hl)) ?_ ?_
 ·rintro i x σ H2 hx ⟨v',o4,rfl,s2,rs2⟩
  obtain ⟨pt,hp,rfl⟩:=ADN hx;have pz:pt<z:=BC.mp (C7.mp (BH hp)).1;have step:(o.bind λr=>passT u.al r ((behP bs z t').take (i+1)))=(o.bind λr=>passT u.al r ((behP bs z t').take i)).bind λs=>if u.al (s.getD pt 0)=true then some (s.set pt 0) else none:=by
   cases o with
   | none=>rfl
   | some r =>
    show passT u.al r _=(passT u.al r _).bind _;rw[EI,hp];exact Mt _ _ _
  cases e:(o.bind λr=>passT u.al r ((behP bs z t').take i)) with
  | none =>
   rw[e] at rs2 step;cases rs2;refine ⟨_,rfl,_,rfl,iteF ⟨.non,_,rfl,s2,?_⟩⟩;rw[step];exact rfl
  | some st =>
   rw[e] at rs2 step;obtain ⟨b,rfl,hb,sl⟩:=rs2;refine ⟨_,rfl,_,rfl,iteT ?_⟩;refine ⟨_,rfl,g,Gc,dg,_,_,rfl,s2 _ _ hg,O.cl,O.nU,KH _ _ _ _ _ _,r,dr,_,rfl,s2 _ _ hr0,U.no (by decide +kernel),_,rfl,g,Gc,dg,_,_,rfl,s2 _ _ hg,O.cl,O.nW,PN _ _ _ _ _ _,_,rfl,_,rfl,.non,.ref W,b,dr,r,pt,st,rfl,s2 _ _ hr0,hb,by lia,by lia,λc b' H3 s3 hb'=>?_,λc H3 s3=>?_⟩
   ·refine ⟨_,_,rfl,s2.trans s3,?_⟩
    rw[step];show RS z H3 _ (if _ then _ else _);rw[if_pos c];exact ⟨b',rfl,hb',by rw[Mn];exact sl⟩
   ·refine ⟨_,_,rfl,s2.trans s3,?_⟩
    rw[step];show RS z H3 _ (if _ then _ else _);rw[if_neg c];exact rfl
 ·rintro σ H2 ⟨v',o4,rfl,s2,rs2⟩
  rw[AAh,DI] at rs2;exact ⟨_,rfl,q v' H2 s2 rs2⟩
end
variable{u:Ru}
abbrev semC(u:Ru)(bs:List (List Int))(z d t:Nat):Option Sta->List Nat->Bool:=semG lefC (takT u.al (onB bs)) (pasT u.al (Lp bs) z) (λ_=>true) d t
abbrev keyC(t:Nat)(st:Sta):PKey:=(.inl (t:Int),st.map ED)
theorem Tc{t t':Nat}{st st':Sta}(h:keyC t st=keyC t' st'):t=t'/\st=st':=by
 have h1:=congrArg W3 h;have h2:=congrArg Prod.snd h;refine ⟨?_,?_⟩
 ·have:(ED (t:Int):Key)=ED (t':Int):=h1
  injection this with this
  lia
 ·have h2':st.map (ED:Int->Key)=st'.map ED:=h2
  clear h h1 h2
  induction st generalizing st' with
  | nil=>cases st' with
   | nil=>rfl
   | cons=>cases h2'
  | cons a st ih =>
   cases st' with
   | nil=>cases h2'
   | cons b st' =>
    rw[B5,B5] at h2';injection h2' with e1 e2
    injection e1 with e1
    rw[e1,ih e2]
def Known(u:Ru)(bs:List (List Int))(z:Nat)(rows:List Row)(kvs:List (PKey×V)):Prop:=∀(t:Nat) (st:Sta) (v:V),valV kvs (keyC t st)=some v->∃k:Nat,v=.int k/\t<bs.length/\Lead rows t k (stepS lefC (takT u.al (onB bs)) t (semC u bs z (bs.length-1-t) (t+1)) st)
theorem Known.app{bs:List (List Int)}{z:Nat}{rows more:List Row}{kvs:List (PKey×V)}(o:Ok bs.length rows)(h:Known u bs z rows kvs):Known u bs z (rows++more) kvs:=λt st v hv=>let ⟨k,e,tl,ld⟩:=h t st v hv;⟨k,e,tl,ld.app o⟩
theorem UL{H:Hp}{x b:Addr}{t:Nat}{st:Sta}(hx:H x=some (.tup [.int (t:Int),.ref b]))(hb:StAt H b st):NKey H (keyC t st) x:=by
 refine ⟨b,hx,?_⟩;have e:(st.map (ED:Int->Key)).map kV=st.map V.int:=by rw[J3];rfl
 show H b=some (.tup ((st.map ED).map kV));rw[e];exact hb
structure Rw(u:Ru)(P:AM)(w:AT)(K:Au)(R D:Addr)(bs:List (List Int))(z:Nat)(H:Hp)(rows:List Row)(kvs:List (PKey×V)):Prop where
 at_:∃xs,H R=some (.lst xs)/\Cb (K53s.rRow K H) rows xs
 dn:DN P w H D kvs
 ok:Ok bs.length rows
 kn:Known u bs z rows kvs
 len:kvs.length<=rows.length
def Old(t:Nat)(kvs kvs':List (PKey×V)):Prop:=∀(t':Nat) (st:Sta),t'<t->valV kvs' (keyC t' st)=valV kvs (keyC t' st)
theorem AAV{bs:List (List Int)}{z d t:Nat}{o:Option Sta}(h:(o.bind λr=>pasT u.al (Lp bs) z t r)=none)(s:List Nat):semC u bs z d t o s=false:=by
 cases o with
 | none=>cases d<;>rfl
 | some r =>
  have h':pasT u.al (Lp bs) z t r=none:=h;cases d with
  | zero=>show (match pasT u.al (Lp bs) z t r with | none=>false | some st=>_)=false;rw[h']
  | succ d=>show (match pasT u.al (Lp bs) z t r with | none=>false | some st=>_)=false;rw[h']
theorem ABw{bs:List (List Int)}{z t:Nat}{o:Option Sta}{st:Sta}(h:(o.bind λr=>pasT u.al (Lp bs) z t r)=some st)(s:List Nat):semC u bs z 0 t o s=decide (s=[]):=by
 cases o with
 | none=>cases h
 | some r =>
  have h':pasT u.al (Lp bs) z t r=some st:=h;show (match pasT u.al (Lp bs) z t r with | none=>false | some st=>true&&decide (s=[]))=_;rw[h'];exact VT _
theorem AAH{bs:List (List Int)}{z d t:Nat}{o:Option Sta}{st:Sta}(h:(o.bind λr=>pasT u.al (Lp bs) z t r)=some st):semC u bs z (d+1) t o=stepS lefC (takT u.al (onB bs)) t (semC u bs z d (t+1)) st:=by
 funext s
 cases o with
 | none=>cases h
 | some r =>
  have h':pasT u.al (Lp bs) z t r=some st:=h;show (match pasT u.al (Lp bs) z t r with | none=>false | some st=>stepS lefC (takT u.al (onB bs)) t (semC u bs z d (t+1)) st s)=_;rw[h']
def Lz(u:Ru)(P:AM)(w:AT)(K:Au)(C Dc Gc:Addr)(d:Nat):Sp:=λvs H Q _=>∃(g W r Bh R D:Addr) (z t:Nat) (bs:List (List Int)) (v:V) (o:Option Sta) (rows:List Row) (kvs:List (PKey×V)),vs=[.ref g,.int t,v]/\t+d=bs.length/\Gr u K C Dc Gc g W r Bh R D z bs H/\1<=z/\z<=10/\bs.length<=12/\RS z H v o/\Rw u P w K R D bs z H rows kvs/\rows.length+2 ^ d<=4100 /\
 ∀(k:Nat) (more:List Row) (kvs':List (PKey×V)) (H':Hp),(∀b o,b≠R->b≠D->H b=some o->H' b=some o)->Rw u P w K R D bs z H' (rows++more) kvs'->Lead (rows++more) t k (semC u bs z d t o)->Old t kvs kvs'->Cnt t more->more.length+1<=2 ^ d->Q (.int k) H'
section
variable{P:AM}{w:AT}{K:Au}{R D:Addr}{bs:List (List Int)}{z:Nat}{H H':Hp}{rows:List Row}{kvs:List (PKey×V)}
theorem Rw.same(h:Rw u P w K R D bs z H rows kvs)(e:Same H H'):Rw u P w K R D bs z H' rows kvs:=by
 obtain ⟨xs,h1,h2⟩:=h.at_;exact ⟨⟨xs,e _ _ h1,Paired.imp (λ_ _ r=>K53s.Bv _ _ _ _ e.ts r) h2⟩,h.dn.keep (λo=>e _ o) (λb ys=>e b _),h.ok,h.kn,h.len⟩
end
section
variable{P:AM}{w:AT}{K:Au}{mg:Str->Option Ap}{base:Heap}{f C D Gc:Addr}{fd:BV}
theorem Fv:FnScope ["self","number","reached","state","without","having"] ["self","number","reached"] (Ac FW):=⟨rfl,rfl,rfl,by decide +kernel,rfl,by decide +kernel,by decide +kernel⟩
theorem Kh(d:Nat){fP fL fT fU:Addr}{fdP fdL fdT fdU:BV}(F:Fun K "knot_at" "Growth.knot_at" FW f fd)(T:Txt K mg C)(U:Rul u K mg D)(O:Gro K mg Gc)
  (GP:FnOk P w K mg base CX0 3 fP fdP ["self","number","reached"] (VJ u K C D Gc)) (bP:Binds K fdP ["self","number","reached"] []) (mP:Meth K Gc "past_points" fP)
  (GL:FnOk P w K mg base CX0 1 fL fdL ["self","web","state","number"] Ug) (bL:Binds K fdL ["self","web","state","number"] []) (mL:Meth K D "left" fL)
  (GT:FnOk P w K mg base CX0 2 fT fdT ["self","web","state","number"] (Py u K C D)) (bT:Binds K fdT ["self","web","state","number"] []) (mT:Meth K D "taken" fT)
  (GU:FnOk P w K mg base CX0 1 fU fdU ["self","web","state"] AAq) (bU:Binds K fdU ["self","web","state"] []) (mU:Meth K D "fulfilled" fU)
  {sp:Sp} (hsp:∀vs H Q E,d≠0->Lz u P w K C D Gc (d-1) vs H Q E->sp vs H Q E) (GK:FnOk P w K mg base CX0 (d+3) f fd ["self","number","reached"] sp) (bK:Binds K fd ["self","number","reached"] []) (mK:Meth K Gc "knot_at" f) :
  FnOk P w K mg base CX0 (d+4) f fd ["self","number","reached"] (Lz u P w K C D Gc d):=by
 refine F.ok Fv (λvs H Q E h=>?_) (λcdv A outer s H vs Q E hr h=>?_)
 ·obtain ⟨g,W,r,Bh,R,Dk,z,t,bs,v,o,rows,kvs,rfl,_⟩:=h
  rfl
 obtain ⟨g,W,r,Bh,R,Dk,z,t,bs,v,o,rows,kvs,rfl,td,gr,z1,z10,b8,rs,rw0,r6,q⟩:=h;have hr1:Room 1 _:=hr.mono (by lia);have hr2:Room 2 _:=hr.mono (by lia);have hr3:Room 3 _:=hr.mono (by lia);refine ⟨_,Ae (Ax (i:=3) Fv.nd rfl (BF rfl) (CJ (pv 0) O.cl mP GP hr3 bP .nil pass0 (Aa (pv 1) (Aa (pv 2) Ad))))
  (Ae (CQ (Lw (ADQ (pv 3))) (Aj (Av Ah)) BX)
  (Ae (CQ (Ar Eu (pv 1) (Br (pv 0) rfl) (nomark _)) (Aj (Av (Ig (Hh (CJ (Br (pv 0) rfl) U.cl mU GU hr1 bU .nil pass0 (Aa (Br (pv 0) rfl) (Aa (pv 3) Ad)))) Ah Ah))) BX)
  (Ws (CQ (Lw (Yr (CW hr) (CG (Aa (pv 1) (Aa (pv 3) Ad))) (Br (pv 0) rfl)) rfl)
   (Ae (Ax (i:=4) Fv.nd rfl (BF rfl) (CJ (pv 0) O.cl mK GK hr bK .nil pass0 (Aa (Aw Cw (pv 1) Ah) (Aa (CJ (Br (pv 0) rfl) U.cl mL GL hr1 bL .nil pass0 (Aa (Br (pv 0) rfl) (Aa (pv 3) (Aa (pv 1) Ad)))) Ad))))
   (Ae (Ax (i:=5) Fv.nd rfl (BF rfl) (CJ (pv 0) O.cl mK GK hr bK .nil pass0 (Aa (Aw Cw (pv 1) Ah) (Aa (CJ (Br (pv 0) rfl) U.cl mT GT hr2 bT .nil pass0 (Aa (Br (pv 0) rfl) (Aa (pv 3) (Aa (pv 1) Ad)))) Ad))))
   (Ae (DY (Mw Fn E8 E9 Cz (Br (pv 0) rfl) (Aa (CG (Aa (pv 1) (Aa (pv 4) (Aa (pv 5) Ad)))) Ad)))
   (Aj (ABe (CW hr) (Br (pv 0) rfl) (CG (Aa (pv 1) (Aa (pv 3) Ad))) (Aw Cw (BK BZ rfl T.len DT (Aa (Br (pv 0) rfl) Ad)) Ah) rfl))))) BX)
  (Aj (Av (ABn (CW hr) (Br (pv 0) rfl) (CG (Aa (pv 1) (Aa (pv 3) Ad))) (λ_ _=>rfl))))))),?_⟩
 obtain ⟨dg,hg⟩:=gr.ins;obtain ⟨dr,hr0⟩:=gr.rul;have p2:1<=2 ^ d:=Su;refine ⟨_,rfl,g,dg,_,rfl,hg,Wn _ _ _ _ _ _ (by decide +kernel) (by decide +kernel) (by decide +kernel) (by decide +kernel) (by decide +kernel) (by decide +kernel),_,rfl,_,rfl,g,W,r,Bh,R,Dk,z,t,bs,v,o,rfl,gr,z10,by lia,rs,λv' H1 s1 rs1=>?_⟩;have gr1:=gr.same s1;have rw1:=rw0.same s1;have hg1:=s1 _ _ hg;have hr1':=s1 _ _ hr0;cases e:(o.bind λr=>pasT u.al (Lp bs) z t r) with
 | none =>
  rw[e] at rs1;cases rs1;refine ⟨_,rfl,_,rfl,iteT ?_⟩;exact q 0 [] kvs H1 (λb o _ _ e=>s1 _ _ e) (by rw[CU];exact rw1) (Wz (AAV e)) (λ_ _ _=>rfl) cnt_nil (by simpa using p2)
 | some st =>
  rw[e] at rs1;obtain ⟨b,rfl,hb,sl⟩:=rs1;refine ⟨_,rfl,_,rfl,iteF ?_⟩;refine ⟨_,rfl,_,rfl,g,Gc,dg,_,_,rfl,hg1,O.cl,O.nA,Nk _ _ _ _ _ _,rfl,_,rfl,?_⟩;by_cases d0:d=0
  ·subst d0
   refine iteP (by rw[show t=bs.length by lia]) ?_;refine ⟨_,rfl,g,Gc,dg,_,_,rfl,hg1,O.cl,O.nU,KH _ _ _ _ _ _,r,dr,_,rfl,hr1',U.no (by decide +kernel),_,rfl,g,Gc,dg,_,_,rfl,hg1,O.cl,O.nW,PN _ _ _ _ _ _,_,rfl,_,_,_,rfl,_,rfl,iteT ?_⟩;exact q 1 [] kvs H1 (λb o _ _ e=>s1 _ _ e) (by rw[CU];exact rw1) (Zj (ABw e)) (λ_ _ _=>rfl) cnt_nil (by simpa using p2)
  ·obtain ⟨d',rfl⟩:∃d',d=d'+1:=⟨d-1,by lia⟩
   have tn:t<bs.length:=by lia
   refine iteN (λz=>by injection z with z;lia) ?_;have pd:2 ^ (d'+1)=2 ^ d'+2 ^ d':=by rw[Me];lia
   have pd1:1<=2 ^ d':=Su;refine ⟨λσ' H'=>∃(o4 o5:Option V) (k:Nat) (more:List Row) (kvs':List (PKey×V)),σ'=[some (.ref g),some (.int t),some v,some (.ref b),o4,o5]/\(∀b o,b≠R->b≠Dk->H b=some o->H' b=some o)/\Gr u K C D Gc g W r Bh R Dk z bs H'/\Rw u P w K R Dk bs z H' (rows++more) kvs'/\valV kvs' (keyC t st)=some (.int k)/\Lead (rows++more) t k (semC u bs z (d'+1) t o)/\Old t kvs kvs'/\Cnt t more/\more.length+1<=2 ^ (d'+1)/\StAt H' b st,?_,?_⟩
   ·refine ⟨_,rfl,_,rfl,(by show 2<=sizeLine;decide),λx hx=>?_⟩
    have sx:=Same.new hx (.tup [.int (t:Int),.ref b]);have hg2:=sx _ _ hg1;have rw2:=rw1.same sx;have gr2:=gr1.same sx;have hb2:StAt (upd H1 x (.tup [.int (t:Int),.ref b])) b st:=sx _ _ hb;refine ⟨_,rfl,g,Gc,dg,_,_,rfl,hg2,O.cl,O.nK,Le _ _ _ _ _ _,Dk,valV kvs (keyC t st),rfl,⟨kvs,keyC t st,x,rw2.dn,rfl,UL Ab hb2,rfl⟩,_,rfl,?_⟩;have s2:=s1.trans sx;cases ev:valV kvs (keyC t st) with
    | some v0 =>
     obtain ⟨k,rfl,_,ld⟩:=rw0.kn t st v0 ev;refine iteF ⟨_,_,k,[],kvs,rfl,λb o _ _ e=>s2 _ _ e,gr2,by rw[CU];exact rw2,ev,?_,λ_ _ _=>rfl,cnt_nil,by simp;lia,hb2⟩;rw[CU,AAH e,show d'=bs.length-1-t by lia];exact ld
    | none =>
     refine iteT ?_;have hr2':=sx _ _ hr1';have e1:((t:Int)+1)=((t+1:Nat):Int):=by lia
     refine ⟨_,rfl,g,dg,_,rfl,hg2,Wn _ _ _ _ _ _ (by decide +kernel) (by decide +kernel) (by decide +kernel) (by decide +kernel) (by decide +kernel) (by decide +kernel),_,rfl,_,_,rfl,rfl,_,rfl,g,Gc,dg,_,_,rfl,hg2,O.cl,O.nU,KH _ _ _ _ _ _,r,dr,_,rfl,hr2',U.no (by decide +kernel),_,rfl,g,Gc,dg,_,_,rfl,hg2,O.cl,O.nW,PN _ _ _ _ _ _,_,rfl,_,rfl,_,_,_,_,rfl,?_⟩;refine hsp _ _ _ _ (by lia) ⟨g,W,r,Bh,R,Dk,z,t+1,bs,.ref b,some st,rows,kvs,congrArg (λi=>[V.ref g,V.int i,V.ref b]) e1,by lia,gr2,z1,z10,b8,⟨b,rfl,hb2,sl⟩,rw2,by rw[DS];lia,λk1 more1 kvs1 H3 kp3 rw3 ld1 old1 cnt1 ml1=>?_⟩;rw[DS] at ld1 ml1;obtain ⟨xs2,eR2,_⟩:=id rw2.at_;obtain ⟨_,_,ax2,eD2,_⟩:=id rw2.dn;have gr3:=gr2.keep kp3 eR2 eD2;have ts3:=tsRD kp3 eR2 eD2;obtain ⟨dg3,hg3⟩:=gr3.ins;obtain ⟨dr3,hr3'⟩:=gr3.rul;have hb3:StAt H3 b st:=ts3 _ _ hb2 ⟨_,.inl rfl⟩;refine ⟨_,rfl,g,dg3,_,rfl,hg3,Wn _ _ _ _ _ _ (by decide +kernel) (by decide +kernel) (by decide +kernel) (by decide +kernel) (by decide +kernel) (by decide +kernel),_,rfl,_,_,rfl,rfl,_,rfl,g,Gc,dg3,_,_,rfl,hg3,O.cl,O.nU,KH _ _ _ _ _ _,r,dr3,_,rfl,hr3',U.no (by decide +kernel),_,rfl,g,Gc,dg3,_,_,rfl,hg3,O.cl,O.nW,PN _ _ _ _ _ _,_,rfl,_,rfl,r,W,b,dr3,t,z,bs,st,rfl,hr3',gr3.web,hb3,tn,by lia,sl,λv' H4 s4 rs'=>?_⟩;have rw4:=rw3.same s4;have gr4:=gr3.same s4;refine hsp _ _ _ _ (by lia) ⟨g,W,r,Bh,R,Dk,z,t+1,bs,v',takT u.al (onB bs) t st,rows++more1,kvs1,congrArg (λi=>[V.ref g,V.int i,v']) e1,by lia,gr4,z1,z10,b8,rs',rw4,by rw[DS,By];lia,λk2 more2 kvs2 H5 kp5 rw5 ld2 old2 cnt2 ml2=>?_⟩;rw[DS] at ld2 ml2;obtain ⟨xs4,eR4,_⟩:=id rw4.at_;obtain ⟨_,_,ax4,eD4,_⟩:=id rw4.dn;have gr5:=gr4.keep kp5 eR4 eD4;have ts5:=tsRD kp5 eR4 eD4;obtain ⟨dg5,hg5⟩:=gr5.ins;have hb5:StAt H5 b st:=ts5 _ _ (s4 _ _ hb3) ⟨_,.inl rfl⟩;obtain ⟨xs5,eR5,px5⟩:=id rw5.at_;obtain ⟨_,_,ax5,eD5,_⟩:=id rw5.dn;have lx5:=B4 px5;refine ⟨_,rfl,g,Gc,dg5,_,_,rfl,hg5,O.cl,O.nR,Pn _ _ _ _ _ _,.inl ⟨rfl,_,SqL.of eR5⟩,_,rfl,_,rfl,_,rfl,(by show 3<=sizeLine;decide),λy hy=>?_⟩;have sy:=Same.new hy (.tup [.int (t:Int),.int (k1:Int),.int (k2:Int)]);have l5:xs5.length<=4100:=by
      rw[<- lx5];simp only[By];lia
     refine ⟨R,_,_,rfl,rfl,sy _ _ eR5,smallN (by lia),?_⟩;obtain ⟨ok6,ld6⟩:=AAm (lef:=lefC) (tak:=takT u.al (onB bs)) (g:=semC u bs z d' (t+1)) (st:=st) rw5.ok tn (ld1.app rw3.ok) ld2;have RD:R≠Dk:=Cd eR5 eD5 (by intro z;cases z);have gR:g≠R:=Cd hg5 eR5 (by intro z;cases z);have eR6y:=sy _ _ eR5;have tl6:=TSm.lst (o:=.lst (xs5++[.ref y])) eR6y;have k6:∀c o,c≠R->H5 c=some o->(upd (upd H5 y (.tup [.int (t:Int),.int (k1:Int),.int (k2:Int)])) R (.lst (xs5++[.ref y]))) c=some o:=λc o h e=>by rw[Ag h];exact sy _ _ e
     have gr6:=gr5.keep (H':=upd (upd H5 y (.tup [.int (t:Int),.int (k1:Int),.int (k2:Int)])) R (.lst (xs5++[.ref y]))) (λc o h _ e=>k6 c o h e) eR5 eD5;have dn6:=rw5.dn.keep (H':=upd (upd H5 y (.tup [.int (t:Int),.int (k1:Int),.int (k2:Int)])) R (.lst (xs5++[.ref y]))) (λo=>k6 _ o (DM RD)) (λc zs ec=>k6 c _ (Cd ec eR5 (by intro z;cases z)) ec);have hb6:StAt (upd (upd H5 y (.tup [.int (t:Int),.int (k1:Int),.int (k2:Int)])) R (.lst (xs5++[.ref y]))) b st:=k6 _ _ (Cd hb5 eR5 (by intro z;cases z)) hb5;have eR6:(upd (upd H5 y (.tup [.int (t:Int),.int (k1:Int),.int (k2:Int)])) R (.lst (xs5++[.ref y]))) R=some (.lst (xs5++[.ref y])):=Ab;have px6:Cb (K53s.rRow K (upd (upd H5 y (.tup [.int (t:Int),.int (k1:Int),.int (k2:Int)])) R (.lst (xs5++[.ref y])))) (rows++more1++more2++[(t,k1,k2)]) (xs5++[.ref y]):=by
      refine Paired.app (Paired.imp (λ_ _ c=>K53s.Bv _ _ _ _ (sy.ts.trans tl6) c) px5) (Paired.one ⟨y,rfl,SqT.of ?_⟩);rw[Ag (Cd (show (upd H5 y (.tup [.int (t:Int),.int (k1:Int),.int (k2:Int)])) y=some _ from Ab) eR6y (by intro z;cases z))];exact Ab
     generalize upd (upd H5 y (.tup [.int (t:Int),.int (k1:Int),.int (k2:Int)])) R (.lst (xs5++[.ref y]))=H6 at k6 gr6 dn6 hb6 eR6 px6;obtain ⟨dg6,hg6⟩:=gr6.ins;obtain ⟨_,_,ax6,eD6,_⟩:=id dn6;have new:valV kvs2 (keyC t st)=none:=by rw[old2 t st (by lia),old1 t st (by lia),ev]
     have kl2:=rw5.len;refine ⟨_,rfl,g,Gc,dg6,_,_,rfl,hg6,O.cl,O.nR,Pn _ _ _ _ _ _,R,_,rfl,.inl (SqL.of eR6),_,_,rfl,rfl,_,rfl,g,Gc,dg6,_,_,rfl,hg6,O.cl,O.nK,Le _ _ _ _ _ _,_,rfl,_,rfl,(by show 2<=sizeLine;decide),λu hu=>?_⟩;have su:=Same.new hu (.tup [.int (t:Int),.ref b]);refine ⟨Dk,kvs2,keyC t st,u,rfl,rfl,dn6.keep (λo=>su _ o) (λc zs=>su c _),UL Ab (su _ _ hb6),new,smallN (by rw[lx5] at kl2;lia),λH9 oth dn9=>?_⟩;have kl:(((xs5++[V.ref y]).length:Nat):Int)+1=(((rows++more1++more2).length+2:Nat):Int):=by
      rw[By,DC,<- lx5];lia
     rw[show (λ(i j:Int)=>V.int (i+j)) (((xs5++[V.ref y]).length:Nat):Int) 1=V.int (((rows++more1++more2).length+2:Nat):Int) from congrArg V.int kl] at dn9;have k9:∀c o,c≠Dk->H6 c=some o->H9 c=some o:=λc o h e=>by rw[oth c h];exact su _ _ e
     have eas:rows++(more1++more2++[(t,k1,k2)])=rows++more1++more2++[(t,k1,k2)]:=by simp only[C0]
     have ts9:TSm H6 H9:=tsRD (R:=R) (D:=Dk) (λc o _ h e=>k9 c o h e) eR6 eD6;refine ⟨_,_,(rows++more1++more2).length+2,more1++more2++[(t,k1,k2)],putK kvs2 (keyC t st) (.int (((rows++more1++more2).length+2:Nat):Int)),rfl,λc o h1 h2 e=>?_,?_,?_,?_,?_,?_,AAP cnt1 cnt2,?_,ts9 _ _ hb6 ⟨_,.inl rfl⟩⟩
     ·exact k9 _ _ h2 (k6 _ _ h1 (kp5 _ _ h1 h2 (s4 _ _ (kp3 _ _ h1 h2 (s2 _ _ e)))))
     ·exact gr6.keep (λc o _ h e=>k9 c o h e) eR6 eD6
     ·rw[eas]
      refine ⟨⟨_,k9 _ _ RD eR6,Paired.imp (λ_ _ c=>K53s.Bv _ _ _ _ ts9 c) px6⟩,dn9,ok6,λt' st' v' hv'=>?_,?_⟩
      ·rw[Ea] at hv'
       by_cases c:keyC t' st'=keyC t st
       ·rw[if_pos c] at hv'
        cases hv';obtain ⟨rfl,rfl⟩:=Tc c;refine ⟨_,rfl,tn,?_⟩;rw[show bs.length-1-t'=d' by lia];exact ld6
       ·rw[if_neg c] at hv'
        exact (rw5.kn.app rw5.ok) t' st' v' hv'
      ·rw[Hv _ new,By,DC,By,DC]
       lia
     ·rw[Ea,if_pos rfl]
     ·rw[eas,AAH e]
      exact ld6
     ·intro t' st' lt
      rw[Ea,if_neg (λc=>by have:=(Tc c).1;lia),old2 t' st' (by lia),old1 t' st' (by lia)]
     ·simp only[By,DC]
      lia
   ·rintro σ H6 ⟨o4,o5,k,more,kvs',rfl,kp,gr6,rw6,val,ld,old,cnt,ml,hb6⟩
    obtain ⟨dg6,hg6⟩:=gr6.ins;refine ⟨_,rfl,g,Gc,dg6,_,_,rfl,hg6,O.cl,O.nK,Le _ _ _ _ _ _,_,rfl,_,rfl,(by show 2<=sizeLine;decide),λy hy=>?_⟩;have sy:=Same.new hy (.tup [.int (t:Int),.ref b]);exact ⟨Dk,.int k,rfl,⟨kvs',keyC t st,y,rw6.dn.keep (λo=>sy _ o) (λc zs=>sy c _),rfl,UL Ab (sy _ _ hb6),val⟩,q k more kvs' _ (λc o h1 h2 e=>sy _ _ (kp c o h1 h2 e)) (rw6.same sy) ld old cnt ml⟩
end
variable{u:Ru}
def Wd(u:Ru)(P:AM)(w:AT)(K:Au)(C Dc Gc:Addr):Sp:=λvs H Q _=>∃(g dx W r dr:Addr) (z:Nat) (bs:List (List Int)),vs=[.ref g,.ref W,.ref r]/\H g=some (.ins Gc dx [])/\W≠g/\r≠g/\WebAt K C H W z bs/\H r=some (.ins Dc dr u.rf)/\z<=10/\bs.length<=12 /\
 ∀(Bh R D:Addr) (H':Hp),(∀b o,H b=some o->b≠g->H' b=some o)->Gr u K C Dc Gc g W r Bh R D z bs H'->Rw u P w K R D bs z H' [] []->H R=none->H D=none->Q .non H'
section
variable{P:AM}{w:AT}{K:Au}{mg:Str->Option Ap}{base:Heap}{f C D Gc:Addr}{fd:BV}
theorem ACG:FnScope ["self","web","rule"] ["self","web","rule"] (Ac Hj):=⟨rfl,rfl,rfl,by decide +kernel,rfl,by decide +kernel,by decide +kernel⟩
theorem ZR{fB fT:Addr}{fdB fdT:BV}(F:Fun K "__init__" "Growth.__init__" Hj f fd)(T:Txt K mg C)(O:Gro K mg Gc)
  (GT:FnOk P w K mg base CX0 1 fT fdT ["self"] (Pb K C)) (bT:Binds K fdT ["self"] []) (mT:Meth K C "ties" fT)
  (GB:FnOk P w K mg base CX0 2 fB fdB ["web","number"] (ABG K C)) (bB:Binds K fdB ["web","number"] []) (kB:AI K (.ref fB)=true) (mB:mg "points_behind" = some (.ref fB)) :
  FnOk P w K mg base CX0 3 f fd ["self","web","rule"] (Wd u P w K C D Gc):=by
 refine F.ok ACG (λvs H Q E h=>?_) (λcdv A outer s H vs Q E hr h=>?_)
 ·obtain ⟨g,dx,W,r,dr,z,bs,rfl,_⟩:=h
  rfl
 obtain ⟨g,dx,W,r,dr,z,bs,rfl,hg,Wg,rg,hW,hr0,z10,b8,q⟩:=h;have hr1:Room 1 _:=hr.mono (by decide);refine ⟨_,Ae (Dp (pv 0) (pv 1) rfl)
  (Ae (Dp (pv 0) (pv 2) rfl)
  (Ae (Dp (pv 0) (BK BZ rfl T.len DT (Aa (Bo (pv 1) T.cl mT GT hr1 bT .nil pass0) Ad)) rfl)
  (Ae (Dp (pv 0) (Ca (Ac Hj) ["number"] ["web"] [1] rfl rfl (by decide +kernel) ⟨⟨rfl,by decide +kernel⟩,trivial⟩ (Cp rfl T.range (Aa (Aw Cw (Br (pv 0) rfl) Ah) Ad))
   (λ_ _ _=>Am (i:=0) (show ((["number"]:List Str)++(["web"]:List Str)).Nodup by decide +kernel) rfl (BF rfl)) (λ_ _ _=>Ci)
   (λ_ _ _=>BP GB hr rfl mB kB bB .nil pass0 (Aa (pv 1) (Aa (pv 0) Ad)))) rfl)
  (Ae (Dp (pv 0) (Ck Ad) rfl)
  (Aj (Dp (pv 0) Ze rfl)))))),?_⟩
 have tsI:∀{H0:Hp}{fs gs:List (Str×V)},H0 g=some (.ins Gc dx fs)->TSm H0 (upd H0 g (.ins Gc dx gs)):=λ{H0 fs gs} hP b u hb t=>by
  rw[Ag ?_]
  ·exact hb
  ·rintro rfl
   rw[hP] at hb;cases hb;obtain ⟨ys,e | ⟨o,e⟩⟩:=t
   ·cases e
   ·cases e
 refine ⟨_,rfl,_,rfl,g,Gc,dx,[],rfl,hg,O.cl,O.nW,(by show 0<1000;decide),?_⟩;refine ⟨_,rfl,_,rfl,g,Gc,dx,_,rfl,Ab,O.cl,O.nU,(by show 1<1000;decide),?_⟩;rw[ACY];have k1:∀b o,b≠g->H b=some o->(upd H g (.ins Gc dx (putF "rule" (.ref r) (putF "web" (.ref W) [])))) b=some o:=λb o h e=>by rw[Ag h];exact e
 have ts1:=tsI (gs:=putF "rule" (.ref r) (putF "web" (.ref W) [])) hg;have g1:(upd H g (.ins Gc dx (putF "rule" (.ref r) (putF "web" (.ref W) [])))) g=some (.ins Gc dx (putF "rule" (.ref r) (putF "web" (.ref W) []))):=Ab;generalize upd H g (.ins Gc dx (putF "rule" (.ref r) (putF "web" (.ref W) [])))=H1 at k1 ts1 g1;have hW1:WebAt K C H1 W z bs:=by
  obtain ⟨d,j,a1,a2⟩:=hW;exact ⟨d,j,k1 _ _ Wg a1,Aq (Aq Az) _ _ _ _ ts1 a2⟩
 obtain ⟨dw,jw,hw1,_⟩:=id hW1;refine ⟨_,rfl,W,dw,_,rfl,hw1,Ei _ _ (by decide +kernel) (by decide +kernel),W,z,bs,rfl,hW1,λl H2 s2 hl hL=>?_⟩;obtain ⟨l',ts,el,hX,px⟩:=hL;cases el;have lt:ts.length=bs.length:=(B4 px).symm;refine ⟨l,_,rfl,.inl hX,_,rfl,g,Gc,dx,_,rfl,s2 _ _ g1,O.cl,O.nA,(by show 2<1000;decide),?_⟩;have g2:=s2 _ _ g1;rw[lt];have k3:∀b o,b≠g->H b=some o->(upd H2 g (.ins Gc dx (putF "amount" (.int (bs.length:Nat)) (putF "rule" (.ref r) (putF "web" (.ref W) []))))) b=some o:=λb o h e=>by rw[Ag h];exact s2 _ _ (k1 b o h e)
 have ts3:=ts1.trans (s2.ts.trans (tsI (gs:=putF "amount" (.int (bs.length:Nat)) (putF "rule" (.ref r) (putF "web" (.ref W) []))) g2));have g3:(upd H2 g (.ins Gc dx (putF "amount" (.int (bs.length:Nat)) (putF "rule" (.ref r) (putF "web" (.ref W) []))))) g=some (.ins Gc dx (putF "amount" (.int (bs.length:Nat)) (putF "rule" (.ref r) (putF "web" (.ref W) [])))):=Ab;generalize upd H2 g (.ins Gc dx (putF "amount" (.int (bs.length:Nat)) (putF "rule" (.ref r) (putF "web" (.ref W) []))))=H3 at k3 ts3 g3;have hW3:WebAt K C H3 W z bs:=by
  obtain ⟨d,j,a1,a2⟩:=hW;exact ⟨d,j,k3 _ _ Wg a1,Aq (Aq Az) _ _ _ _ ts3 a2⟩
 refine ⟨_,rfl,g,Gc,dx,_,_,rfl,g3,O.cl,O.nA,(by rw[Ai,if_pos rfl]),_,_,rfl,rfl,_,rfl,by lia,by lia,λBh hBh=>?_⟩;refine Cg (lo:=0) (n:=(((bs.length:Nat):Int)+1).toNat) (λj τ H4=>∃(o:Option V) (ys:List V),τ=[o,some (.ref W)]/\Same H3 H4/\H4 Bh=some (.lst ys)/\Cb (λt v=>∃l,v=.ref l/\l≠Bh/\H4 l=some (.lst (nI (behP bs z t)))) (AZ j) ys) ⟨none,[],rfl,Same.new hBh _,Ab,.nil⟩ ?_ ?_
 ·rintro j τ H4 hj ⟨o,ys,rfl,s4,eB,pB⟩
  have ej:(0:Int)+j=(j:Int):=by lia
  rw[ej];have ly:=B4 pB;rw[CS] at ly;refine yesN ⟨_,rfl,_,rfl,W,j,z,bs,rfl,hW3.same s4,z10,by lia,λm H5 s5 hm em=>?_⟩;have mB:m≠Bh:=λz=>by rw[z,eB] at hm;cases hm
  refine ⟨_,s5 _ _ eB,Ay (by lia),_,_,rfl,λb o e=>?_,Ab,?_⟩
  ·rw[Ag (Af e hBh)]
   exact s5 _ _ (s4 b o e)
  ·rw[IN]
   refine Paired.app (Paired.imp (λt v ⟨l,e1,e2,e3⟩=>⟨l,e1,e2,by rw[Ag e2];exact s5 _ _ e3⟩) pB) (Paired.one ⟨m,rfl,mB,by rw[Ag mB];exact em⟩)
 rintro τ H4 ⟨o,ys,rfl,s4,eB,pB⟩;rw[show (((bs.length:Nat):Int)+1).toNat=bs.length+1 by lia] at pB;have g4:=s4 _ _ g3;have gB:Bh≠g:=λz=>by rw[z,g4] at eB;cases eB
 refine ⟨_,rfl,g,Gc,dx,_,rfl,g4,O.cl,O.nB,(by show 3<1000;decide),?_⟩;have nBH:H Bh=none:=by
  cases e:H Bh with
  | none=>rfl
  | some o=>have:=k3 _ _ gB e;rw[hBh] at this;cases this
 refine ⟨Bi _,λR hR=>?_⟩;have gR:R≠g:=λz=>by rw[z,Ab] at hR;cases hR
 have hR4:H4 R=none:=by rw[Ag gR] at hR;exact hR
 have BR:Bh≠R:=Af eB hR4;refine ⟨_,rfl,g,Gc,dx,_,rfl,by rw[Ag (DM gR)];exact Ab,O.cl,O.nR,(by show 4<1000;decide),?_⟩;refine λDk hD dn0=>?_;have gD:Dk≠g:=λz=>by rw[z,Ab] at hD;cases hD
 have RD:Dk≠R:=λz=>by rw[z,Ag gR,Ab] at hD;cases hD
 have hD4:H4 Dk=none:=by rw[Ag gD,Ag RD,Ag gD] at hD;exact hD
 refine ⟨_,rfl,g,Gc,dx,_,rfl,by rw[Ag (DM gD)];exact Ab,O.cl,O.nK,(by show 5<1000;decide),?_⟩;have fin:∀b o,b≠g->H4 b=some o->(upd (upd (upd (upd (upd H4 g (.ins Gc dx (putF "behind" (.ref Bh) (putF "amount" (.int (bs.length:Nat)) (putF "rule" (.ref r) (putF "web" (.ref W) [])))))) R (.lst [])) g (.ins Gc dx (putF "rows" (.ref R) (putF "behind" (.ref Bh) (putF "amount" (.int (bs.length:Nat)) (putF "rule" (.ref r) (putF "web" (.ref W) []))))))) Dk (dN P w Dk [])) g (.ins Gc dx (gf W r (bs.length:Nat) Bh R Dk))) b=some o:=λb o h e=>by
  rw[Ag h,Ag (Af e hD4),Ag h,Ag (Af e hR4),Ag h];exact e
 have fT:TSm H4 (upd (upd (upd (upd (upd H4 g (.ins Gc dx (putF "behind" (.ref Bh) (putF "amount" (.int (bs.length:Nat)) (putF "rule" (.ref r) (putF "web" (.ref W) [])))))) R (.lst [])) g (.ins Gc dx (putF "rows" (.ref R) (putF "behind" (.ref Bh) (putF "amount" (.int (bs.length:Nat)) (putF "rule" (.ref r) (putF "web" (.ref W) []))))))) Dk (dN P w Dk [])) g (.ins Gc dx (gf W r (bs.length:Nat) Bh R Dk))):=λb u hb t=>fin b u (λz=>by
  rw[z,g4] at hb;cases hb;obtain ⟨ys,e | ⟨o,e⟩⟩:=t
  ·cases e
  ·cases e) hb
 have old:∀x,x≠g->H4 x=none->H x=none:=λx h n=>by
  cases e:H x with
  | none=>rfl
  | some o=>have:=s4 _ _ (k3 _ _ h e);rw[n] at this;cases this
 refine q Bh R Dk _ (λb o e h=>fin b o h (s4 _ _ (k3 b o h e))) ⟨⟨dx,Ab⟩,?_,⟨dr,fin _ _ rg (s4 _ _ (k3 _ _ rg hr0))⟩,⟨ys,fin _ _ gB eB,BR,Paired.imp (λt v ⟨l,e1,e2,e3⟩=>⟨l,e1,Af e3 hR4,fin _ _ (λz=>by rw[z,g4] at e3;cases e3) e3⟩) pB⟩⟩ ?_ (old R gR hR4) (old Dk gD hD4)
 ·obtain ⟨d,j,a1,a2⟩:=hW3.same s4
  exact ⟨d,j,fin _ _ Wg a1,Aq (Aq Az) _ _ _ _ fT a2⟩
 ·refine ⟨⟨[],by rw[Ag gR,Ag (DM RD),Ag gR,Ab],.nil⟩,dn0.keep (λo e=>by rw[Ag gD];exact e) (λb zs e=>?_),λi r h=>(by simp at h),λt st v hv=>(by cases hv),AF _⟩
  by_cases c:b=g
  ·subst c
   rw[Ag (DM gD),Ab] at e;cases e
  ·rw[Ag c]
   exact e
end
variable{u:Ru}
section
variable{P:AM}{w:AT}{K:Au}{mg:Str->Option Ap}{base:Heap}{f C D Gc S:Addr}{fd:BV}
theorem JV{fP fL fT fU:Addr}{fdP fdL fdT fdU:BV}(F:Fun K "knot_at" "Growth.knot_at" FW f fd)(T:Txt K mg C)(U:Rul u K mg D)(O:Gro K mg Gc)
  (GP:FnOk P w K mg base CX0 3 fP fdP ["self","number","reached"] (VJ u K C D Gc)) (bP:Binds K fdP ["self","number","reached"] []) (mP:Meth K Gc "past_points" fP)
  (GL:FnOk P w K mg base CX0 1 fL fdL ["self","web","state","number"] Ug) (bL:Binds K fdL ["self","web","state","number"] []) (mL:Meth K D "left" fL)
  (GT:FnOk P w K mg base CX0 2 fT fdT ["self","web","state","number"] (Py u K C D)) (bT:Binds K fdT ["self","web","state","number"] []) (mT:Meth K D "taken" fT)
  (GU:FnOk P w K mg base CX0 1 fU fdU ["self","web","state"] AAq) (bU:Binds K fdU ["self","web","state"] []) (mU:Meth K D "fulfilled" fU)
  (bK:Binds K fd ["self","number","reached"] []) (mK:Meth K Gc "knot_at" f):∀d,FnOk P w K mg base CX0 (d+4) f fd ["self","number","reached"] (Lz u P w K C D Gc d)
 | 0=>Kh 0 F T U O GP bP mP GL bL mL GT bT mT GU bU mU (sp:=λ_ _ _ _=>False) (λ_ _ _ _ h=>absurd rfl h) (F.ok Fv (λvs H Q E h=>Eg h) (λcdv A outer s H vs Q E hr h=>Eg h)) bK mK
 | d+1=>Kh (d+1) F T U O GP bP mP GL bL mL GT bT mT GU bU mU (sp:=Lz u P w K C D Gc d) (λ_ _ _ _ _ h=>h) (JV F T U O GP bP mP GL bL mL GT bT mT GU bU mU bK mK d) bK mK
def Ik(u:Ru)(K:Au)(C Dc S:Addr):Sp:=λvs H Q _=>∃(W r dr:Addr) (z:Nat) (bs:List (List Int)),vs=[.ref W,.ref r]/\WebAt K C H W z bs/\H r=some (.ins Dc dr u.rf)/\1<=z/\z<=10/\bs.length<=12 /\
 ∀(p:Addr) (nums:List Row) (hd:Nat) (H':Hp),Same H H'->K53s.SvAt K S H' p bs.length nums hd->Canon bs.length nums hd->(∀s,led nums hd s=semC u bs z bs.length 0 (some (BE z 0)) s)->nums.length<=4000->Q (.ref p) H'
theorem QX:FnScope ["web","rule","growth","top"] ["web","rule"] (Ac Je):=⟨rfl,rfl,rfl,by decide +kernel,rfl,by decide +kernel,by decide +kernel⟩
theorem Ro{fI fK fB fG:Addr}{fdI fdK fdB fdG:BV}(F:Fun K "grown" "grown" Je f fd)(U:Rul u K mg D)(O:Gro K mg Gc)(M:Mk K Gc fI)
  (GI:FnOk P w K mg base CX0 3 fI fdI ["self","web","rule"] (Wd u P w K C D Gc)) (bI:Binds K fdI ["self","web","rule"] [])
  (GK:∀d,FnOk P w K mg base CX0 (d+4) fK fdK ["self","number","reached"] (Lz u P w K C D Gc d)) (bK:Binds K fdK ["self","number","reached"] []) (mK:Meth K Gc "knot_at" fK)
  (GB:FnOk P w K mg base CX0 2 fB fdB ["self","web"] (Vz K C D)) (bB:Binds K fdB ["self","web"] []) (mB:Meth K D "begun" fB)
  (GG:FnOk P w K mg base CX0 3 fG fdG ["n","rows","top"] (K53s.Wi K S)) (bG:Binds K fdG ["n","rows","top"] []) (kG:AI K (.ref fG)=true) (mG:mg "least_graph" = some (.ref fG)) :
  FnOk P w K mg base CX0 17 f fd ["web","rule"] (Ik u K C D S):=by
 refine F.ok QX (λvs H Q E h=>?_) (λcdv A outer s H vs Q E hr h=>?_)
 ·obtain ⟨W,r,dr,z,bs,rfl,_⟩:=h
  rfl
 obtain ⟨W,r,dr,z,bs,rfl,hW,hr0,z1,z10,b8,q⟩:=h;have hr2:Room 2 _:=hr.mono (by decide);have hr3:Room 3 _:=hr.mono (by decide);have hrM:Room (3+1) _:=hr.mono (by decide);have hrK:Room (bs.length+4) _:=hr.mono (by lia);refine ⟨_,Ae (Ax (i:=2) QX.nd rfl (BF rfl) (Ir M GI hrM rfl O.mgG bI .nil pass0 (Aa (pv 0) (Aa (pv 1) Ad))))
  (Ae (Ax (i:=3) QX.nd rfl (BF rfl) (CJ (pv 2) O.cl mK (GK bs.length) hrK bK .nil pass0 (Aa Ah (Aa (CJ (pv 1) U.cl mB GB hr2 bB .nil pass0 (Aa (pv 0) Ad)) Ad))))
  (Aj (Av (BP GG hr3 rfl mG kG bG .nil pass0 (Aa (Br (pv 2) rfl) (Aa (Br (pv 2) rfl) (Aa (pv 3) Ad))))))),?_⟩
 refine ⟨_,rfl,_,rfl,λg dx hg hdx ne=>?_⟩;have hg2:(upd H dx (.own g)) g=none:=by rw[Ag (DM ne)];exact hg
 have s1:=(Same.new hdx (.own g)).trans (Same.new hg2 (.ins Gc dx []));obtain ⟨dw,jw,hw,_⟩:=id hW;refine ⟨g,dx,W,r,dr,z,bs,rfl,Ab,Af hw hg,Af hr0 hg,hW.same s1,s1 _ _ hr0,z10,b8,λBh R Dk H2 k2 gr rw0 nR0 nD0=>⟨rfl,?_⟩⟩;have s2:Same H H2:=λb o e=>k2 _ _ (s1 _ _ e) (Af e hg);obtain ⟨dg,hg2'⟩:=gr.ins;refine ⟨_,rfl,g,dg,_,rfl,hg2',Wn _ _ _ _ _ _ (by decide +kernel) (by decide +kernel) (by decide +kernel) (by decide +kernel) (by decide +kernel) (by decide +kernel),_,rfl,r,dr,_,rfl,s2 _ _ hr0,U.no (by decide +kernel),_,rfl,r,W,z,bs,rfl,gr.web,z1,z10,λb H3 s3 hb=>?_⟩;have rw3:=rw0.same s3;have gr3:=gr.same s3;have p2:2 ^ bs.length<=2 ^ 12:=Mm (by decide) b8;refine ⟨g,W,r,Bh,R,Dk,z,0,bs,.ref b,some (BE z 0),[],[],rfl,by lia,gr3,z1,z10,b8,⟨b,rfl,hb,LN⟩,rw3,by show 0+_<=_;lia,λk more kvs' H4 kp rw4 ld _ cnt ml=>?_⟩;rw[L8] at rw4 ld;obtain ⟨xs3,eR3,_⟩:=id rw3.at_;obtain ⟨_,_,ax3,eD3,_⟩:=id rw3.dn;have gr4:=gr3.keep kp eR3 eD3;obtain ⟨dg4,hg4⟩:=gr4.ins;obtain ⟨xs4,eR4,px4⟩:=id rw4.at_;refine ⟨_,rfl,g,Gc,dg4,_,_,rfl,hg4,O.cl,O.nA,Nk _ _ _ _ _ _,_,rfl,g,Gc,dg4,_,_,rfl,hg4,O.cl,O.nR,Pn _ _ _ _ _ _,_,rfl,R,bs.length,k,more,rfl,K53s.RowsAt.of ⟨R,xs4,rfl,SqL.of eR4,px4⟩,rw4.ok,by lia,by lia,Ud rw4.ok b8 cnt k,ld.kn,λp nums hd H' s' h1 h2 h3 h4=>?_⟩;have none_back:∀{x:Addr},(upd (upd H dx (.own g)) g (.ins Gc dx [])) x=none->H x=none:=λ{x} n=>by
  cases e:H x with
  | none=>rfl
  | some o=>have:=s1 _ _ e;rw[n] at this;cases this
 refine q p nums hd H' (λb o e=>s' _ _ (kp _ _ (Af e (none_back nR0)) (Af e (none_back nD0)) (s3 _ _ (s2 _ _ e)))) h1 h2 (λs=>?_) h4.1;rw[h3 s,ld.eq s]
end
end K53
end
section
namespace HT
open PySem PyProof.Rows
def RcLtAt(A:BQ)(s:AA)(y x:Ap)(b:Bool):Prop :=
 ∀(prog:AM) (w:AT) (E:Ap->AA->Prop) (Q:Ap->AA->Prop),Q (.bool b) s->wpAny (AL prog w) A (richCompare .Lt y x) Q E s
inductive LtAt (A:BQ) (s:AA):List (Ap×Ap)->Bool->Prop
 | nil:LtAt A s [] false
 | same {y x:Ap}{rest:List (Ap×Ap)}{b:Bool}:J8 A s y x true->LtAt A s rest b->LtAt A s ((y,x)::rest) b
 | apart {y x:Ap}{rest:List (Ap×Ap)}{b:Bool}:J8 A s y x false->RcLtAt A s y x b->LtAt A s ((y,x)::rest) b
section
open PySem.SeqAt
open PySem.AutoSeq1 (wpAny_loadPart')
open PySem.MeetsSeq PySem.MeetsSeq2 PySem.MeetsSeq3
theorem SM(l b:Addr)(items items2:Array Ap)(n n2:Nat)(dd dd2:Option Addr)(sl sl2:Array (Option Ap))(hsz:items.size=items2.size)(r:Bool) :
  Meets (Builtin.«tuple.__lt__» ⟨[.ref l,.ref b],[]⟩)
   (λA R s=>s.heap.get? l=some {cls:=.type "tuple",dict:=dd,data:=.seq items n,slots:=sl}/\s.heap.get? b=some {cls:=.type "tuple",dict:=dd2,data:=.seq items2 n2,slots:=sl2} /\
    LtAt A.in1 s (items.toList.zip items2.toList) r/\R (.ok (.ret (.bool r))) s) :=
 .of_wp λprog w A R s h=>by
  obtain ⟨hp,g,d,tk,os⟩:=s;obtain ⟨hl,hb,ht,h⟩:=h;have f2:=Op
  wp_walk using wpAny_loadPart' hl,wpAny_loadPart' hb,E6 _ (λrest b s'=>b.1=none/\s'=⟨hp,g,d,tk,os⟩/\LtAt A.in1 ⟨hp,g,d,tk,os⟩ rest r) _
  case turn =>
   rintro⟨y,x⟩ rest b s' ⟨hb',rfl,ha⟩;cases ha with
   | same he hr =>
    refine As (he prog w _ _ ?_)
    wp_walk
    exact ⟨rfl,rfl,hr⟩
   | apart he hc =>
    refine As (he prog w _ _ ?_);have hri:=hc prog w
    wp_walk using hri
    exact ⟨_,rfl,by simpa using h⟩
  case fin =>
   rintro⟨b1,b2⟩ s' ⟨hb',rfl,ha⟩;simp only at hb';subst hb';cases ha
   wp_walk
   exact ⟨_,rfl,by simpa [LV,hsz] using h⟩
  case h =>
   exact ⟨rfl,rfl,ht⟩
end
section
variable{prog:AM}{w:AT}{A:BQ}{E:Ap->AA->Prop}{s:AA}
theorem Yy{l b:Addr}{items items2:Array Ap}{r:Bool}{Q:Ap->AA->Prop}(hl:OR s.heap l items)(hb:OR s.heap b items2)(hsz:items.size=items2.size)(ht:LtAt A.in1 s (items.toList.zip items2.toList) r)
  (hu:A.units<C2) (h:Q (.bool r) s):wpAny (AL prog w) A (DA .Lt (.ref l) (.ref b)) Q E s:=by
 obtain ⟨⟨cls,dd,data,sl⟩,ho,hc,n,hd⟩:=id hl;obtain ⟨⟨cls2,dd2,data2,sl2⟩,ho2,hc2,n2,hd2⟩:=id hb;simp only at hc hd hc2 hd2;subst hc hd hc2 hd2;exact O4 (op:=.Lt) ⟨_,ho,rfl⟩ ⟨_,ho2,rfl⟩ Ps O5 (OI _ _) (SM l b items items2 n n2 dd dd2 sl sl2 hsz r)
  ⟨ho,ho2,ht,show G1 r≠L5/\Q (.bool r) s from⟨(λx=>nomatch x),h⟩⟩ hu
end
end HT
namespace L2
open PySem PySem.Spec PyProof.Rows
def rIT(K:Au)(H:Hp)(d:Int×List Int)(x:V):Prop:=∃(p q:Addr),x=.ref p/\SqT K H p [.int d.1,.ref q]/\SqT K H q (d.2.map V.int)
def ltIT(a b:Int×List Int):Bool:=if a.1=b.1 then HT.lexLt a.2 b.2 else decide (a.1<b.1)
def rLtIT(K:Au):R2:=λx y H Q=>∃a b,rIT K H a x/\rIT K H b y/\Q (.bl (ltIT a b)) H
section
variable{X:Cx}
theorem Ey{H:Hp}:∀ns:List Int,Cb (rInt H) ns (ns.map V.int)
 | []=>.nil
 | n::ns=>.cons rfl (Ey ns)
theorem Nb{K:Au}{H:Hp}{q:Addr}{ns:List Int}(h:SqT K H q (ns.map V.int)):rTup K rInt H ns (.ref q):=⟨q,_,rfl,h,Ey ns⟩
theorem Xf{prog:AM}{w:AT}{A:BQ}{s:AA}{l b:Addr}{items items2:Array Ap}{ns ms:List Int}(hl:OR s.heap l items)(hb:OR s.heap b items2)(hi:Ff items.toList ns)(hj:Ff items2.toList ms)
  (hu:A.units<C2):HT.RcLtAt A s (.ref l) (.ref b) (HT.lexLt ns ms):=λprog w E Q h=>(HT.Vh hl hb hi hj hu h:wpAny (AL prog w) A (DA .Lt (.ref l) (.ref b)) Q E s)
theorem ABr(hu:X.A.units+3<C2):OpR X (DA .Lt) (rLtIT X.K):=by
 intro pins s σ H x y v u Q I rx ry h;obtain ⟨⟨a,ns⟩,⟨c,ms⟩,⟨p,q,rfl,hp,hq⟩,⟨p2,q2,rfl,hp2,hq2⟩,h⟩:=h;cases rx;cases ry;obtain ⟨its,ra,ta,_⟩:=I.tuple hp;obtain ⟨jts,rb,tb,_⟩:=I.tuple hp2;obtain ⟨ins,r1,t1,_⟩:=I.tuple hq;obtain ⟨jns,r2,t2,_⟩:=I.tuple hq2;have i1:Ff ins.toArray.toList ns:=intsAre_of r1;have i2:Ff jns.toArray.toList ms:=intsAre_of r2;cases ra with
 | cons x1 ra =>
  cases ra with
  | cons x2 ra =>
   cases ra;cases rb with
   | cons y1 rb =>
    cases rb with
    | cons y2 rb =>
     cases rb;cases x2;cases y2;obtain ⟨tk1,rfl⟩:=x1;obtain ⟨tk2,rfl⟩:=y1;refine HT.Yy (r:=ltIT (a,ns) (c,ms)) ta tb rfl ?_ (by lia) ⟨.bl _,H,I,rfl,h⟩;show HT.LtAt _ _ [(EV a tk1,EV c tk2),(AS q,AS q2)] _;obtain ⟨e,he,hiff⟩:=HT.Qx X.A.in1 s a tk1 c tk2;by_cases ac:a=c
     ·have e1:e=true:=hiff.mpr ac
      subst e1;refine .same he ?_;have ev:ltIT (a,ns) (c,ms)=HT.lexLt ns ms:=if_pos ac;rw[ev];have eq2:=(Gq DQ).eq pins s σ H X.A.in1 ns ms _ _ _ _ I (by show X.A.units+1+1<C2;lia) (Nb hq) (Nb hq2) rfl rfl;by_cases nm:ns=ms
      ·rw[decide_eq_true nm] at eq2
       subst nm;rw[ST.LQ];exact .same eq2 .nil
      ·rw[decide_eq_false nm] at eq2
       exact .apart eq2 (Xf (prog:=X.prog) (w:=X.w) t1 t2 i1 i2 (by show X.A.units+1<C2;lia))
     ·have e1:e=false:=by
       cases e with
       | false=>rfl
       | true=>exact absurd (hiff.mp rfl) ac
      subst e1;have ev:ltIT (a,ns) (c,ms)=decide (a<c):=if_neg ac;rw[ev];exact .apart he λprog w E Q hq=>HT.Qm _ _ _ _ _ _ prog w E Q hq
end
end L2
end
section
namespace HT
open PySem PyProof.Rows
section
open PySem.SeqAt
open PySem.AutoSeq1 (wpAny_loadPart')
open PySem.MeetsSeq PySem.MeetsSeq2 PySem.MeetsSeq3
theorem KY(r:Addr)(hi x:Int)(t u v k:Tok) :
  Meets (Builtin.«range.__contains__» ⟨[.ref r,.int x k],[]⟩)
   (λ_ R s=>s.heap.get? r=some {cls:=.type "range",data:=.fields #[.int 0 t,.int hi u,.int 1 v]}/\R (.ok (.ret (.bool (decide (0<=x/\x<hi))))) s) :=
 .of_wp λprog w A R s h=>by
  obtain ⟨hp,g,d,tk,os⟩:=s;obtain ⟨hr,h⟩:=h;have e:(N2 0 hi 1 x).isSome=decide (0<=x/\x<hi):=by
   unfold N2;rw[if_pos (show (1:Int)>0 by decide)];by_cases c:0<=x/\x<hi
   ·have e1:(decide (0<=x)&&decide (x<hi))=true:=by rw[decide_eq_true c.1,decide_eq_true c.2];rfl
    have e2:((x-0)%1==0)=true:=by rw[Int.emod_one];rfl
    rw[e1,e2,decide_eq_true c];rfl
   ·have e1:(decide (0<=x)&&decide (x<hi))=false:=by
     cases e:(decide (0<=x)&&decide (x<hi)) with
     | false=>rfl
     | true =>
      rw[DF] at e;exact absurd ⟨of_decide_eq_true e.1,of_decide_eq_true e.2⟩ c
    rw[e1,decide_eq_false c];rfl
  wp_walk
  exact ⟨_,rfl,by rw[e];exact h⟩
end
end HT
namespace L2
open PySem PySem.Spec PyProof.Rows
section
variable{X:Cx}{i a:Expr}{ti:TE}{ta:TA}{p pos:Pos}
def ADY(ti:TE)(ta:TA):TE:=λσ H Q=>ti σ H λx H1=>∃k:Int,x=.int k/\ta σ H1 λvs H2=>∃j:Int,vs=[.int j]/\Q (.bl (decide (0<=k/\k<j))) H2
theorem ZK(hi:PE X i ti)(hg:Gl X "range")(hm:X.mg "range" = none)(ha:PA X [a] ta)(hs:Ct [a] X.env=[(false,eval a X.env)]:=by rfl):PC X .In i (.Call (.Name "range" p) [a] [] pos) (ADY ti ta):=by
 intro pins s σ H Q I h;refine thn (hi pins s σ H _ I h) λiv s1 ⟨x,H1,I1,rx,k,ex,q1⟩=>?_;subst ex;obtain ⟨tk,rfl⟩:=rx;refine VY (Em I1 hg hm OQ (D0 (thn (ha pos pins s1 σ H1 _ I1 q1) λus s2 ⟨vs,H2,I2,r2,q2⟩=>?_) hs rfl));obtain ⟨j,e,q⟩:=q2;subst e;cases r2 with
 | cons r rr =>
  cases rr;obtain ⟨t,rfl⟩:=r;refine RE ?_;refine Xt (T:="range") ⟨_,AN _ rfl,rfl⟩ PySem.F.slot_range_contains PySem.F.entry_range_contains (PySem.F.args_range_contains_2 _ _) (HT.KY _ j k _ _ _ tk) ⟨AN _ rfl,_,rfl,?_⟩;exact ⟨.bl _,H2,I2.kept λb o e=>AD _ e,rfl,q⟩
end
end L2
end
section
namespace K53
open PySem L2 G
abbrev uv(s:List Nat):List V:=(up s).map V.int
theorem ADf(s:List Nat):(uv s).length=s.length:=by unfold uv up;rw[AB,AB]
theorem ADZ(s u:List Nat):uv (s++u)=uv s++uv u:=by unfold uv up;rw[B8,B8]
def AAl:Sp:=λvs H Q _=>∃(c:Int) (n:Nat),vs=[.int c,.int n]/\n<=12/\∀(t:Addr) (s:List Nat) (H':Hp),Same H H'->H' t=some (.tup (uv s))->s.Pairwise (· < ·)->(∀x∈s,x<n)->Q (.ref t) H'
def ADH(K:Au):Sp:=λvs H Q _=>∃(l t:Addr) (n k:Nat) (s:List Nat) (rows:List Row),vs=[.ref l,.int k,.ref t]/\rLst K (K53s.rRow K) H rows (.ref l)/\SqT K H t (uv s)/\Ok n rows/\Knot rows k/\∀H',Same H H'->Q (.bl (led rows k s)) H'
section
variable{P:AM}{w:AT}{K:Au}{mg:Str->Option Ap}{base:Heap}{f C:Addr}{fd:BV}
theorem Qf:FnScope ["_law_cell_here","_law_n","_law_found","_law_k"] ["_law_cell_here","_law_n"] (Ac Oa):=⟨rfl,rfl,rfl,by decide +kernel,rfl,by decide +kernel,by decide +kernel⟩
theorem ABs(F:Fun K "_law_some" "_law_some" Oa f fd)(T:Txt K mg C):FnOk P w K mg base CX0 1 f fd ["_law_cell_here","_law_n"] AAl:=by
 refine F.ok Qf (λvs H Q E h=>?_) (λcdv A outer s H vs Q E hr h=>?_)
 ·obtain ⟨c,n,rfl,_⟩:=h
  rfl
 obtain ⟨c,n,rfl,n12,q⟩:=h;refine ⟨_,Ae (Ax (i:=2) Qf.nd rfl (BF rfl) (Ck Ad))
  (Ae (Cv C8 rfl (Cp rfl T.range (Aa (pv 1) Ad)) (Am (i:=3) Qf.nd rfl (BF rfl))
   (Ae (CQ (Ar Eu (Aw Dm (pv 0) Ah) Ah (nomark _))
    (Aj (DY (Mw Fn E8 E9 Cz (pv 2) (Aa (pv 3) Ad)))) BX)
   (Aj (Ax (i:=0) Qf.nd rfl (BF rfl) (Aw Fi (pv 0) Ah)))))
  (Aj (Av (Bk Ce rfl T.tuple DJ (Aa (pv 2) Ad))))),?_⟩
 refine ⟨Bi _,λl hl=>?_⟩;refine ⟨_,rfl,(n:Int),rfl,by lia,by lia,?_⟩;refine JD (lo:=0) (n:=(n:Int).toNat) (λi σ H2=>∃(ms:List Nat) (c':Int) (kv:Option V),σ=[some (.int c'),some (.int n),some (.ref l),kv]/\Same H H2/\H2 l=some (.lst (uv ms))/\ms.length<=i/\ms.Pairwise (· < ·)/\∀m∈ms,m<i)
  ⟨[],c,none,rfl,Same.new hl _,Ab,AF _,.nil,λm hm=>by cases hm⟩ ?_ ?_
 ·rintro i σ H2 hi ⟨ms,c',kv,rfl,sm,hL,hn,pw,hb⟩
  rw[show (0:Int)+(i:Int)=(i:Int) by lia];refine ⟨_,rfl,_,_,rfl,rfl,(by show (0:Int)<2;decide),rfl,_,rfl,?_⟩;refine ite2 (λ_=>?_) (λ_=>?_)
  ·refine ⟨_,rfl,.inl ⟨rfl,_,SqL.of hL⟩,_,rfl,l,_,_,rfl,rfl,hL,by rw[ADf];exact Ay (by lia),?_⟩
   refine ⟨_,rfl,_,_,rfl,rfl,⟨by decide,by decide⟩,?_⟩;refine ⟨ms++[i],_,_,rfl,λb o e=>by rw[Ag (Af e hl)];exact sm b o e,by rw[Ab,ADZ];rfl,by simp;lia,?_,λm hm=>?_⟩
   ·rw[C5]
    refine ⟨pw,by simp,λa ha b hb'=>?_⟩;have:=hb a ha;have e:b=i:=by simpa using hb'
    lia
   ·rcases Co.mp hm with hm | hm
    ·have:=hb m hm
     lia
    ·have e:m=i:=by simpa using hm
     lia
  ·refine ⟨_,rfl,_,_,rfl,rfl,⟨by decide,by decide⟩,?_⟩
   exact ⟨ms,_,_,rfl,sm,hL,by lia,pw,λm hm=>by have:=hb m hm;lia⟩
 ·rintro σ H2 ⟨ms,c',kv,rfl,sm,hL,hn,pw,hb⟩
  refine ⟨_,rfl,l,_,rfl,.inl ⟨SqL.of hL,λt ht=>?_⟩⟩;refine q t ms _ (sm.trans (Same.new ht _)) Ab pw (λk hk=>?_);have:=hb k hk;lia
theorem Ii:FnScope ["_law_knots","_law_top","_law_some_here","_law_here","_law_left","_law_tie","_law_without","_law_having"] ["_law_knots","_law_top","_law_some_here"] (Ac Wt):=⟨rfl,rfl,rfl,by decide +kernel,rfl,by decide +kernel,by decide +kernel⟩
theorem ADj(F:Fun K "_law_led" "_law_led" Wt f fd)(T:Txt K mg C):FnOk P w K mg base CX0 1 f fd ["_law_knots","_law_top","_law_some_here"] (ADH K):=by
 refine F.ok Ii (λvs H Q E h=>?_) (λcdv A outer s H vs Q E hr h=>?_)
 ·obtain ⟨l,t,n,k,s,rows,rfl,_⟩:=h
  rfl
 obtain ⟨l,t,n,k,s,rows,rfl,hL,hT,ok,kn,q⟩:=h;refine ⟨_,Ae (Ax (i:=3) Ii.nd rfl (BF rfl) (pv 1))
  (Ae (Ax (i:=4) Ii.nd rfl (BF rfl) (Bk Fb rfl T.list IX (Aa (pv 2) Ad)))
  (Ae (Zw C8 (Ar Ol (pv 3) Ah (nomark _))
   (Ae (Pj (Bc Bm (pv 0) (Aw DP (pv 3) Ah) (λ_ _=>rfl)) (Fg (K:=K) (n:=3) rfl rfl (Bb (Am (i:=5) Ii.nd rfl (BF rfl)) (Bb (Am (i:=6) Ii.nd rfl (BF rfl)) (Bb (Am (i:=7) Ii.nd rfl (BF rfl)) Dw)))))
   (Ae (CQ (PW.pt (Ko (Ar (Pu DQ (CW hr)) (pv 4) (Ck Ad) (nomark _)) (Ib (Ar Kf (Bc Bm (pv 4) Ah (λ_ _=>rfl)) (pv 5) (nomark _))))) (Aj (Av Ec)) BX)
   (Ae (Ax (i:=3) Ii.nd rfl (BF rfl) (pv 6))
   (Aj (CQ (PW.pt (Ko (Ar (Pu DQ (CW hr)) (pv 4) (Ck Ad) (nomark _)) (Ib (Ar Eu (Bc Bm (pv 4) Ah (λ_ _=>rfl)) (pv 5) (nomark _)))))
    (Ae (Ax (i:=4) Ii.nd rfl (BF rfl) (GZ Ju (pv 4) (Gu Ah) Jr)) (Aj (Ax (i:=3) Ii.nd rfl (BF rfl) (pv 7)))) BX))))))
  (Aj (Av (Tz (Cm Eu (pv 3) Ah (nomark _)) (Ow (Cm (QK DQ (CW hr)) (pv 4) (Ck Ad) (nomark _)))))))),?_⟩
 refine ⟨_,rfl,_,rfl,t,_,rfl,.inr hT,λlf hlf=>?_⟩;refine ⟨λm σ H2=>∃(k':Nat) (lf:Addr) (s':List Nat) (o5 o6 o7:Option V),m=k'/\Same H H2/\σ=[some (.ref l),some (.int k),some (.ref t),some (.int k'),some (.ref lf),o5,o6,o7]/\H2 lf=some (.lst (uv s'))/\Knot rows k'/\led rows k s=led rows k' s',⟨k,k,lf,s,none,none,none,rfl,Same.new hlf _,rfl,Ab,kn,rfl⟩,?_⟩;rintro m σ H2 ⟨k',lf,s',o5,o6,o7,rfl,sm,rfl,elf,kn',e⟩;refine ⟨_,rfl,_,_,rfl,rfl,_,rfl,?_⟩;have isl:∀{H':Hp},H' lf=some (.lst (uv s'))->rLst K rInt H' (up s') (.ref lf):=λh=>⟨lf,_,rfl,SqL.of h,Ey _⟩;refine ite2 (λc=>?_) (λc=>?_)
 ·have m2:2<=m:=by have:=of_decide_eq_true c;lia
  obtain ⟨xs,p,hS,ha,hp⟩:=K53s.AAa hL kn' m2;obtain ⟨t1,z1,z2,r1,r2,n1,n2⟩:=ok.low (Bj kn' m2);refine ⟨λσ' H'=>∃m',m'<m/\_,λσ' H' h=>h,?_⟩;refine ⟨_,rfl,_,rfl,_,_,rfl,rfl,l,xs,_,_,rfl,rfl,sm.seq hS,ha,p,_,rfl,sm.ts.seq hp,rfl,_,_,rfl,_,_,rfl,_,_,rfl,rfl,?_⟩;refine ⟨_,rfl,Bi _,λe0 he0=>⟨up s',[],isl (Same.new he0 _ _ _ elf),⟨e0,[],rfl,SqL.of Ab,.nil⟩,_,rfl,?_⟩⟩;have s3:=Same.new he0 (.lst []);have elf3:=s3 _ _ elf;generalize upd H2 e0 (.lst [])=H3 at s3 elf3;have sm3:=sm.trans s3;cases s' with
  | nil =>
   refine iteF (iteF ?_);refine ⟨_,rfl,?_⟩;refine ⟨_,rfl,Bi _,λe1 he1=>⟨up [],[],⟨lf,_,rfl,SqL.of (Same.new he1 _ _ _ elf3),Ey _⟩,⟨e1,[],rfl,SqL.of Ab,.nil⟩,_,rfl,?_⟩⟩;have s4:=Same.new he1 (.lst []);refine iteF (iteF ?_);rw[Dq ok kn' m2] at e;exact ⟨_,(by lia),_,lf,[],_,_,_,rfl,sm3.trans s4,rfl,s4 _ _ elf3,n1,e⟩
  | cons x xs' =>
   have ec:=Bw (x:=x) (xs:=xs') ok kn' m2;have a0:atI (uv (x::xs')) 0=some (V.int ((x:Nat):Int)):=Bl (show (uv (x::xs'))[0]?=some (V.int ((x:Nat):Int)) from rfl);refine iteT ?_;refine ⟨_,rfl,lf,_,_,_,rfl,rfl,SqL.of elf3,a0,_,rfl,_,_,rfl,rfl,_,rfl,?_⟩;by_cases c2:x<(rows.getD (m-2) (0,0,0)).1
   ·refine iteP (by lia) ?_
    rw[if_pos c2] at ec;have q':=q _ sm3;rw[e,ec] at q';exact q'
   ·refine iteN (by lia) ?_
    rw[if_neg c2] at ec;refine ⟨_,rfl,?_⟩;refine ⟨_,rfl,Bi _,λe1 he1=>⟨up (x::xs'),[],⟨lf,_,rfl,SqL.of (Same.new he1 _ _ _ elf3),Ey _⟩,⟨e1,[],rfl,SqL.of Ab,.nil⟩,_,rfl,?_⟩⟩;have s4:=Same.new he1 (.lst []);have elf4:=s4 _ _ elf3;generalize upd H3 e1 (.lst [])=H4 at s4 elf4;have sm4:=sm3.trans s4;refine iteT ?_;refine ⟨_,rfl,lf,_,_,_,rfl,rfl,SqL.of elf4,a0,_,rfl,rfl,_,rfl,?_⟩;by_cases c3:x=(rows.getD (m-2) (0,0,0)).1
    ·refine iteP (by rw[c3]) ?_
     rw[if_pos c3] at ec;refine ⟨_,rfl,_,rfl,lf,_,rfl,SqL.of elf4,λl2 hl2=>?_⟩;rw[show cutV (uv (x::xs')) (some 1) none=uv xs' by
      unfold cutV;rw[HT.Qq,show (1:Int)=((1:Nat):Int) from rfl,HT.Wm];show ((uv (x::xs')).drop (min 1 ((uv xs').length+1))).take ((uv xs').length+1-min 1 ((uv xs').length+1))=uv xs';rw[show min 1 ((uv xs').length+1)=1 by lia,DS];exact G2 (AF _)]
     exact ⟨_,rfl,_,(by lia),_,l2,xs',_,_,_,rfl,sm4.trans (Same.new hl2 _),rfl,Ab,n2,by rw[e,ec]⟩
    ·refine iteN (λz=>c3 (by injection z with z;lia)) ?_
     rw[if_neg c3] at ec;exact ⟨_,(by lia),_,lf,x::xs',_,_,_,rfl,sm4,rfl,elf4,n1,by rw[e,ec]⟩
 ·have m1:m<2:=by
   have:¬ (1:Int)<m:=λz=>c (decide_eq_true z);lia
  refine ⟨_,rfl,rfl,_,rfl,?_⟩;by_cases c1:m=1
  ·subst c1
   refine iteP rfl ?_;refine ⟨_,rfl,Bi _,λe0 he0=>⟨up s',[],isl (Same.new he0 _ _ _ elf),⟨e0,[],rfl,SqL.of Ab,.nil⟩,?_⟩⟩;rw[e,Dy] at q;have eb:decide (up s'=[])=decide (s'=[]):=by cases s'<;>rfl
   rw[eb];exact q _ (sm.trans (Same.new he0 _))
  ·have m0:m=0:=by lia
   subst m0;refine iteN (λz=>by injection z with z;lia) ?_;rw[e,Cr] at q;exact q _ sm
end
theorem lexN{a b c d:Nat}(h:a<c\/(a=c/\b<d)):HT.lexLt [(a:Int),(b:Int)] [(c:Int),(d:Int)]=true:=by
 rw[HT.Bq];rcases h with h | ⟨h1,h⟩
 ·rw[if_neg (by lia)]
  exact decide_eq_true (by lia)
 rw[if_pos (by lia),HT.Bq,if_neg (by lia)];exact decide_eq_true (by lia)
theorem ADr{a b:Row}(h:RowLt a b):ltIT (0-(a.1:Int),[(a.2.1:Int),(a.2.2:Int)]) (0-(b.1:Int),[(b.2.1:Int),(b.2.2:Int)])=true:=by
 unfold ltIT;rcases h with h | ⟨h1,h⟩
 ·rw[if_neg (by show ¬ (0-(a.1:Int)=0-(b.1:Int));lia)]
  exact decide_eq_true (by show 0-(a.1:Int)<0-(b.1:Int);lia)
 ·rw[if_pos (by show 0-(a.1:Int)=0-(b.1:Int);lia)]
  exact lexN h
def Qs(K:Au):Sp:=λvs H Q _=>∃(l:Addr) (i n:Nat) (rows:List Row),vs=[.ref l,.int i,.int n]/\rLst K (K53s.rRow K) H rows (.ref l)/\Least n rows/\rows.Pairwise RowLt/\i<rows.length/\∀(H':Hp),Same H H'->Q (.bl true) H'
def Ou(K:Au):Sp:=λvs H Q _=>∃(l:Addr) (n hd:Nat) (rows:List Row),vs=[.ref l,.int hd,.int n]/\rLst K (K53s.rRow K) H rows (.ref l)/\Canon n rows hd/\rows.length<=4000/\∀(H':Hp),Same H H'->Q (.bl true) H'
section
variable{P:AM}{w:AT}{K:Au}{mg:Str->Option Ap}{base:Heap}{f C:Addr}{fd:BV}
theorem FJ:FnScope ["_law_knots","_law_k","_law_n","_law_tie","_law_without","_law_having","_law_lower","_law_before"] ["_law_knots","_law_k","_law_n"] (Ac Gi):=⟨rfl,rfl,rfl,by decide +kernel,rfl,by decide +kernel,by decide +kernel⟩
theorem Xu(F:Fun K "_law_is_knot" "_law_is_knot" Gi f fd)(T:Txt K mg C):FnOk P w K mg base CX0 1 f fd ["_law_knots","_law_k","_law_n"] (Qs K):=by
 refine F.ok FJ (λvs H Q E h=>?_) (λcdv A outer s H vs Q E hr h=>?_)
 ·obtain ⟨l,i,n,rows,rfl,_⟩:=h
  rfl
 obtain ⟨l,i,n,rows,rfl,hL,L,srt,il,q⟩:=h;refine ⟨_,Ae (Pj (Bc Bm (pv 0) (pv 1) (λ_ _=>rfl)) (Fg (K:=K) (n:=3) rfl rfl (Bb (Am (i:=3) FJ.nd rfl (BF rfl)) (Bb (Am (i:=4) FJ.nd rfl (BF rfl)) (Bb (Am (i:=5) FJ.nd rfl (BF rfl)) Dw)))))
  (Ae (CQ (PW.pt (HF (Ar Kf (pv 3) Ah (nomark _)) (HF (Ar Tq (pv 3) (pv 2) (nomark _)) (Ho (Ar Eu (pv 5) Ah (nomark _)))))) (Aj (Av Ec)) BX)
  (Ae (Cv C8 rfl (ZL (CG (Aa (pv 4) (Aa (pv 5) Ad)))) (Am (i:=6) FJ.nd rfl (BF rfl))
   (Ae (CQ (PW.pt (HF (Ar Kf (pv 6) Ah (nomark _)) (Ho (Ar Tq (pv 6) (Aw Cw (pv 1) Ah) (nomark _))))) (Aj (Av Ec)) BX)
   (Aj (CQ (PW.pt (Ko (Ar Ol (pv 6) Ah (nomark _)) (Ib (Ar AEd (Bc Dn (Bc Bm (pv 0) (Aw DP (pv 6) Ah) (λ_ _=>rfl)) Ah (λ_ _=>rfl)) (pv 3) (nomark _))))) (Aj (Av Ec)) BX))))
  (Ae (CQ (Ar Eu (pv 1) Ah (nomark _)) (Aj (Av Ec)) BX)
  (Ae (Ax (i:=7) FJ.nd rfl (BF rfl) (Bc Bm (pv 0) (Aw DP (pv 1) Ah) (λ_ _=>rfl)))
  (Aj (Av (Cm (ABr (CW hr)) (CG (Aa (Aw DP Ah (Bc Dn (pv 7) Ah (λ_ _=>rfl))) (Aa (GZ (ACI (K:=K) rfl) (pv 7) (Gu Ah) Jr) Ad)))
   (CG (Aa (Aw DP Ah (pv 3)) (Aa (CG (Aa (pv 4) (Aa (pv 5) Ad))) Ad))) (nomark _)))))))),?_⟩
 obtain ⟨l',xs,el,hS,px⟩:=id hL;cases el;have hri:rows[i]?=some rows[i]:=AK il;obtain ⟨v,hv,b,rfl,hb⟩:=Paired.getL px hri;obtain ⟨t1,lo1,lo2⟩:=L.ok i _ hri;have pos:=L.pos i _ hri;generalize hrr:rows[i]=r at hri hb t1 lo1 lo2 pos hv;refine ⟨_,rfl,_,rfl,l,_,_,_,rfl,rfl,hS,Bl hv,b,_,rfl,hb,rfl,_,_,rfl,_,_,rfl,_,_,rfl,rfl,?_⟩;refine ⟨_,rfl,_,_,rfl,rfl,_,rfl,iteN (by lia) ?_⟩;refine ⟨_,rfl,_,rfl,_,_,rfl,rfl,_,rfl,iteN (by lia) ?_⟩;refine ⟨_,rfl,rfl,_,rfl,iteN (λz=>by injection z with z;lia) ?_⟩;refine ⟨_,rfl,_,rfl,(by show 2<=sizeLine;decide),λY hY=>?_⟩;have s3:=Same.new hY (.tup [.int (r.2.1:Int),.int (r.2.2:Int)]);refine ⟨Y,rfl,⟨_,SqT.of Ab⟩,?_⟩;refine ACk (K:=K) (a:=Y) (xs:=[.int (r.2.1:Int),.int (r.2.2:Int)]) (λj σ H3=>∃o:Option V,σ=[some (.ref l),some (.int i),some (.int n),some (.int r.1),some (.int r.2.1),some (.int r.2.2),o,none]/\H3=upd H Y (.tup [.int (r.2.1:Int),.int (r.2.2:Int)])) ⟨none,rfl,rfl⟩ (λj σ H3 _ ⟨_,_,e⟩=>by rw[e];exact SqT.of Ab) ?_ ?_
 ·rintro j x σ H3 hx ⟨o,rfl,rfl⟩
  obtain ⟨c,rfl,lo⟩:∃c:Nat,x=.int (c:Int)/\Low rows r.1 (i+2) c:=by
   match j,hx with
   | 0,hx=>exact ⟨_,by simpa using hx.symm,lo1⟩
   | 1,hx=>exact ⟨_,by simpa using hx.symm,lo2⟩
  obtain ⟨cl,c'⟩:=lo;refine ⟨_,rfl,_,_,rfl,rfl,_,rfl,iteN (by lia) ?_⟩;refine ⟨_,rfl,_,rfl,_,_,rfl,rfl,_,_,rfl,rfl,_,rfl,iteN (by lia) ?_⟩;refine ⟨_,rfl,_,_,rfl,rfl,_,rfl,?_⟩;by_cases c1:(1:Int)<c
  ·refine iteP c1 ?_
   obtain ⟨r',hr',lt⟩:=c'.resolve_left (by lia);obtain ⟨v',hv',b',rfl,hb'⟩:=Paired.getL px hr';refine ⟨_,rfl,_,rfl,_,_,rfl,rfl,l,_,_,_,rfl,rfl,s3.seq hS,(by rw[show (c:Int)-2=((c-2:Nat):Int) by lia];exact Bl hv'),b',_,_,_,rfl,rfl,s3.ts.seq hb',rfl,_,rfl,_,_,rfl,rfl,_,rfl,iteN (by lia) ⟨_,rfl,rfl⟩⟩
  ·exact iteN c1 (iteF ⟨_,rfl,rfl⟩)
 rintro σ H3 ⟨o,rfl,rfl⟩;refine ⟨_,rfl,rfl,_,rfl,?_⟩;by_cases c0:i=0
 ·refine iteP (by rw[c0];rfl) ?_
  exact q _ s3
 refine iteN (λz=>c0 (by injection z with z;lia)) ?_;have il1:i-1<rows.length:=by lia
 have hr1:rows[i-1]?=some rows[i-1]:=AK il1;obtain ⟨v',hv',b',rfl,hb'⟩:=Paired.getL px hr1;have lt:RowLt rows[i-1] r:=by
  rw[<- hrr];exact CO.mp srt (i-1) i il1 il (by lia)
 generalize rows[i-1]=r' at hb' lt;have hb3:=s3.ts.seq hb';refine ⟨_,rfl,_,rfl,_,_,rfl,rfl,l,_,_,_,rfl,rfl,s3.seq hS,(by rw[show (i:Int)-1=((i-1:Nat):Int) by lia];exact Bl hv'),?_⟩;generalize upd H Y (.tup [.int (r.2.1:Int),.int (r.2.2:Int)])=H3 at s3 hb3;refine ⟨_,rfl,b',_,_,_,rfl,rfl,hb3,rfl,_,_,rfl,rfl,_,rfl,_,rfl,b',_,rfl,hb3,(by intro z;exact absurd z.1 (show ¬ HT.sIx 3 0 (some 1)=0 by decide)),λT1 hT1=>?_⟩;rw[show cutV [V.int (r'.1:Int),.int (r'.2.1:Int),.int (r'.2.2:Int)] (some 1) none=[.int (r'.2.1:Int),.int (r'.2.2:Int)] from rfl];refine ⟨(by show 2<=sizeLine;decide),λT2 hT2=>?_⟩;have s4:=Same.new hT1 (.tup [.int (r'.2.1:Int),.int (r'.2.2:Int)]);have e1:(upd H3 T1 (.tup [.int (r'.2.1:Int),.int (r'.2.2:Int)])) T1=some (.tup [.int (r'.2.1:Int),.int (r'.2.2:Int)]):=Ab;generalize upd H3 T1 (.tup [.int (r'.2.1:Int),.int (r'.2.2:Int)])=H4 at s4 e1 hT2 ⊢;refine ⟨_,rfl,_,_,rfl,rfl,_,rfl,_,rfl,(by show 2<=sizeLine;decide),λT3 hT3=>⟨(by show 2<=sizeLine;decide),λT4 hT4=>?_⟩⟩;have s5:=Same.new hT2 (.tup [.int (0-(r'.1:Int)),.ref T1]);have s6:=Same.new hT3 (.tup [.int (r.2.1:Int),.int (r.2.2:Int)]);have s7:=Same.new hT4 (.tup [.int (0-(r.1:Int)),.ref T3]);have q':=q _ (s3.trans (s4.trans (s5.trans (s6.trans s7))));rw[<- ADr lt] at q';exact ⟨(0-(r'.1:Int),[(r'.2.1:Int),(r'.2.2:Int)]),(0-(r.1:Int),[(r.2.1:Int),(r.2.2:Int)]),⟨T2,T1,rfl,SqT.of (s7 _ _ (s6 _ _ Ab)),SqT.of (s7 _ _ (s6 _ _ (s5 _ _ e1)))⟩,⟨T4,T3,rfl,SqT.of Ab,SqT.of (s7 _ _ Ab)⟩,q'⟩
theorem Gv:FnScope ["_law_knots","_law_top","_law_n","_law_reached","_law_k"] ["_law_knots","_law_top","_law_n"] (Ac Eb):=⟨rfl,rfl,rfl,by decide +kernel,rfl,by decide +kernel,by decide +kernel⟩
theorem VP{fG:Addr}{fdG:BV}(F:Fun K "_law_is_least" "_law_is_least" Eb f fd)(T:Txt K mg C)
  (GG:FnOk P w K mg base CX0 1 fG fdG ["_law_knots","_law_k","_law_n"] (Qs K)) (bG:Binds K fdG ["_law_knots","_law_k","_law_n"] []) (kG:AI K (.ref fG)=true) (mG:mg "_law_is_knot" = some (.ref fG)) :
  FnOk P w K mg base CX0 2 f fd ["_law_knots","_law_top","_law_n"] (Ou K):=by
 refine F.ok Gv (λvs H Q E h=>?_) (λcdv A outer s H vs Q E hr h=>?_)
 ·obtain ⟨l,n,hd,rows,rfl,_⟩:=h
  rfl
 obtain ⟨l,n,hd,rows,rfl,hL,cn,r4,q⟩:=h;have hr1:Room 1 _:=hr.mono (by decide);refine ⟨_,Ae (Ax (i:=3) Gv.nd rfl (JO rfl) (Ck (Aa (pv 1) Ad)))
  (Ae (Cv C8 rfl (Cp rfl T.range (Aa (BK BZ rfl T.len DT (Aa (pv 0) Ad)) Ad)) (Am (i:=4) Gv.nd rfl (BF rfl))
   (Ae (CQ (PW.pt (HF (Km (Hh (BK XF rfl T.isi MW (Aa (Bc Bm (pv 0) (pv 4) (λ_ _=>rfl)) (Aa (ABZ (v:=.ty "tuple") rfl T.tuple DJ rfl) Ad)))))
     (HF (Ar Nt (BK BZ rfl T.len DT (Aa (Bc Bm (pv 0) (pv 4) (λ_ _=>rfl)) Ad)) Ah (nomark _))
     (Ho (Km (Hh (BP GG hr1 rfl mG kG bG .nil pass0 (Aa (pv 0) (Aa (pv 4) (Aa (pv 2) Ad)))))))))) (Aj (Av Ec)) BX)
   (Aj (Ax (i:=3) Gv.nd rfl (JO rfl) (Aw Uz (pv 3) (Ck (Aa (Bc Dn (Bc Bm (pv 0) (pv 4) (λ_ _=>rfl)) Ah (λ_ _=>rfl)) (Aa (Bc Dn (Bc Bm (pv 0) (pv 4) (λ_ _=>rfl)) Ah (λ_ _=>rfl)) Ad))))))))
  (Aj (Av (Tz (ADt (ZK (pv 1) rfl T.range (Aa (Aw Cw (BK BZ rfl T.len DT (Aa (pv 0) Ad)) Ah) Ad)) rfl)
   (Ow (Cm (QK DQ (CW hr)) (Ca (Ac Eb) ["_law_k"] ["_law_reached"] [3] rfl rfl (by decide +kernel) ⟨⟨rfl,by decide +kernel⟩,trivial⟩ (Cp rfl T.range (Aa (BK BZ rfl T.len DT (Aa (pv 0) Ad)) Ad))
    (λ_ _ _=>Am (i:=0) (show ((["_law_k"]:List Str)++(["_law_reached"]:List Str)).Nodup by decide +kernel) rfl (BF rfl))
    (λ_ _ _=>Dj (Ar (Ma (K:=K) rfl) (Aw Cw (pv 0) Ah) (pv 1) rfl))
    (λ_ _ _=>pv 0)) (Ck Ad) (nomark _))))))),?_⟩
 obtain ⟨l',xs,el,hS,px⟩:=id hL;cases el;have lx:=B4 px;refine ⟨_,rfl,(by show 1<=sizeLine;decide),λR0 hR0=>?_⟩;have sR:=Same.new hR0 (.lst [.int (hd:Int)]);refine ⟨_,rfl,l,_,rfl,.inl (sR.seq hS),_,rfl,by lia,by lia,?_⟩;refine JD (lo:=0) (n:=((xs.length:Nat):Int).toNat) (λi σ H3=>∃(R:Addr) (rs:List Int) (o:Option V),σ=[some (.ref l),some (.int hd),some (.int n),some (.ref R),o]/\Same H H3/\H3 R=some (.lst (rs.map V.int))/\rs.length=1+2*i/\(hd:Int)∈rs/\∀(j:Nat) (r:Row),j<i->rows[j]?=some r->(r.2.1:Int)∈rs/\(r.2.2:Int)∈rs)
  ⟨R0,[(hd:Int)],none,rfl,sR,Ab,rfl,Cn.mpr rfl,λj r h=>absurd h (Nat.not_lt_zero _)⟩ ?_ ?_
 ·rintro i σ H3 hi ⟨R,rs,o,rfl,s3,eR,rl,hm,hh⟩
  rw[show (0:Int)+(i:Int)=(i:Int) by lia];have il:i<rows.length:=by lia
  have hri:rows[i]?=some rows[i]:=AK il;obtain ⟨v,hv,b,rfl,hb⟩:=Paired.getL px hri;have hb3:=s3.ts.seq hb;have hS3:=s3.seq hS;refine ⟨_,rfl,_,rfl,l,_,_,_,rfl,rfl,hS3,Bl hv,b,_,rfl,hb3,true,rfl,iteF ?_⟩;refine ⟨_,rfl,_,rfl,l,_,_,_,rfl,rfl,hS3,Bl hv,b,_,rfl,.inr hb3,rfl,_,rfl,iteF ?_⟩;refine ⟨_,rfl,_,rfl,_,rfl,l,i,n,rows,rfl,⟨l,xs,rfl,hS3,Paired.imp (λa b=>K53s.Bv _ _ a b s3.ts) px⟩,cn.least,cn.srt,il,λH4 s4=>⟨true,rfl,iteF ?_⟩⟩;have s34:=s3.trans s4;have hb4:=s34.ts.seq hb;have hS4:=s34.seq hS;have eR4:=s4 _ _ eR;generalize rows[i]=r at hri hb hb3 hb4;refine ⟨_,rfl,_,rfl,_,rfl,l,_,_,_,rfl,rfl,hS4,Bl hv,b,_,_,_,rfl,rfl,hb4,rfl,_,rfl,_,rfl,l,_,_,_,rfl,rfl,hS4,Bl hv,b,_,_,_,rfl,rfl,hb4,rfl,(by show 2<=sizeLine;decide),λY hY=>?_⟩;have s5:=Same.new hY (.lst [.int (r.2.1:Int),.int (r.2.2:Int)]);refine ⟨R,Y,_,_,rfl,rfl,s5 _ _ eR4,Ab,?_,λR2 hR2=>?_⟩
  ·rw[AB]
   exact De (smallN (show rs.length+2<=100000 by lia))
  have s6:=Same.new hR2 (.lst (rs.map V.int++[.int (r.2.1:Int),.int (r.2.2:Int)]));refine ⟨R2,rs++[(r.2.1:Int),(r.2.2:Int)],_,rfl,s34.trans (s5.trans s6),by rw[Ab,B8];rfl,?_,D9 _ hm,λj r' hj hr'=>?_⟩
  ·rw[By]
   show rs.length+2=_;lia
  ·by_cases ej:j=i
   ·subst ej
    rw[hri] at hr';cases hr';exact ⟨BS _ AG,BS _ (AH _ AG)⟩
   ·obtain ⟨y1,y2⟩:=hh j r' (by lia) hr'
    exact ⟨D9 _ y1,D9 _ y2⟩
 ·rintro σ H3 ⟨R,rs,o,rfl,s3,eR,rl,hm,hh⟩
  have kn:hd<rows.length+2:=cn.knot;have hS3:=s3.seq hS;refine ⟨_,rfl,(hd:Int),rfl,_,rfl,l,_,rfl,.inl hS3,_,_,rfl,rfl,_,rfl,_,rfl,?_⟩;refine iteP ⟨by lia,by show (hd:Int)<(xs.length:Int)+2;lia⟩ ?_;refine ⟨_,rfl,l,_,rfl,.inl hS3,_,rfl,by lia,by lia,λL hL=>?_⟩;refine Cg (lo:=0) (n:=((xs.length:Nat):Int).toNat) (λj τ H5=>∃o:Option V,τ=[o,some (.ref R)]/\Same H3 H5/\H5 L=some (.lst [])) ⟨none,rfl,Same.new hL _,Ab⟩ ?_ ?_
  ·rintro j τ H5 hj ⟨o,rfl,s5,eL⟩
   rw[show (0:Int)+(j:Int)=(j:Int) by lia];refine ⟨_,rfl,_,_,rfl,rfl,_,rfl,R,_,rfl,.inl (SqL.of (s5 _ _ eR)),rfl,Iz rs,_,rfl,?_⟩;rw[if_pos rfl,EY];have mem:(j:Int)+2∈rs:=by
    rcases cn.led (j+2) (by lia) (by show j+2<rows.length+2;lia) with e | ⟨r,hr,e⟩
    ·rw[show (j:Int)+2=(hd:Int) by lia]
     exact hm
    ·obtain ⟨i,hi,rfl⟩:=List.getElem_of_mem hr
     have z:=hh i rows[i] (by lia) (AK hi);rcases e with e | e
     ·rw[show (j:Int)+2=(rows[i].2.1:Int) by lia]
      exact z.1
     ·rw[show (j:Int)+2=(rows[i].2.2:Int) by lia]
      exact z.2
   exact iteNP mem ⟨_,rfl,s5,eL⟩
  ·rintro τ H5 ⟨o,rfl,s5,eL⟩
   refine ⟨Bi _,λe0 he0=>⟨[],[],⟨L,[],rfl,SqL.of (Same.new he0 _ _ _ eL),.nil⟩,⟨e0,[],rfl,SqL.of Ab,.nil⟩,?_⟩⟩;exact q _ (s3.trans (s5.trans (Same.new he0 _)))
end
end K53
end
section
namespace L2
open PySem PySem.Spec PyProof.Rows
def rBl:Rep Bool:=λ_ b v=>v=.bl b
theorem Hg{H:Hp}:∀bs:List Bool,Cb (rBl H) bs (bs.map V.bl)
 | []=>.nil
 | _::r=>.cons rfl (Hg r)
section
variable{X:Cx}{K:Au}{tg l:Expr}{tl:TE}
theorem AEO:Dat X 0 rBl where
 eq:=λpins s σ H A a b x y u v I hu ha hb ru rv=>by
  cases ha;cases hb;cases ru;cases rv;have e:=Qr (A:=A) (s:=s) a b;rw[PD] at e;exact e
 fn:=λpins s σ H a b x I ha hb=>by
  cases ha;exact (V.bl.inj hb)
end
structure FunD(K:Au)(x qual:Str)(st:Stmt)(f:Addr)(fd:BV)(dt:Addr)(items:Array Ap):Prop where
 ex:∃(oc:Ap) (od:Option Addr) (kV doc pm:Ap) (an:Option Addr) (cdv ct:Ap) (osl:Array (Option Ap)),
  fd=A7 x qual (Ao st) (Ak st) (Ac st) (.ref dt) kV doc pm an cdv ct/\K.lookup f=some ⟨oc,od,.func fd,osl⟩/\A1 K cdv qual=true
 tup:∃(oc:Ap) (od:Option Addr) (n:Nat) (osl:Array (Option Ap)),K.lookup dt=some ⟨oc,od,.seq items n,osl⟩
section
variable{P:AM}{w:AT}{K:Au}{mg:Str->Option Ap}{base:Heap}
theorem FunD.ok{x qual:Str}{st:Stmt}{f dt:Addr}{items:Array Ap}{fd:BV}{N ps:List Str}{k:Nat}{sp:Sp}(F:FunD K x qual st f fd dt items)(S:FnScope N ps (Ac st))(len:∀vs H Q E,sp vs H Q E->vs.length=ps.length)
  (hbody:∀(cdv:Ap) (A:BQ) (outer:List Env) (s:AA) (H:Hp) (vs:List V) (Q:VK) (E:XK),Room k (A.deeper (LZ qual (Ac st) s.heap.objs.size f cdv))->sp vs H Q E ->
   ∃t,PSs (cxOf CX0 P w K mg base N qual (Ac st) f cdv A outer s H E).nox (Ak st) t/\t {nx:=λ_ H'=>Q .non H',rt:=Q} (start N vs) H):FnOk P w K mg base CX0 (k+1) f fd ps sp:=by
 obtain ⟨oc,od,kV,doc,pm,an,cdv,ct,osl,rfl,lk,hcd⟩:=F.ex;refine ACx lk hcd S len λA outer s H vs Q E hr hsp=>?_;obtain ⟨t,h,q⟩:=hbody cdv A outer s H vs Q E hr hsp;exact ⟨t,h.nox,q⟩
theorem FunD.binds{x qual:Str}{st:Stmt}{f dt:Addr}{items:Array Ap}{fd:BV}{ps:List Str}{ds:List Ap}(F:FunD K x qual st f fd dt items)
  (h:∀(kV doc pm:Ap) (an:Option Addr) (cdv ct:Ap) (us:List Ap),(us++ds).length=ps.length->∃k:Option (Array Ap)->Sem (List (Str×Ap)),Ta (A7 x qual (Ao st) (Ak st) (Ac st) (.ref dt) kV doc pm an cdv ct) ⟨us,[]⟩=OV (.ref dt) >>= k/\k (some items)=pure (ps.zip (us++ds))):Binds K fd ps ds:=by
 obtain ⟨oc,od,kV,doc,pm,an,cdv,ct,osl,rfl,lk,hcd⟩:=F.ex;obtain ⟨oc',od',n,osl',lt⟩:=F.tup;intro s us hK hl;obtain ⟨k,h1,h2⟩:=h kV doc pm an cdv ct us hl;exact Q9 (T:=dt) rfl (hK _ _ lt) rfl h1 h2
end
end L2
end
section
namespace K53
open PySem L2 G
def uC:Ru:=⟨[],λc=>decide (1<=c)⟩
theorem AEi{m:Str}(h:¬ m = "full"):uC.rf.lookup m=none:=rfl
def relab(o sc:D3):D3:={sc with names:=sc.names.map λ(n,k)=>if (k==BN&&o.kind == .function&&o.names.lookup n==some .cell) then (n,CD) else (n,k)}
def YG(st:Stmt):D3:=match st with
 | .Assign _ (.ListComp _ _ sc _) _=>sc
 | _=>Ac st
def cntL(as:List (List Int))(ms:List Int)(p:Nat):Int:=((ms.filter λk=>(as.getD k.toNat []).contains (p:Int)).length:Nat)
def cntsL(as:List (List Int))(ms:List Int)(m:Nat):List Int:=(AZ m).map (cntL as ms)
theorem Ue(as:List (List Int))(ms:List Int)(m:Nat):cntsL as ms (m+1)=cntsL as ms m++[cntL as ms m]:=by unfold cntsL;rw[IN,B8];rfl
theorem JN(as:List (List Int))(ms:List Int)(m:Nat):(cntsL as ms m).length=m:=by unfold cntsL;rw[AB,CS]
section
variable{X:Cx}{tg elt iter:Expr}{ifs:List Expr}{scope:D3}{pos:Pos}{g:TG}{tc:TT}{te:TE}{wi:TI}
theorem Zv{i:Nat}{x:Str}{pos' spos:Pos}(osc:D3)(own fr:List Str)(ix:List Nat)(hN:X.N.Nodup)(hx:X.N[i]?=some x)(hl:Loc X.env.scope x)(hc:X.calm=true)(ho:X.env.scope=osc)(hok:Jv osc scope=true)(hfr:FreeAt X scope fr ix)(hit:PI X tg iter wi)
  (hg:∀fp s H,PG (Bp X (own++fr) scope fp s H) tg g) (hi:∀fp s H,PIfs (Bp X (own++fr) scope fp s H) ifs tc) (he:∀fp s H,PE (Bp X (own++fr) scope fp s H) elt te)
  (hsw:KM (.ListComp elt [⟨tg,iter,ifs,0⟩] scope pos) (some (.Name x pos')) spos.line X.env=pure true:=by rfl) (hs:∀x,JE iter X.env x=pure x:=by intro _;rfl)
  (hf:X.fn x=true\/X.env.scope.names.lookup x=some .local:=by first | exact .inl rfl | exact .inr rfl | assumption) :
  PS X (.Assign [.Name x pos'] (.ListComp elt [⟨tg,iter,ifs,0⟩] scope pos) spos) (Yz (Vk own ix wi g tc te) (gName i)) :=
 AAt own fr ix hN hx hl hc (ho ▸ hok) hfr hit hg hi he hsw hs hf
end
theorem AAs(k:Nat)(x:Int):(BE k [V.int x]).flatten=(BE k x).map V.int:=by
 induction k with
 | zero=>rfl
 | succ k ih=>rw[EF,Hn,ih,EF,B5];rfl
def fitB(u:Ru)(as:List (List Int))(z:Nat)(s:List Nat):Bool:=(cntsL as (up s) z).all λc=>u.al (min c 2)
theorem KJ(as:List (List Int))(ms:List Int)(z:Nat):∀c∈cntsL as ms z,0<=c:=λc hc=>by
 unfold cntsL at hc;obtain ⟨p',_,rfl⟩:=B6.mp hc;unfold cntL;lia
theorem Pk(fu:Bool){c:Int}(h:0<=c):alP fu (min c 2)=alP fu c:=by
 unfold alP;have e1:(min c 2=1)↔c=1:=by lia
 have e0:(min c 2=0)↔c=0:=by lia
 rw[decide_eq_decide.mpr e1,decide_eq_decide.mpr e0]
theorem Yv{as:List (List Int)}{z:Nat}{s:List Nat}{m:Int}(hm:m∈cntsL as (up s) z)(hg:∀c∈cntsL as (up s) z,c<=m):fitB (uP false) as z s=decide (m<2):=by
 unfold fitB;rw[FG,DH,decide_eq_true_iff];constructor
 ·intro h
  have h0:=KJ as (up s) z m hm;have:=h m hm;rw[show (uP false).al (min m 2)=alP false m from Pk false h0] at this;unfold alP at this;simp at this;lia
 ·intro h c hc
  have h0:=KJ as (up s) z c hc;have:=hg c hc;rw[show (uP false).al (min c 2)=alP false c from Pk false h0];unfold alP;simp;lia
theorem AAu{as:List (List Int)}{z:Nat}{s:List Nat}:fitB (uP true) as z s=decide (cntsL as (up s) z=BE z 1):=by
 unfold fitB;rw[FG,DH,decide_eq_true_iff,List.eq_replicate_iff];constructor
 ·intro h
  refine ⟨JN _ _ _,λc hc=>?_⟩;have h0:=KJ as (up s) z c hc;have:=h c hc;rw[show (uP true).al (min c 2)=alP true c from Pk true h0] at this;unfold alP at this;simpa using this
 ·rintro⟨_,h⟩ c hc
  rw[h c hc];rfl
theorem ABv{as:List (List Int)}{z:Nat}{s:List Nat}{m:Int}(hm:m∈cntsL as (up s) z)(hg:∀c∈cntsL as (up s) z,m<=c):fitB uC as z s=decide (0<m):=by
 unfold fitB;rw[FG,DH,decide_eq_true_iff];constructor
 ·intro h
  have:1<=min m 2:=of_decide_eq_true (h m hm);lia
 ·intro h c hc
  have:=hg c hc;exact decide_eq_true (by show 1<=min c 2;lia)
theorem Wq{u:Ru}{as:List (List Int)}{z:Nat}{s:List Nat}{b:Bool}(pw:s.Pairwise (· < ·))(hs:∀x∈s,x<as.length)
  (h:b=semC u (as.map srt) z (as.map srt).length 0 (some (BE z 0)) s):b=fitB u as z s:=by
 have bl:(as.map srt).length=as.length:=AB ..;have e0:∀p,(BE z (0:Int)).getD p 0=0:=λp=>by
  rw[AC,K6];split<;>rfl
 have sm:Sml u.al (BE z 0):=⟨λp=>by rw[e0];decide,λ_ p=>by rw[e0];decide⟩;rw[bl] at h;have T:=Zo (al:=u.al) (z:=z) (on:=onB (as.map srt)) (L:=Lp (as.map srt)) (n:=as.length) (λp x _ xl h=>AEp (by rw[bl];exact xl) h) (λp _=>by have:=AFK (bs:=as.map srt) (p:=p);rw[bl] at this;exact this) as.length 0 _ s (by lia) LN sm;have cn:∀p:Nat,((cntS (onB (as.map srt)) p s:Nat):Int)=cntL as (up s) p:=λp=>by
  unfold cntS cntL up;rw[Md,AB]
  congr 2
  refine List.filter_congr λx _=>?_;unfold onB;show decide ((p:Int)∈(as.map srt).getD x [])=(as.getD (Int.toNat (x:Int)) []).contains (p:Int);rw[C9,FG,decide_eq_true_iff,J2,AC,AC,BM];cases as[x]? with
  | none=>exact Iff.rfl
  | some t=>exact ACg
 rw[h,FG];refine Iff.trans T ?_;unfold fitB;rw[DH];constructor
 ·rintro⟨_,_,f⟩ c hc
  unfold cntsL at hc;obtain ⟨p,hp,rfl⟩:=B6.mp hc;have:=f p (BC.mp hp) (Bi _);rw[e0,Sc,cn] at this;exact this
 ·intro f
  refine ⟨pw,λx hx=>⟨Bi _,hs x hx⟩,λp hp _=>?_⟩;rw[e0,Sc,cn];exact f _ (B6.mpr ⟨p,BC.mpr hp,rfl⟩)
def Kq(u:Ru)(K:Au)(C D:Addr):Sp:=λvs H Q _=>∃(r p s dx:Addr) (z:Int) (as:List (List Int)) (ms:List Int),vs=[.ref r,.ref p,.ref s]/\H r=some (.ins D dx u.rf)/\WebAt K C H p z as/\rRow K H s ms/\1<=z/\z<=10/\as.length<=12 /\
 ∀(b:Bool) (H':Hp),Same H H'->Q (.bl b) H'
def Vp(K:Au):Sp:=λvs H Q _=>∃(l t:Addr) (z:Nat) (as:List (List Int)) (s:List Nat),vs=[.int z,.ref l,.ref t]/\rLst K (rPair K) H as (.ref l)/\SqT K H t (uv s)/\s.length<=12/\(∀x∈s,x<as.length)/\1<=z/\z<=10 /\
 ∀(L:Addr) (H':Hp),Same H H'->H' L=some (.lst ([fitB (uP false) as z s,fitB (uP true) as z s,fitB uC as z s].map V.bl))->Q (.ref L) H'
section
variable{P:AM}{w:AT}{K:Au}{mg:Str->Option Ap}{base:Heap}{f C D:Addr}{fd:BV}
theorem Wu:FnScope ["self","count"] ["self","count"] (Ac FP):=⟨rfl,rfl,rfl,by decide +kernel,rfl,by decide +kernel,by decide +kernel⟩
theorem Uo(F:Fun K "allows" "Covers.allows" FP f fd):FnOk P w K mg base CX0 1 f fd ["self","count"] (Fw uC D):=by
 refine F.ok Wu (λvs H Q E h=>?_) (λcdv A outer s H vs Q E hr h=>?_)
 ·obtain ⟨p,dx,c,rfl,_⟩:=h
  rfl
 obtain ⟨p,dx,c,rfl,hp,q⟩:=h;refine ⟨_,Aj (Av (Cm Tq (pv 1) Ah (nomark _))),?_⟩;exact ⟨_,rfl,_,_,rfl,rfl,q⟩
theorem ADM:FnScope ["self","web","some"] ["self","web","some"] (Ac LC):=⟨rfl,rfl,rfl,by decide +kernel,rfl,by decide +kernel,by decide +kernel⟩
theorem WY{u:Ru}{fA fC:Addr}{fdA fdC:BV}(F:Fun K "fits" "TiedPoints.fits" LC f fd)(U:Rul u K mg D)(hall:mg "all" = none)
  (GA:FnOk P w K mg base CX0 1 fA fdA ["self","count"] (Fw u D)) (bA:Binds K fdA ["self","count"] []) (mA:Meth K D "allows" fA)
  (GC:FnOk P w K mg base CX0 2 fC fdC ["web","some"] (Qv K C)) (bC:Binds K fdC ["web","some"] []) (kC:AI K (.ref fC)=true) (mC:mg "tie_counts" = some (.ref fC)) :
  FnOk P w K mg base CX0 3 f fd ["self","web","some"] (Kq u K C D):=by
 refine F.ok ADM (λvs H Q E h=>?_) (λcdv A outer s H vs Q E hr h=>?_)
 ·obtain ⟨r,p,so,dx,z,as,ms,rfl,_⟩:=h
  rfl
 obtain ⟨r,p,so,dx,z,as,ms,rfl,hr0,hW,hso,z1,z10,h12,q⟩:=h;have hr1:Room 1 _:=hr.mono (by decide);refine ⟨_,Aj (Av (BK (Li rfl) rfl hall XX (Aa (Ca (Ac LC) ["count"] ["self"] [0] rfl rfl (by decide +kernel) ⟨⟨rfl,by decide +kernel⟩,trivial⟩ (Bx (BP GC hr rfl mC kC bC .nil pass0 (Aa (pv 1) (Aa (pv 2) Ad))))
   (λ_ _ _=>Am (i:=0) (show ((["count"]:List Str)++(["self"]:List Str)).Nodup by decide +kernel) rfl (BF rfl)) (λ_ _ _=>Ci)
   (λ_ _ _=>CJ (pv 1) U.cl mA GA hr1 bA .nil pass0 (Aa (pv 0) Ad))) Ad))),?_⟩
 refine ⟨_,rfl,_,rfl,p,so,z,as,ms,rfl,hW,hso,z1,z10,h12,λL H1 s1 hL eL=>?_⟩;have lc:=Kp as ms z.toNat;refine ⟨L,rfl,⟨_,SqL.of eL⟩,λY hY=>?_⟩;refine Cj (K:=K) (a:=L) (xs:=(cnts as ms z.toNat).map V.int) (λj τ H2=>∃o:Option V,τ=[o,some (.ref r)]/\Same H1 H2/\H2 Y=some (.lst ((((cnts as ms z.toNat).take j).map u.al).map V.bl))) ⟨none,rfl,Same.new hY _,Ab⟩ (λj τ H2 _ ⟨_,_,s2,_⟩=>s2.seq (SqL.of eL)) ?_ ?_
 ·rintro j y τ H2 hy ⟨o,rfl,s2,eY⟩
  obtain ⟨c,hc,rfl⟩:=int_at hy;have jl:=(AJ.mp hc).1;have hr2:=s2 _ _ (s1 _ _ hr0);refine yesN ?_;refine ⟨_,rfl,r,dx,_,rfl,hr2,U.no (by decide +kernel),_,rfl,r,dx,c,rfl,hr2,?_⟩;refine ⟨_,eY,Ay (by rw[AB,AB,Cc];lia),_,rfl,λb o e=>?_,?_⟩
  ·rw[Ag (Af e hY)]
   exact s2 b o e
  ·rw[Ab,take_snoc hc,B8,B8]
   rfl
 ·rintro τ H2 ⟨o,rfl,s2,eY⟩
  rw[AB,DI] at eY;refine ⟨Y,_,rfl,SqL.of eY,?_⟩;exact q _ _ (s1.trans s2)
theorem Wo:FnScope ["_law_points","_law_ties","_law_some_here","_law_counts"] ["_law_points","_law_ties","_law_some_here"] (Ac Eo):=⟨rfl,rfl,rfl,by decide +kernel,rfl,by decide +kernel,by decide +kernel⟩
theorem ZQ(F:Fun K "_law_fits" "_law_fits" Eo f fd)(T:Txt K mg C):FnOk P w K mg base CX0 1 f fd ["_law_points","_law_ties","_law_some_here"] (Vp K):=by
 refine F.ok Wo (λvs H Q E h=>?_) (λcdv A outer s H vs Q E hr h=>?_)
 ·obtain ⟨l,t,z,as,s,rfl,_⟩:=h
  rfl
 obtain ⟨l,so,z,as,st,rfl,hl,hrow,m12,rng,z1,z10,q⟩:=h;refine ⟨_,Ae (Zv (i:=3) (Ac Eo) ["_law_point"] ["_law_some_here","_law_ties"] [2,1] Wo.nd rfl (BF rfl) rfl rfl (by decide +kernel) ⟨⟨rfl,by decide +kernel⟩,⟨rfl,by decide +kernel⟩,trivial⟩ (Cp rfl T.range (Aa (pv 0) Ad))
   (λ_ _ _=>Am (i:=0) (show ((["_law_point"]:List Str)++(["_law_some_here","_law_ties"]:List Str)).Nodup by decide +kernel) rfl (JO rfl)) (λ_ _ _=>Ci)
   (λ_ _ _=>BK (HJ (K:=K) rfl) rfl T.len DT (Aa (Ca (relab (Ac Eo) (YG ((Ak Eo).getD 0 Eo))) ["_law_k"] ["_law_point","_law_ties"] [0,2] rfl rfl (by decide +kernel) ⟨⟨rfl,by decide +kernel⟩,⟨rfl,by decide +kernel⟩,trivial⟩ (ACH (K:=K) rfl (pv 1))
    (λ_ _ _=>Am (i:=0) (show ((["_law_k"]:List Str)++(["_law_point","_law_ties"]:List Str)).Nodup by decide +kernel) rfl (BF rfl))
    (λ_ _ _=>Dj (Ar (Fp (K:=K) rfl) (pv 1) (Bc (ABP (K:=K) rfl) (pv 2) (pv 0) (λ_ _=>rfl)) rfl)) (λ_ _ _=>pv 0)) Ad)))
  (Aj (Av (Ck (Aa (Cm Kf (BK (max_list rfl) rfl T.max J1 (Aa (pv 3) Ad)) Ah (nomark _)) (Aa (Cm (QK DQ (CW hr)) (pv 3) (Aw ADh (Ck (Aa Ah Ad)) (pv 0)) (nomark _)) (Aa (Cm Ol (BK (min_list rfl) rfl T.min LU (Aa (pv 3) Ad)) Ah (nomark _)) Ad)))))),?_⟩
 obtain ⟨l',xs,el,hX,px⟩:=id hl;cases el;refine ⟨_,rfl,(z:Int),rfl,by lia,by lia,λN hN=>?_⟩;refine Cg (lo:=0) (n:=(z:Int).toNat) (λi τ H2=>∃o:Option V,τ=[o,some (.ref so),some (.ref l)]/\Same H H2/\H2 N=some (.lst ((cntsL as (up st) i).map V.int))) ⟨none,rfl,Same.new hN _,Ab⟩ ?_ ?_
 ·rintro i τ H2 hi ⟨o,rfl,s2,eN⟩
  have ei:(0:Int)+i=(i:Int):=by lia
  rw[ei];refine yesN ?_;have row2:=s2.ts.seq hrow;refine ⟨_,rfl,so,rfl,⟨_,row2⟩,λY hY=>?_⟩;refine YQ (K:=K) (a:=so) (xs:=uv st) (λj τ H3=>∃o:Option V,τ=[o,some (.int i),some (.ref l)]/\Same H2 H3/\H3 Y=some (.lst ((((up st).take j).filter λk=>(as.getD k.toNat []).contains (i:Int)).map V.int))) ⟨none,rfl,Same.new hY _,Ab⟩ (λj τ H3 _ ⟨_,_,s3,_⟩=>s3.ts.seq row2) ?_ ?_
  ·rintro j y τ H3 hy ⟨o,rfl,s3,eY⟩
   obtain ⟨k,hk,rfl⟩:=int_at hy;have jl:=(AJ.mp hk).1;obtain ⟨k0,k1⟩:0<=k/\k<(as.length:Int):=by
    have:=BH hk;unfold up at this;obtain ⟨x,hx,rfl⟩:=B6.mp this;have:=rng x hx;lia
   have ul:(up st).length=st.length:=by unfold up;rw[AB]
   have kl:k.toNat<as.length:=by lia
   obtain ⟨v,hv,rt⟩:=Paired.getL px (AK kl);obtain ⟨b,rfl,hb⟩:=Cy rt;have s23:=s2.trans s3;have av:atI xs k=some (.ref b):=by
    have:=Bl hv;rw[show ((k.toNat:Nat):Int)=k by lia] at this;exact this
   refine ⟨_,rfl,_,rfl,_,rfl,l,xs,_,_,rfl,rfl,s23.seq hX,av,b,_,rfl,.inr (s23.ts.seq hb),rfl,Iz _,_,rfl,?_⟩;rw[if_neg (show ¬ (false=true) by decide),EY];have eg:as.getD k.toNat []=as[k.toNat]:=by rw[AC,AK kl];rfl
   have ef:((up st).take (j+1)).filter (λk=>(as.getD k.toNat []).contains (i:Int))=((up st).take j).filter (λk=>(as.getD k.toNat []).contains (i:Int))++(if (i:Int)∈as[k.toNat] then [k] else []):=by
    rw[take_snoc hk,Ex]
    congr 1
    by_cases c:(i:Int)∈as[k.toNat]
    ·rw[if_pos c,DV,eg,if_pos (J2.mpr c)];rfl
    ·rw[if_neg c,DV,eg,if_neg (λz=>c (J2.mp z))];rfl
   show putD Y _ _ _ (decide ((i:Int)∈as[k.toNat])) _;by_cases c:(i:Int)∈as[k.toNat]
   ·refine iteP c ⟨_,rfl,_,eY,?_,_,rfl,λb o e=>?_,?_⟩
    ·have:=EZ (λk:Int=>(as.getD k.toNat []).contains (i:Int)) ((up st).take j)
     rw[Cc] at this;rw[AB];exact Ay (by lia)
    ·rw[Ag (Af e hY)]
     exact s3 b o e
    ·rw[Ab,ef,if_pos c,B8]
     rfl
   ·refine iteN c ⟨_,rfl,s3,?_⟩
    rw[eY,ef,if_neg c,CU]
  ·rintro τ H3 ⟨o,rfl,s3,eY⟩
   rw[AB,DI] at eY;refine ⟨Y,_,rfl,.inl (SqL.of eY),_,s3 _ _ eN,Ay (by rw[AB,JN];lia),_,rfl,λb o e=>?_,?_⟩
   ·rw[Ag (Af e hN)]
    exact s3 _ _ (s2 b o e)
   ·rw[Ab,Ue,B8,AB]
    rfl
 rintro τ H2 ⟨o,rfl,s2,eN⟩;rw[C9] at eN;have lc:=JN as (up st) z;refine ⟨_,rfl,N,cntsL as (up st) z,rfl,SqL.of eN,by lia,λm hm hg=>⟨_,_,rfl,rfl,?_⟩⟩;refine ⟨_,rfl,(by show 1<=sizeLine;decide),λB1 hB1=>?_⟩;have sB1:=Same.new hB1 (.lst [V.int 1]);have eB1:(upd H2 B1 (.lst [V.int 1])) B1=some (.lst [V.int 1]):=Ab;generalize upd H2 B1 (.lst [V.int 1])=H7 at sB1 eB1 ⊢;refine ⟨_,rfl,B1,(z:Int),_,rfl,rfl,eB1,by lia,by lia,De (Ay (by show 1*(z:Int).toNat<=1000;lia)),λB2 hB2=>?_⟩;rw[AAs,C9];have sB2:=Same.new hB2 (.lst ((BE z (1:Int)).map V.int));have eB2:(upd H7 B2 (.lst ((BE z (1:Int)).map V.int))) B2=some (.lst ((BE z (1:Int)).map V.int)):=Ab;generalize upd H7 B2 (.lst ((BE z (1:Int)).map V.int))=H8 at sB2 eB2 ⊢;have s28:=sB1.trans sB2;refine ⟨_,_,⟨N,_,rfl,SqL.of (s28 _ _ eN),paired_ints _⟩,⟨B2,_,rfl,SqL.of eB2,paired_ints _⟩,?_⟩;refine ⟨_,rfl,N,cntsL as (up st) z,rfl,SqL.of (s28 _ _ eN),by lia,λm2 hm2 hg2=>⟨_,_,rfl,rfl,(by show 3<=sizeLine;decide),λL hL=>?_⟩⟩;refine q L _ (s2.trans (s28.trans (Same.new hL _))) ?_;rw[Ab,Yv hm hg,AAu,ABv hm2 hg2];rfl
end
end K53
end
section
namespace L2
open PySem PySem.Spec PyProof.Rows
section
variable{X:Cx}{CX:CXT}{k:Nat}{f C:Addr}{fd:BV}{ps ks:List Str}{sp:Sp}{E:XK}{x m:Str}{p pos:Pos}{kws:List N5}{tk:TA}{g:List Ap->List Ap->List Ap}{gV:List V->List V->List V}
theorem Yp{pins:List (Addr×Obj)}{σ:St}{H:Hp}{s:AA}{Q:VK}{us ws:List Ap}{vs zs:List V}(M:Mk X.K C f)(F:FnOk X.prog X.w X.K X.mg X.base CX k f fd ps sp)(hr:Room (k+1) X.A)(hb:KBinds X.K fd ps ks g gV)
  (hx:Passes CX X E) (I:Inv X pins σ H s) (r:Vals vs us) (rz:Vals zs ws)
  (h:∀x dx,H x=none->H dx=none->dx≠x->sp (gV (.ref x::vs) zs) (upd (upd H dx (.own x)) x (.ins C dx [])) (λv H2=>v=.non/\Q (.ref x) H2) E) :
  wpAny (AL X.prog X.w) X.A (call (.ref C) us (ks.zip ws)) (EP X pins σ Q) X.xe s:=by
 have hq:=h (s.heap.objs.size+1) s.heap.objs.size (I.hok.fresh (LF _)) (I.hok.fresh (AF _)) (BU (EB _));have I2:=Inv.made (C:=C) I;have r1:Vals (V.ref (s.heap.objs.size+1)::vs) (AS (s.heap.objs.size+1)::us):=.cons rfl r;have r2:=hb.rel r1 rz;have hl:(g (AS (s.heap.objs.size+1)::us) ws).length=ps.length:=by rw[<- r2.length];exact F.len _ _ _ _ hq
 refine NO (Tn (f:=f) I.kIn M.makes M.init (beq_iff_eq.mp M.fn) (EJ (F.run _ X.stack _ _ ⟨AS (s.heap.objs.size+1)::us,ks.zip ws⟩ (g (AS (s.heap.objs.size+1)::us) ws) _ _ E (hr.make C us (ks.zip ws))
  (I2.env0.make C us (ks.zip ws)) (hb.to _ _ _ I2.kIn hl) r2 hq) λr s' hq'=>?_))
 cases r with
 | error e=>exact hx pins σ _ _ e s' I2 hq'
 | ok fl =>
  cases fl with
  | ret u =>
   obtain ⟨v,H',I3,rv,ev,q3⟩:=I2.after hq';subst ev;exact ⟨rv,⟨V.ref (s.heap.objs.size+1),H',I3,rfl,q3⟩⟩
  | next=>exact Eg hq'
  | brk=>exact Eg hq'
  | cont=>exact Eg hq'
def ADw(C:Addr)(sp:Sp)(gV:List V->List V->List V)(E:XK)(tk:TA):TE:=λσ H Q=>tk σ H λzs H1=>∀x dx,H1 x=none->H1 dx=none->dx≠x->sp (gV [.ref x] zs) (upd (upd H1 dx (.own x)) x (.ins C dx [])) (λv H2=>v=.non/\Q (.ref x) H2) E
theorem AAT(M:Mk X.K C f)(F:FnOk X.prog X.w X.K X.mg X.base CX k f fd ps sp)(hr:Room (k+1) X.A)(hg:Gl X x)(hm:X.mg x=some (.ref C))(hb:KBinds X.K fd ps ks g gV)(hx:Passes CX X E)
  (hkw:PK X kws tk) (hall:(KP pos (HQ kws X.env)).all (·.1.isSome)=true:=by rfl) (hks:(KP pos (HQ kws X.env)).filterMap (·.1)=ks:=by rfl)
  (hdb:(x==("__debug__" : Str))=false:=by decide)
  (hpl:((Hm pos (Ct [] X.env)).any (·.1)||(KP pos (HQ kws X.env)).any (·.1.isNone))=false:=by rfl) :
  PE X (.Call (.Name x p) [] kws pos) (ADw C sp gV E tk):=by
 intro pins s σ H Q I h;refine EN (Gy I hg hm ?_ hdb);refine PySem.W.callWith_KW0 (h₀:=X.base) I.ok.mod.kin M.kp hall (thn (hkw pos pins s σ H _ I h) λws s2 ⟨zs,H2,I2,rz,q2⟩=>⟨I2.kIn,?_⟩) hpl;rw[hks];exact Yp (us:=[]) M F hr hb hx I2 .nil rz q2
end
def g11{α:Type}(us ws:List α):List α:=match us,ws with
 | [a],[b]=>[a,b]
 | _,_=>[]
theorem ACJ{α:Type}{us ws:List α}(h:(g11 us ws).length=2):∃a b,us=[a]/\ws=[b]:=by
 unfold g11 at h;split at h
 ·exact ⟨_,_,rfl,rfl⟩
 ·cases h
theorem g11_rel{vs zs:List V}{us ws:List Ap}(r:Vals vs us)(rz:Vals zs ws):Vals (g11 vs zs) (g11 us ws):=by
 cases r with
 | nil=>exact .nil
 | cons a r =>
  cases r with
  | cons b r=>exact .nil
  | nil =>
   cases rz with
   | nil=>exact .nil
   | cons c rz =>
    cases rz with
    | cons d rz=>exact .nil
    | nil=>exact .cons a (.cons c .nil)
theorem FunD.kbinds{K:Au}{x qual s1 s2:Str}{st:Stmt}{f dt:Addr}{items:Array Ap}{fd:BV}(F:FunD K x qual st f fd dt items)
  (h:∀(kV doc pm:Ap) (an:Option Addr) (cdv ct:Ap) (a b:Ap),∃k:Option (Array Ap)->Sem (List (Str×Ap)),Ta (A7 x qual (Ao st) (Ak st) (Ac st) (.ref dt) kV doc pm an cdv ct) ⟨[a],[(s2,b)]⟩=OV (.ref dt) >>= k/\k (some items)=pure [(s1,a),(s2,b)]):KBinds K fd [s1,s2] [s2] g11 g11:=by
 obtain ⟨oc,od,kV,doc,pm,an,cdv,ct,osl,rfl,lk,hcd⟩:=F.ex;obtain ⟨oc',od',n,osl',lt⟩:=F.tup;refine ⟨λs us ws hK hl=>?_,g11_rel⟩;obtain ⟨a,b,rfl,rfl⟩:=ACJ hl;obtain ⟨k,h1,h2⟩:=h kV doc pm an cdv ct a b;exact Q9 (T:=dt) rfl (hK _ _ lt) rfl h1 h2
end L2
end
section
namespace L2
open PySem PySem.Spec PyProof.Rows
end L2
end
section
namespace L2
open PySem PySem.Spec PyProof.Rows
end L2
end
section
namespace K53
open PySem L2 G
theorem TY{X:Cx}{ι:Type}{e:Expr}{t:ι->TE}(h:∀i,PE X e (t i)):PE X e (λσ H Q=>∃i,t i σ H Q):=λpins s σ H Q I ⟨i,q⟩=>h i pins s σ H Q I q
theorem Jg{α β:Type}{F:α->β->Prop}:∀{l:List α}{m:List β},Cb F l m->∀k,Cb F (l.take k) (m.take k)
 | _,_,.nil,k=>by rw[VX,VX];exact .nil
 | _,_,.cons h t,0=>.nil
 | _,_,.cons h t,k+1=>.cons h (Jg t k)
theorem AAv(xs:List V)(k:Nat):cutV xs none (some (k:Int))=xs.take k:=by
 unfold cutV;rw[HT.Qq,HT.Wm,List.drop_zero,W1];rcases C4 k xs.length with c | c
 ·rw[show min k xs.length=k by lia]
 ·rw[show min k xs.length=xs.length by lia,G2 (AF _),G2 c]
theorem Zr(ns:List Int)(lo hi:Option Int):∃cs:List Int,cutV (ns.map V.int) lo hi=cs.map V.int/\cs.length<=ns.length:=by
 unfold cutV;refine ⟨(ns.drop (HT.sIx (ns.map V.int).length 0 lo)).take (HT.sIx (ns.map V.int).length (ns.map V.int).length hi-HT.sIx (ns.map V.int).length 0 lo),by rw[Q2,Q3],?_⟩;rw[Cc,GV];lia
theorem Uu(a b:Int):srt [a,b]=[if b<a then b else a,if b>a then b else a]:=by
 rw[Ez];split
 ·rw[if_neg (by lia)]
 ·by_cases e:b>a
  ·rw[if_pos e]
  ·rw[if_neg e]
   have:b=a:=by lia
   rw[this]
theorem AAo{m:Int}{as bs:List (List Int)}(h:OkTies m as)(s:bs.Sublist as):OkTies m bs:=⟨λt ht=>h.ok t (s.subset ht),h.nd.sublist (s.map srt)⟩
theorem Rq:∀{s:List Nat}{lo n:Nat},s.Pairwise (· < ·)->(∀x∈s,lo<=x/\x<n)->s.length<=n-lo
 | [],_,_,_,_=>Bi _
 | x::t,lo,n,pw,h=>by
  obtain ⟨h1,h2⟩:=CI.mp pw;obtain ⟨h3,h4⟩:=h x AG;have:=Rq (lo:=x+1) (n:=n) h2 λy hy=>⟨h1 y hy,(h y (AH _ hy)).2⟩;rw[Dx];lia
def ru:Nat->Ru
 | 0=>uP false
 | 1=>uP true
 | _=>uC
def rc(D Dc:Addr):Nat->Addr
 | 0=>D
 | 1=>D
 | _=>Dc
theorem ACw(i:Nat){m:Str}(h:¬ m = "full"):(ru i).rf.lookup m=none:=match i with
 | 0=>ZX h
 | 1=>ZX h
 | _+2=>rfl
def RuAt(D Dc:Addr)(H:Hp)(v:V)(i:Nat):Prop:=∃r dx,v=.ref r/\H r=some (.ins (rc D Dc i) dx (ru i).rf)
theorem RuAt.same{D Dc:Addr}{H H':Hp}{v:V}{i:Nat}(h:RuAt D Dc H v i)(e:Same H H'):RuAt D Dc H' v i:=let ⟨r,dx,a,b⟩:=h;⟨r,dx,a,e _ _ b⟩
def SvR(K:Au)(S:Addr)(as:List (List Int))(z:Nat)(H:Hp)(v:V)(i:Nat):Prop:=∃(p:Addr) (nums:List Row) (hd:Nat),v=.ref p/\K53s.SvAt K S H p as.length nums hd/\Canon as.length nums hd/\(∀s,led nums hd s=semC (ru i) (as.map srt) z (as.map srt).length 0 (some (BE z 0)) s)/\nums.length<=4000
theorem SvR.same{K:Au}{S:Addr}{as:List (List Int)}{z:Nat}{H H':Hp}{v:V}{i:Nat}(h:SvR K S as z H v i)(e:Same H H'):SvR K S as z H' v i:=let ⟨p,n,hd,a,b,c⟩:=h;⟨p,n,hd,a,b.same e,c⟩
theorem AEz(z:Int)(j:Addr)(h:Int){m:Str}(h1:¬ m = "head")(h2:¬ m = "rows")(h3:¬ m = "amount"):(K53s.flds z j h).lookup m=none:=by
 unfold K53s.flds;rw[Ai,if_neg h1,Ai,if_neg h2,Ai,if_neg h3];rfl
def SetR(K:Au)(n:Nat)(H:Hp)(v:V):Prop:=∃(t:Addr) (s:List Nat),v=.ref t/\SqT K H t (uv s)/\s.Pairwise (· < ·)/\∀x∈s,x<n
theorem SetR.same{K:Au}{n:Nat}{H H':Hp}{v:V}(h:SetR K n H v)(e:Same H H'):SetR K n H' v:=let ⟨t,s,a,b,c⟩:=h;⟨t,s,a,e.ts.seq b,c⟩
theorem SetR.nil{K:Au}{n:Nat}{H:Hp}{t:Addr}(h:H t=some (.tup [])):SetR K n H (.ref t):=⟨t,[],rfl,SqT.of h,.nil,λx hx=>by cases hx⟩
theorem SetR.all{K:Au}{n:Nat}{H:Hp}{t:Addr}(h:H t=some (.tup ((below ((n:Nat):Int).toNat).map V.int))):SetR K n H (.ref t):=by
 rw[C9] at h;exact ⟨t,AZ n,rfl,SqT.of h,Pl,λx hx=>BC.mp hx⟩
theorem Kc{K:Au}{H:Hp}:∀{rows:List Row}{xs:List V},Cb (K53s.rRow K H) rows xs->Cb (rPair K H) (rows.map K53s.r3i) xs
 | _,_,.nil=>.nil
 | _,_,.cons ⟨p,e,h⟩ t=>.cons ⟨p,_,e,h,paired_ints (K53s.r3i _)⟩ (Kc t)
theorem tsX{H H':Hp}{S:Addr}{xs:List V}(e:∀b o,b≠S->H b=some o->H' b=some o)(hS:H S=some (.lst xs)):TSm H H':=λb u hb t=>e b u (λz=>by
 rw[z,hS] at hb;cases hb;obtain ⟨ys,q | ⟨o,q⟩⟩:=t
 ·cases q
 ·cases q) hb
theorem SvR.keep{K:Au}{S X:Addr}{as:List (List Int)}{z:Nat}{H H':Hp}{v:V}{i:Nat}{xs:List V}(e:∀b o,b≠X->H b=some o->H' b=some o)(hX:H X=some (.lst xs))(h:SvR K S as z H v i):SvR K S as z H' v i:=by
 obtain ⟨p,n,hd,a,⟨dx,j,hp,hj⟩,c⟩:=h;refine ⟨p,n,hd,a,⟨dx,j,e _ _ (λz=>?_) hp,Aq K53s.Bv _ _ _ _ (tsX e hX) hj⟩,c⟩;rw[z,hX] at hp;cases hp
theorem SetR.ts{K:Au}{n:Nat}{H H':Hp}{v:V}(h:SetR K n H v)(e:TSm H H'):SetR K n H' v:=let ⟨t,s,a,b,c⟩:=h;⟨t,s,a,e.seq b,c⟩
theorem at3{x0 x1 x2:V}{P:V->Nat->Prop}(h0:P x0 0)(h1:P x1 1)(h2:P x2 2){i:Nat}{x:V}(h:[x0,x1,x2][i]?=some x):P x i:=by
 match i,h with
 | 0,h=>cases h;exact h0
 | 1,h=>cases h;exact h1
 | 2,h=>cases h;exact h2
structure Dt where
 a:Addr
 ns:List Int
 l2:Addr
 W:Addr
 RL:Addr
 l4:Addr
 z:Nat
 y:Nat
 as:List (List Int)
 bs:List (List Int)
 ts:List V
 us:List V
 rs:List V
structure Bs(K:Au)(C D Dc:Addr)(d:Dt)(H:Hp):Prop where
 sc:SqL K H d.a (d.ns.map V.int)
 n63:d.ns.length<=63
 tl:H d.l2=some (.lst d.ts)
 tp:Cb (rPair K H) d.as d.ts
 wb:WebAt K C H d.W d.z (d.as.map srt)
 rl:H d.RL=some (.lst d.rs)
 r3:d.rs.length=3
 ru:∀{i:Nat}{x:V},d.rs[i]?=some x->RuAt D Dc H x i
 fl:H d.l4=some (.lst d.us)
 fp:Cb (rPair K H) d.bs d.us
 ok:OkTies (d.z:Int) d.as
 okb:OkTies (d.y:Int) d.bs
 num:d.as.length<=12/\1<=d.z/\d.z<=10/\d.bs.length<=12/\1<=d.y/\d.y<=10
theorem Bs.same{K:Au}{C D Dc:Addr}{d:Dt}{H H':Hp}(b:Bs K C D Dc d H)(e:Same H H'):Bs K C D Dc d H' :=
 ⟨e.seq b.sc,b.n63,e _ _ b.tl,Paired.imp (λ_ _ r=>Aq Az _ _ _ _ e.ts r) b.tp,b.wb.same e,e _ _ b.rl,b.r3,λh=>(b.ru h).same e,e _ _ b.fl,Paired.imp (λ_ _ r=>Aq Az _ _ _ _ e.ts r) b.fp,b.ok,b.okb,b.num⟩
structure Ss(K:Au)(S SV:Addr)(vs:List V)(d:Dt)(H:Hp):Prop where
 sv:H SV=some (.lst vs)
 v3:vs.length=3
 at_:∀{i:Nat}{x:V},vs[i]?=some x->SvR K S d.as d.z H x i
theorem Ss.same{K:Au}{S SV:Addr}{vs:List V}{d:Dt}{H H':Hp}(b:Ss K S SV vs d H)(e:Same H H'):Ss K S SV vs d H':=⟨e _ _ b.sv,b.v3,λh=>(b.at_ h).same e⟩
abbrev stL(d:Dt)(o8 o9 o10 o11 o12 o13 o14:Option V):St:=[some (.ref d.a),some (.int d.z),some (.ref d.l2),some (.int d.as.length),some (.ref d.W),some (.ref d.RL),some (.int d.y),some (.ref d.l4),o8,o9,o10,o11,o12,o13,o14]
theorem slen{n:Nat}{s':List Nat}(n12:n<=12)(pw:s'.Pairwise (· < ·))(lt:∀x∈s',x<n):s'.length<=12:=by
 have:=Rq (lo:=0) (n:=n) pw λx hx=>⟨Bi _,lt x hx⟩;lia
theorem mkw{K:Au}{C D Dc:Addr}{d:Dt}{HA:Hp}(b:Bs K C D Dc d HA){p dx:Addr}(np:HA p=none)(ndx:HA dx=none){Q':VK}{E':XK}(q':∀(H':Hp),Same HA H'->WebAt K C H' p (d.y:Int) (d.bs.map srt)->Q' .non H'):JF K C [.ref p,.int d.y,.ref d.l4] (upd (upd HA dx (.own p)) p (.ins C dx [])) Q' E':=by
 have sp:Same HA (upd (upd HA dx (.own p)) p (.ins C dx [])):=λb o e=>by
  rw[Ag (Af e np),Ag (Af e ndx)];exact e
 obtain ⟨_,_,_,b12,y1,y10⟩:=b.num;exact ⟨p,dx,d.l4,(d.y:Int),d.us,d.bs,rfl,Ab,sp.seq (SqL.of b.fl),Paired.imp (λt x h=>.inr (Aq Az _ _ _ _ sp.ts h)) b.fp,b.okb,b12,by lia,by lia,λH' k' hW'=>q' H' (λb o e=>k' b o (sp b o e) (Af e np)) hW'⟩
theorem no{n:Int}{jj:Addr}{hd:Int}{m:Str}(h1:¬ m = "head")(h2:¬ m = "rows")(h3:¬ m = "amount"):(K53s.flds n jj hd).lookup m=none:=AEz _ _ _ h1 h2 h3
theorem noK{n:Int}{jj:Addr}{hd:Int}:(K53s.flds n jj hd).lookup ("knots" : Str)=none:=no (by decide +kernel) (by decide +kernel) (by decide +kernel)
theorem noT{n:Int}{jj:Addr}{hd:Int}:(K53s.flds n jj hd).lookup ("top" : Str)=none:=no (by decide +kernel) (by decide +kernel) (by decide +kernel)
theorem noM{n:Int}{jj:Addr}{hd:Int}:(K53s.flds n jj hd).lookup ("many" : Str)=none:=no (by decide +kernel) (by decide +kernel) (by decide +kernel)
abbrev lawN:List Str:=["_law_script","_law_points","_law_ties","_law_n","_law_web_here","_law_rules","_law_more","_law_far","_law_rule","_law_sieves","_law_sieve","_law_some_sets","_law_some_here","_law_k","_law_other"]
section
variable{P:AM}{w:AT}{K:Au}{mg:Str->Option Ap}{base:Heap}{f C D Dc S:Addr}{fd:BV}
theorem DG:FnScope lawN ["_law_script"] (Ac Fd):=⟨rfl,rfl,rfl,by decide +kernel,rfl,by decide +kernel,by decide +kernel⟩
theorem ADc{fI fP fF fG fK fT fM fC fW fO fE fL fB fY:Addr}{fdI fdP fdF fdG fdK fdT fdM fdC fdW fdO fdE fdL fdB fdY:BV}(F:Fun K "law" "law" Fd f fd)(T:Txt K mg C)(T2:K53s.Txt K mg S)(O:Own K S)
  (M:Mk K C fI) (MP:Mk K D fP) (mgP:mg "Pairs" = some (.ref D)) (mkC:FH K Dc=true) (hiC:AO K (.ref Dc) "__init__" = some (some (.builtin "object.__init__"))) (kpC:AI K (.ref Dc)=true) (mgC:mg "Covers" = some (.ref Dc))
  (cls:∀i,Cls K (rc D Dc i)) (mF:∀i,Meth K (rc D Dc i) "fits" fF)
  (GI:FnOk P w K mg base CX0 3 fI fdI ["self","many","ties"] (JF K C)) (bI:Binds K fdI ["self","many","ties"] [])
  (GP:FnOk P w K mg base CX0 1 fP fdP ["self","full"] (Wc D)) (bP0:Binds K fdP ["self","full"] [.bool false]) (kP:KBinds K fdP ["self","full"] ["full"] g11 g11)
  (GF:∀i,FnOk P w K mg base CX0 3 fF fdF ["self","web","some"] (Kq (ru i) K C (rc D Dc i))) (bF:Binds K fdF ["self","web","some"] [])
  (GG:∀i,FnOk P w K mg base CX0 17 fG fdG ["web","rule"] (Ik (ru i) K C (rc D Dc i) S)) (bG:Binds K fdG ["web","rule"] []) (kG:AI K (.ref fG)=true) (mG:mg "grown" = some (.ref fG))
  (GK:FnOk P w K mg base CX0 1 fK fdK ["self"] (K53s.WW K S)) (bK:Binds K fdK ["self"] []) (mK:Meth K S "knots" fK)
  (GT:FnOk P w K mg base CX0 1 fT fdT ["self"] (K53s.ACs K S)) (bT:Binds K fdT ["self"] []) (mT:Meth K S "top" fT)
  (GM:FnOk P w K mg base CX0 1 fM fdM ["self"] (K53s.AAS K S)) (bM:Binds K fdM ["self"] []) (mM:Meth K S "many" fM)
  (GC:FnOk P w K mg base CX0 1 fC fdC ["_law_script","_law_k"] (UJ K)) (bC:Binds K fdC ["_law_script","_law_k"] []) (kC:AI K (.ref fC)=true) (mC:mg "_law_cell" = some (.ref fC))
  (GW:FnOk P w K mg base CX0 3 fW fdW ["_law_script","_law_at"] (ACq K)) (bW:Binds K fdW ["_law_script","_law_at"] []) (kW:AI K (.ref fW)=true) (mW:mg "_law_web" = some (.ref fW))
  (GO:FnOk P w K mg base CX0 1 fO fdO ["_law_cell_here","_law_n"] AAl) (bO:Binds K fdO ["_law_cell_here","_law_n"] []) (kO:AI K (.ref fO)=true) (mO:mg "_law_some" = some (.ref fO))
  (GE:FnOk P w K mg base CX0 1 fE fdE ["_law_knots","_law_top","_law_some_here"] (ADH K)) (bE:Binds K fdE ["_law_knots","_law_top","_law_some_here"] []) (kE:AI K (.ref fE)=true) (mE:mg "_law_led" = some (.ref fE))
  (GL:FnOk P w K mg base CX0 2 fL fdL ["_law_knots","_law_top","_law_n"] (Ou K)) (bL:Binds K fdL ["_law_knots","_law_top","_law_n"] []) (kL:AI K (.ref fL)=true) (mL:mg "_law_is_least" = some (.ref fL))
  (GB:FnOk P w K mg base CX0 1 fB fdB ["_law_points","_law_ties","_law_some_here"] (Vp K)) (bB:Binds K fdB ["_law_points","_law_ties","_law_some_here"] []) (kB:AI K (.ref fB)=true) (mB:mg "_law_fits" = some (.ref fB))
  (GY:FnOk P w K mg base CX0 1 fY fdY ["self"] (Pb K C)) (bY:Binds K fdY ["self"] []) (mY:Meth K C "ties" fY) :
  FnOk P w K mg base CX0 18 f fd ["_law_script"] (RG K):=by
 refine F.ok DG (λvs H Q E h=>?_) (λcdv A outer s H vs Q E hr h=>?_)
 ·obtain ⟨a,ns,rfl,_⟩:=h
  rfl
 obtain ⟨a,ns,rfl,hS,n63,q⟩:=h;have hr1:Room 1 _:=hr.mono (by decide);have hr2:Room (1+1) _:=hr.mono (by decide);have hr3:Room 3 _:=hr.mono (by decide);have hr4:Room (3+1) _:=hr.mono (by decide);obtain ⟨t5,h5,q5⟩:∃t,PSs (cxOf CX0 P w K mg base lawN "law" (Ac Fd) f cdv A outer s H E).nox ((Ak Fd).drop 16) t/\∀(σ:St) (H0:Hp),(∃(d:Dt) (SV:Addr) (vs:List V) (k:Nat) (o8 o10 o11 o12 o14:Option V),σ=stL d o8 (some (.ref SV)) o10 o11 o12 (some (.int k)) o14/\Bs K C D Dc d H0/\Ss K S SV vs d H0/\k<3)->t {nx:=λ_ H'=>Q .non H',rt:=Q} σ H0:=by
  refine ⟨_,Ae (Ax (i:=14) DG.nd rfl (BF rfl) (TY λi=>BP (GG i) hr rfl mG kG bG .nil pass0 (Aa (pv 4) (Aa (Bc Bm (pv 5) (pv 13) (λ_ _=>rfl)) Ad))))
   (Ae (CQ (PW.pt (HF (Ar (Pu (Gq DQ) (CW hr)) (Bo (pv 14) T2.cl mK GK hr1 bK .nil pass0) (Bo (Bc Bm (pv 9) (pv 13) (λ_ _=>rfl)) T2.cl mK GK hr1 bK .nil pass0) (nomark _))
    (Ho (Ar Nt (Bo (pv 14) T2.cl mT GT hr1 bT .nil pass0) (Bo (Bc Bm (pv 9) (pv 13) (λ_ _=>rfl)) T2.cl mT GT hr1 bT .nil pass0) (nomark _))))) (Aj (Av Ec)) BX)
   (Aj (Av (Cm (QK (Gq DQ) (CW hr)) (Bo (pv 4) T.cl mY GY hr1 bY .nil pass0)
   (Ca (Ac Fd) ["_law_tie"] [] [] rfl rfl (by decide +kernel) trivial (Bx (pv 2)) (λ_ _ _=>Am (i:=0) (show ((["_law_tie"]:List Str)++([]:List Str)).Nodup by decide +kernel) rfl (BF rfl)) (λ_ _ _=>Ci)
    (λ_ _ _=>CG (Aa (BK (YF (K:=K) rfl rfl) rfl T.min LU (Aa (pv 0) Ad)) (Aa (BK (Yb (K:=K) rfl rfl) rfl T.max J1 (Aa (pv 0) Ad)) Ad)))) (nomark _))))),?_⟩
  rintro σ H29 ⟨d,SV,vs,k,o8,o10,o11,o12,o14,rfl,B,SS,k3⟩;obtain ⟨a12,z1,z10,_⟩:=B.num;have bl:(d.as.map srt).length=d.as.length:=AB ..;obtain ⟨x,hk⟩:∃x,d.rs[k]?=some x:=⟨_,AK (by rw[B.r3];exact k3)⟩;obtain ⟨r,dx,rfl,er⟩:=B.ru hk;refine ⟨k,_,rfl,_,rfl,_,rfl,d.RL,_,_,_,rfl,rfl,SqL.of B.rl,Bl hk,d.W,r,dx,d.z,d.as.map srt,rfl,B.wb,er,z1,z10,by rw[bl];exact a12,λg2 n2 h2 H30 s30 gV2 gC2 gL2 gR2=>?_⟩;rw[bl] at gV2 gC2;obtain ⟨xv,hkv⟩:∃x,vs[k]?=some x:=⟨_,AK (show k<vs.length by rw[SS.v3];exact k3)⟩;obtain ⟨p3,n3,h3,rfl,hV3,cA3,lA3,rA3⟩:=(SS.at_ hkv).same s30;obtain ⟨rfl,rfl⟩:=Canon.unique gC2 cA3 λs=>(gL2 s).trans (lA3 s).symm;obtain ⟨dg2,jj2,hp2,_⟩:=id gV2;obtain ⟨dg3,jj3,hp3,_⟩:=id hV3;refine ⟨_,rfl,g2,dg2,_,rfl,hp2,noK,g2,_,h2,n2,rfl,gV2,λlk ks H31 s31 hlk elk px=>?_⟩;refine ⟨_,rfl,_,rfl,SV,_,_,_,rfl,rfl,SqL.of (s31 _ _ (s30 _ _ SS.sv)),Bl hkv,p3,dg3,_,rfl,s31 _ _ hp3,noK,p3,_,h2,n2,rfl,hV3.same s31,λlk2 ks2 H32 s32 hlk2 elk2 px2=>?_⟩;refine ⟨_,_,⟨lk,ks,rfl,SqL.of (s32 _ _ elk),Kc (Paired.imp (λa b=>K53s.Bv _ _ a b s32.ts) px)⟩,⟨lk2,ks2,rfl,SqL.of elk2,Kc px2⟩,_,rfl,iteNP rfl ?_⟩;have s3032:=s31.trans s32;refine ⟨_,rfl,g2,dg2,_,rfl,s3032 _ _ hp2,noT,g2,_,h2,n2,rfl,gV2.same s3032,?_⟩;refine ⟨_,rfl,_,rfl,SV,_,_,_,rfl,rfl,SqL.of (s3032 _ _ (s30 _ _ SS.sv)),Bl hkv,p3,dg3,_,rfl,s3032 _ _ hp3,noT,p3,_,h2,n2,rfl,hV3.same s3032,rfl,_,rfl,iteNP rfl ?_⟩;have s932:=s30.trans s3032;obtain ⟨dw,jw,hw,_⟩:=id (B.wb.same s932);refine ⟨_,rfl,d.W,dw,_,rfl,hw,Ei _ _ (by decide +kernel) (by decide +kernel),d.W,_,_,rfl,B.wb.same s932,λlt H33 s33 hlt hLt=>?_⟩;have B33:=B.same (s932.trans s33);refine ⟨_,rfl,d.l2,rfl,⟨_,SqL.of B33.tl⟩,λY hY=>?_⟩;have lx:=B4 B33.tp;refine Cj (K:=K) (a:=d.l2) (xs:=d.ts) (λj τ HA=>∃(o:Option V) (ys:List V),τ=[o]/\Same H33 HA/\HA Y=some (.lst ys)/\ys.length=j/\Cb (rPair K HA) ((d.as.take j).map srt) ys) ⟨none,[],rfl,Same.new hY _,Ab,rfl,.nil⟩ (λj τ HA _ ⟨_,_,_,sm,_⟩=>SqL.of (sm _ _ B33.tl)) ?_ ?_
  ·rintro j v τ HA hv ⟨o,ys,rfl,sA,eY,yl,py⟩
   obtain ⟨t',ht',rt'⟩:=Paired.get B33.tp hv;obtain ⟨x,y',rfl,_⟩:=B.ok.ok t' (BH ht');obtain ⟨tq,rfl,htq⟩:=Cy rt';have jl:=(AJ.mp ht').1;have htA:=sA.ts.seq htq;refine yesN ⟨_,rfl,tq,x,y',rfl,htA,_,rfl,tq,x,y',rfl,htA,(by show 2<=sizeLine;decide),λu hu=>?_⟩;have sB:=Same.new hu (.tup [V.int (if y'<x then y' else x),V.int (if y'>x then y' else x)]);have eY2:=sB _ _ eY;refine ⟨ys,eY2,Ay (by lia),_,ys++[.ref u],rfl,λb o e=>?_,Ab,by rw[By,yl];rfl,?_⟩
   ·rw[Ag (Af e hY)]
    exact sB _ _ (sA b o e)
   ·rw[take_snoc ht',B8]
    have ts':TSm _ (upd _ Y (.lst (ys++[.ref u]))):=TSm.lst eY2;refine Paired.app (Paired.imp (λ_ _ h=>Aq Az _ _ _ _ (sB.ts.trans ts') h) py) (Paired.one (Aq Az _ _ _ _ ts' ?_));rw[Uu];exact FQ Ab
  rintro τ H34 ⟨_,ys,rfl,s34,eY,yl,py⟩;rw[<- lx,DI] at py;obtain ⟨l5,xs5,e5,hS5,px5⟩:=hLt;cases e5;refine ⟨d.as.map srt,d.as.map srt,⟨lt,xs5,rfl,s34.seq hS5,Paired.imp (λ_ _ r=>Aq Az _ _ _ _ s34.ts r) px5⟩,⟨Y,ys,rfl,SqL.of eY,py⟩,?_⟩;rw[decide_eq_true rfl];exact q _
 obtain ⟨t4,h4,q4⟩:∃t,PSs (cxOf CX0 P w K mg base lawN "law" (Ac Fd) f cdv A outer s H E).nox ((Ak Fd).drop 12) t/\∀(σ:St) (H0:Hp),(∃(d:Dt) (SV:Addr) (vs:List V) (o8 o10 o11 o12:Option V),σ=stL d o8 (some (.ref SV)) o10 o11 o12 none none/\Bs K C D Dc d H0/\Ss K S SV vs d H0)->t {nx:=λ_ H'=>Q .non H',rt:=Q} σ H0:=by
  refine ⟨_,Ae (Ax (i:=13) DG.nd rfl (BF rfl) (Aw Dm (Aw Fi (BP GC hr1 rfl mC kC bC .nil pass0 (Aa (pv 0) (Aa Ah Ad))) Ah) Ah))
   (Ae (DY (TY λi=>CJ (Bc Bm (pv 5) (pv 13) (λ_ _=>rfl)) (cls i) (mF i) (GF i) hr3 bF .nil pass0 (Aa (pv 4) (Aa (CG Ad) Ad))))
   (Ae (Ax (i:=14) DG.nd rfl (BF rfl) (TY λi=>BP (GG i) hr rfl mG kG bG .nil pass0 (Aa (Ir M GI hr4 rfl T.mgC bI .nil pass0 (Aa (pv 6) (Aa (pv 7) Ad))) (Aa (Bc Bm (pv 5) (pv 13) (λ_ _=>rfl)) Ad))))
   (Ae (Cv C8 rfl (Bx (Ck (Aa (CG Ad) (Aa (Bk (GJ rfl) rfl T.tuple DJ (Aa (Bk Jp rfl T.range OQ (Aa (BK BZ rfl T.len DT (Aa (pv 7) Ad)) Ad)) Ad))
    (Aa (BP GO hr1 rfl mO kO bO .nil pass0 (Aa (BP GC hr1 rfl mC kC bC .nil pass0 (Aa (pv 0) (Aa Ah Ad))) (Aa (BK BZ rfl T.len DT (Aa (pv 7) Ad)) Ad))) Ad))))) (Am (i:=12) DG.nd rfl (JO rfl))
   (Aj (CQ (Ar Nt (BP GE hr1 rfl mE kE bE .nil pass0 (Aa (Bo (pv 14) T2.cl mK GK hr1 bK .nil pass0) (Aa (Bo (pv 14) T2.cl mT GT hr1 bT .nil pass0) (Aa (pv 12) Ad))))
    (Bc Bm (BP GB hr1 rfl mB kB bB .nil pass0 (Aa (pv 6) (Aa (pv 7) (Aa (pv 12) Ad)))) (pv 13) (λ_ _=>rfl)) (nomark _)) (Aj (Av Ec)) BX)))
   h5))),?_⟩
  rintro σ H21 ⟨d,SV,vs,o8,o10,o11,o12,rfl,B,SS⟩;obtain ⟨a12,z1,z10,b12,y1,y10⟩:=B.num;have n63:=B.n63;have bl:(d.as.map srt).length=d.as.length:=AB ..;have bb:(d.bs.map srt).length=d.bs.length:=AB ..;refine ⟨_,rfl,d.a,d.ns,0,rfl,B.sc,by lia,λc0=>⟨_,_,rfl,rfl,⟨by decide,by decide⟩,_,_,rfl,rfl,(by show (0:Int)<3;decide),?_⟩⟩;obtain ⟨k,ek,k3⟩:∃k:Nat,c0 / 1040%3=(k:Int)/\k<3:=by
   have h1:=Hb (c0 / 1040) (show (3:Int)≠0 by decide);have h2:=FR (c0 / 1040) (show (0:Int)<3 by decide);exact ⟨(c0 / 1040%3).toNat,by lia,by lia⟩
  show gName 13 (V.int (c0 / 1040%3)) _ _ _;rw[ek];obtain ⟨x,hk⟩:∃x,d.rs[k]?=some x:=⟨_,AK (by rw[B.r3];exact k3)⟩;obtain ⟨r,dx,rfl,er⟩:=B.ru hk;refine ⟨k,_,rfl,_,rfl,d.RL,_,_,_,rfl,rfl,SqL.of B.rl,Bl hk,r,dx,_,rfl,er,ACw k (by decide +kernel),_,rfl,Bi _,λe he=>?_⟩;have sd:=Same.new he (.tup []);refine ⟨r,d.W,e,dx,(d.z:Int),d.as.map srt,[],rfl,sd _ _ er,B.wb.same sd,.inr (SqT.of Ab),by lia,by lia,by rw[bl];exact a12,λb H22 s22=>?_⟩;have s2122:=sd.trans s22;have B22:=B.same s2122;refine ⟨k,_,rfl,_,rfl,λp dp np ndp npd=>mkw B22 np ndp λH23 s23 hV=>⟨rfl,?_⟩⟩;have B23:=B22.same s23;have s23':=s2122.trans s23;refine ⟨_,rfl,_,rfl,d.RL,_,_,_,rfl,rfl,SqL.of B23.rl,Bl hk,p,r,dx,d.y,d.bs.map srt,rfl,hV,s23' _ _ er,y1,y10,by rw[bb];exact b12,λg gn gh H24 s24 gV gC gL gR=>?_⟩;rw[bb] at gV gC;have B24:=B23.same s24;have S24:=SS.same (s23'.trans s24);have ux:=B4 B24.fp;clear B22 B23 s23' s2122 s22 s23 s24 hV B SS er sd;refine ⟨Bi _,λt0 ht0=>?_⟩;have sa:=Same.new ht0 (.tup []);have et0:(upd H24 t0 (.tup [])) t0=some (.tup []):=Ab;generalize upd H24 t0 (.tup [])=H25 at sa et0 ⊢;refine ⟨_,rfl,d.l4,_,rfl,.inl (SqL.of (sa _ _ B24.fl)),?_⟩;rw[<- ux];refine ⟨(d.bs.length:Int),rfl,λR hR=>⟨R,(d.bs.length:Int),rfl,Ab,by lia,by lia,λt1 ht1=>?_⟩⟩;have sb:=(Same.new hR (.rng 0 (d.bs.length:Int))).trans (Same.new ht1 (.tup ((below ((d.bs.length:Nat):Int).toNat).map V.int)));have et1:(upd (upd H25 R (.rng 0 (d.bs.length:Int))) t1 (.tup ((below ((d.bs.length:Nat):Int).toNat).map V.int))) t1=some (.tup ((below ((d.bs.length:Nat):Int).toNat).map V.int)):=Ab;generalize upd (upd H25 R (.rng 0 (d.bs.length:Int))) t1 (.tup ((below ((d.bs.length:Nat):Int).toNat).map V.int))=H26 at sb et1 ⊢;have s26:=sa.trans sb;refine ⟨_,rfl,d.a,d.ns,4,rfl,s26.seq B24.sc,by lia,λc4=>⟨_,rfl,d.l4,_,rfl,.inl (SqL.of (s26 _ _ B24.fl)),?_⟩⟩;rw[<- ux];refine ⟨c4,d.bs.length,rfl,b12,λt2 s2' H27 sc et2 pw2 lt2=>?_⟩;refine ⟨(by show 3<=sizeLine;decide),λL3 hL3=>?_⟩;have sd:=Same.new hL3 (.lst [.ref t0,.ref t1,.ref t2]);have eL3:(upd H27 L3 (.lst [.ref t0,.ref t1,.ref t2])) L3=some (.lst [.ref t0,.ref t1,.ref t2]):=Ab;have in3:∀v∈[V.ref t0,V.ref t1,V.ref t2],SetR K d.bs.length (upd H27 L3 (.lst [.ref t0,.ref t1,.ref t2])) v:=λv hv=>by
   rcases AX.mp hv with rfl | hv
   ·exact SetR.nil (sd _ _ (sc _ _ (sb _ _ et0)))
   ·rcases AX.mp hv with rfl | hv
    ·exact SetR.all (sd _ _ (sc _ _ et1))
    ·rw[Cn] at hv
     subst hv;exact ⟨t2,s2',rfl,SqT.of (sd _ _ et2),pw2,lt2⟩
  have s28:Same H24 (upd H27 L3 (.lst [.ref t0,.ref t1,.ref t2])):=s26.trans (sc.trans sd);generalize upd H27 L3 (.lst [.ref t0,.ref t1,.ref t2])=H28 at sd eL3 in3 s28 ⊢;refine ⟨L3,rfl,⟨_,SqL.of eL3⟩,?_⟩;refine DK (K:=K) (a:=L3) (xs:=[.ref t0,.ref t1,.ref t2]) (λi σ HA=>∃(o12:Option V),σ=stL d o8 (some (.ref SV)) o10 o11 o12 (some (.int k)) (some (.ref g))/\Same H28 HA) ⟨o12,rfl,Same.refl _⟩ (λi σ HA _ ⟨_,_,sm⟩=>SqL.of (sm _ _ eL3)) ?_ ?_
  ·rintro i x σ HA hx ⟨o12,rfl,sA⟩
   obtain ⟨t,s',rfl,hT,pw,lt⟩:=(in3 x (BH hx)).same sA;have gV':=gV.same (s28.trans sA);obtain ⟨dg,jj,hp,_⟩:=id gV';refine ⟨_,rfl,g,dg,_,rfl,hp,noK,g,_,gh,gn,rfl,gV',λlk ks HC sC hlk elk px=>?_⟩;refine ⟨_,rfl,g,dg,_,rfl,sC _ _ hp,noT,g,_,gh,gn,rfl,gV'.same sC,_,rfl,lk,t,d.bs.length,gh,s',gn,rfl,⟨lk,ks,rfl,SqL.of elk,px⟩,sC.ts.seq hT,gC.least.ok,gC.knot,λHD sD=>?_⟩;rw[Wq pw lt (gL s')];have sAD:=sA.trans (sC.trans sD);have BD:=B24.same (s28.trans sAD);refine ⟨_,rfl,_,rfl,_,rfl,d.l4,t,d.y,d.bs,s',rfl,⟨d.l4,d.us,rfl,SqL.of BD.fl,BD.fp⟩,(sC.trans sD).ts.seq hT,slen b12 pw lt,lt,y1,y10,λL HE sE eL=>?_⟩;have hf:([fitB (uP false) d.bs d.y s',fitB (uP true) d.bs d.y s',fitB uC d.bs d.y s'].map V.bl)[k]?=some (.bl (fitB (ru k) d.bs d.y s')):=by
    match k,k3 with
    | 0,_=>rfl
    | 1,_=>rfl
    | 2,_=>rfl
   refine ⟨_,rfl,L,_,_,_,rfl,rfl,SqL.of eL,Bl hf,rfl,_,rfl,iteNP rfl ⟨_,rfl,sAD.trans sE⟩⟩
  rintro σ H29 ⟨o12',rfl,s29⟩;exact q5 _ _ ⟨d,SV,vs,k,_,_,_,_,_,rfl,B24.same (s28.trans s29),S24.same (s28.trans s29),k3⟩
 obtain ⟨t3,h3,q3⟩:∃t,PSs (cxOf CX0 P w K mg base lawN "law" (Ac Fd) f cdv A outer s H E).nox ((Ak Fd).drop 10) t/\∀(σ:St) (H0:Hp),(∃(d:Dt) (SV:Addr) (vs:List V) (o8 o10:Option V),σ=stL d o8 (some (.ref SV)) o10 none none none none/\Bs K C D Dc d H0/\Ss K S SV vs d H0)->t {nx:=λ_ H'=>Q .non H',rt:=Q} σ H0:=by
  refine ⟨_,Ae (Ax (i:=11) DG.nd rfl (BF rfl) (Aw Uz (Aw Uz (Ck (Aa (CG Ad) (Aa (Bk (GJ rfl) rfl T.tuple DJ (Aa (Bk Jp rfl T.range OQ (Aa (pv 3) Ad)) Ad)) Ad)))
    (Ca (Ac Fd) ["_law_k"] [] [] rfl rfl (by decide +kernel) trivial (Cp rfl T.range (Aa (pv 3) Ad)) (λ_ _ _=>Am (i:=0) (show ((["_law_k"]:List Str)++([]:List Str)).Nodup by decide +kernel) rfl (BF rfl)) (λ_ _ _=>Ci) (λ_ _ _=>CG (Aa (pv 0) Ad))))
    (Ca (Ac Fd) ["_law_cell_here"] ["_law_n"] [3] rfl rfl (by decide +kernel) ⟨⟨rfl,by decide +kernel⟩,trivial⟩ (Bx (GZ Ju (pv 0) (Gu Ah) (Gu Ah))) (λ_ _ _=>Am (i:=0) (show ((["_law_cell_here"]:List Str)++(["_law_n"]:List Str)).Nodup by decide +kernel) rfl (BF rfl)) (λ_ _ _=>Ci)
     (λ_ _ _=>BP GO hr1 rfl mO kO bO .nil pass0 (Aa (pv 0) (Aa (pv 1) Ad))))))
   (Ae (Cv C8 rfl (Bx (pv 11)) (Am (i:=12) DG.nd rfl (JO rfl))
   (Aj (CQ (Ar (Pu AEO (CW hr)) (Ca (Ac Fd) ["_law_sieve"] ["_law_some_here"] [12] rfl rfl (by decide +kernel) ⟨⟨rfl,by decide +kernel⟩,trivial⟩ (Bx (pv 9)) (λ_ _ _=>Am (i:=0) (show ((["_law_sieve"]:List Str)++(["_law_some_here"]:List Str)).Nodup by decide +kernel) rfl (BF rfl)) (λ_ _ _=>Ci)
     (λ_ _ _=>BP GE hr1 rfl mE kE bE .nil pass0 (Aa (Bo (pv 0) T2.cl mK GK hr1 bK .nil pass0) (Aa (Bo (pv 0) T2.cl mT GT hr1 bT .nil pass0) (Aa (pv 1) Ad)))))
    (BP GB hr1 rfl mB kB bB .nil pass0 (Aa (pv 1) (Aa (pv 2) (Aa (pv 12) Ad)))) (nomark _)) (Aj (Av Ec)) BX)))
   h4),?_⟩
  rintro σ H12 ⟨d,SV,vs,o8,o10,rfl,B,SS⟩;obtain ⟨a12,z1,z10,b12,y1,y10⟩:=B.num;have n63:=B.n63;refine ⟨Bi _,λt0 ht0=>?_⟩;have sa:=Same.new ht0 (.tup []);have et0:(upd H12 t0 (.tup [])) t0=some (.tup []):=Ab;generalize upd H12 t0 (.tup [])=H13 at sa et0 ⊢;refine ⟨_,rfl,(d.as.length:Int),rfl,λR hR=>⟨R,(d.as.length:Int),rfl,Ab,by lia,by lia,λt1 ht1=>?_⟩⟩;have sb:=(Same.new hR (.rng 0 (d.as.length:Int))).trans (Same.new ht1 (.tup ((below ((d.as.length:Nat):Int).toNat).map V.int)));have et1:(upd (upd H13 R (.rng 0 (d.as.length:Int))) t1 (.tup ((below ((d.as.length:Nat):Int).toNat).map V.int))) t1=some (.tup ((below ((d.as.length:Nat):Int).toNat).map V.int)):=Ab;generalize upd (upd H13 R (.rng 0 (d.as.length:Int))) t1 (.tup ((below ((d.as.length:Nat):Int).toNat).map V.int))=H14 at sb et1 ⊢;refine ⟨(by show 2<=sizeLine;decide),λL0 hL0=>?_⟩;have sc:=Same.new hL0 (.lst [.ref t0,.ref t1]);have eL0:(upd H14 L0 (.lst [.ref t0,.ref t1])) L0=some (.lst [.ref t0,.ref t1]):=Ab;have in0:∀v∈[V.ref t0,V.ref t1],SetR K d.as.length (upd H14 L0 (.lst [.ref t0,.ref t1])) v:=λv hv=>by
   rcases AX.mp hv with rfl | hv
   ·exact SetR.nil (sc _ _ (sb _ _ et0))
   ·rw[Cn] at hv
    subst hv;exact SetR.all (sc _ _ et1)
  generalize upd H14 L0 (.lst [.ref t0,.ref t1])=H15 at sc eL0 in0 ⊢;have s15:=sa.trans (sb.trans sc);refine ⟨_,rfl,(d.as.length:Int),rfl,by lia,by lia,λB0 hB=>?_⟩;refine Cg (lo:=0) (n:=((d.as.length:Nat):Int).toNat) (λj τ HA=>∃(o:Option V) (ys:List V),τ=[o]/\Same H15 HA/\HA B0=some (.lst ys)/\ys.length=j/\∀v∈ys,SetR K d.as.length HA v) ⟨none,[],rfl,Same.new hB _,Ab,rfl,λv h=>by cases h⟩ ?_ ?_
  ·rintro j τ HA hj ⟨o,ys,rfl,sA,eB,yl,hy⟩
   rw[show (0:Int)+(j:Int)=(j:Int) by lia];refine yesN ⟨_,rfl,(by show 1<=sizeLine;decide),λt ht=>?_⟩;have sB:=Same.new ht (.tup [V.int (j:Int)]);have eB2:=sB _ _ eB;refine ⟨ys,eB2,Ay (by lia),_,ys++[.ref t],rfl,λb o e=>?_,Ab,by rw[By,yl];rfl,λv hv=>?_⟩
   ·rw[Ag (Af e hB)]
    exact sB _ _ (sA b o e)
   ·refine SetR.ts ?_ (TSm.lst eB2)
    rcases Co.mp hv with hv | hv
    ·exact (hy v hv).same sB
    ·rw[Cn] at hv
     subst hv;exact ⟨t,[j],rfl,SqT.of Ab,IH ..,λx hx=>by rw[Cn] at hx;lia⟩
  rintro τ H16 ⟨_,xb,rfl,s16,eB,xl2,hxb⟩;refine ⟨L0,B0,_,_,rfl,rfl,s16 _ _ eL0,eB,De (Ay (by show 2+xb.length<=1000;lia)),λL1 hL1=>?_⟩;have s17:=Same.new hL1 (.lst ([V.ref t0,V.ref t1]++xb));have eL1:(upd H16 L1 (.lst ([V.ref t0,V.ref t1]++xb))) L1=some (.lst ([V.ref t0,V.ref t1]++xb)):=Ab;have in1:∀v∈[V.ref t0,V.ref t1]++xb,SetR K d.as.length (upd H16 L1 (.lst ([V.ref t0,V.ref t1]++xb))) v:=λv hv=>by
   rcases Co.mp hv with hv | hv
   ·exact ((in0 v hv).same s16).same s17
   ·exact (hxb v hv).same s17
  have l1l:([V.ref t0,V.ref t1]++xb).length<=20:=by rw[By,xl2];show 2+((d.as.length:Nat):Int).toNat<=20;lia
  generalize upd H16 L1 (.lst ([V.ref t0,V.ref t1]++xb))=H17 at s17 eL1 in1 ⊢;generalize [V.ref t0,V.ref t1]++xb=x1 at eL1 in1 l1l ⊢;have s917:=s15.trans (s16.trans s17);refine ⟨_,rfl,_,rfl,_,rfl,d.a,_,rfl,s917.seq B.sc,λcl hcl=>?_⟩;obtain ⟨cs,ec,cl63⟩:=Zr d.ns (some 2) (some 32);rw[ec];have s18:=Same.new hcl (.lst (cs.map V.int));have ecl:(upd H17 cl (.lst (cs.map V.int))) cl=some (.lst (cs.map V.int)):=Ab;generalize upd H17 cl (.lst (cs.map V.int))=H18 at s18 ecl ⊢;refine ⟨cl,rfl,⟨_,SqL.of ecl⟩,λB2 hB2=>?_⟩;refine Cj (K:=K) (a:=cl) (xs:=cs.map V.int) (λj τ HA=>∃(o:Option V) (ys:List V),τ=[o,some (.int d.as.length)]/\Same H18 HA/\HA B2=some (.lst ys)/\ys.length=j/\∀v∈ys,SetR K d.as.length HA v) ⟨none,[],rfl,Same.new hB2 _,Ab,rfl,λv h=>by cases h⟩ (λj τ HA _ ⟨_,_,_,sm,_⟩=>SqL.of (sm _ _ ecl)) ?_ ?_
  ·rintro j x τ HA hx ⟨o,ys,rfl,sA,eB2,yl,hy⟩
   obtain ⟨c,hc,rfl⟩:=int_at hx;have jl:=(AJ.mp hc).1;refine yesN ⟨_,rfl,_,rfl,c,d.as.length,rfl,a12,λt s' HB sB et pw lt=>?_⟩;have eB3:=sB _ _ eB2;refine ⟨ys,eB3,Ay (by lia),_,ys++[.ref t],rfl,λb o e=>?_,Ab,by rw[By,yl];rfl,λv hv=>?_⟩
   ·rw[Ag (Af e hB2)]
    exact sB _ _ (sA b o e)
   ·refine SetR.ts ?_ (TSm.lst eB3)
    rcases Co.mp hv with hv | hv
    ·exact (hy v hv).same sB
    ·rw[Cn] at hv
     subst hv;exact ⟨t,s',rfl,SqT.of et,pw,lt⟩
  rintro τ H19 ⟨_,xc,rfl,s19,eB2,xl3,hxc⟩;rw[AB] at xl3;refine ⟨L1,B2,_,_,rfl,rfl,s19 _ _ (s18 _ _ eL1),eB2,De (Ay (by lia)),λL2 hL2=>?_⟩;have s20:=Same.new hL2 (.lst (x1++xc));have eL2:(upd H19 L2 (.lst (x1++xc))) L2=some (.lst (x1++xc)):=Ab;have in2:∀v∈x1++xc,SetR K d.as.length (upd H19 L2 (.lst (x1++xc))) v:=λv hv=>by
   rcases Co.mp hv with hv | hv
   ·exact (((in1 v hv).same s18).same s19).same s20
   ·exact (hxc v hv).same s20
  have sZ:Same H12 (upd H19 L2 (.lst (x1++xc))):=s917.trans (s18.trans (s19.trans s20));generalize upd H19 L2 (.lst (x1++xc))=H20 at s20 eL2 in2 sZ ⊢;generalize x1++xc=x2 at eL2 in2 ⊢;have B20:=B.same sZ;have S20:=SS.same sZ;clear sa et0 sb et1 sc eL0 in0 s15 s16 eB hxb s17 eL1 in1 s917 s18 ecl s19 eB2 hxc s20 sZ B SS;refine ⟨_,rfl,L2,rfl,⟨_,SqL.of eL2⟩,?_⟩;refine DK (K:=K) (a:=L2) (xs:=x2) (λi σ HA=>∃(o12:Option V),σ=stL d o8 (some (.ref SV)) o10 (some (.ref L2)) o12 none none/\Same H20 HA) ⟨none,rfl,Same.refl _⟩ (λi σ HA _ ⟨_,_,sm⟩=>SqL.of (sm _ _ eL2)) ?_ ?_
  ·rintro i x σ HA hx ⟨o12,rfl,sA⟩
   obtain ⟨t,s',rfl,hT,pw,lt⟩:=(in2 x (BH hx)).same sA;have SA:=S20.same sA;refine ⟨_,rfl,SV,rfl,⟨_,SqL.of SA.sv⟩,λZ hZ=>?_⟩;refine Cj (K:=K) (a:=SV) (xs:=vs) (λj τ HB=>∃(o:Option V),τ=[o,some (.ref t)]/\Same HA HB/\HB Z=some (.lst (((AZ j).map λi=>fitB (ru i) d.as d.z s').map V.bl))) ⟨none,rfl,Same.new hZ _,Ab⟩ (λj τ HB _ ⟨_,_,sm,_⟩=>SqL.of (sm _ _ SA.sv)) ?_ ?_
   ·rintro j x τ HB hx ⟨o,rfl,sB,eZ⟩
    obtain ⟨p,nums,hd,rfl,hV,cA,lA,rA⟩:=(SA.at_ hx).same sB;obtain ⟨dx,jj,hp,_⟩:=id hV;have v3:=SA.v3;have j3:j<vs.length:=(AJ.mp hx).1;refine yesN ⟨_,rfl,p,dx,_,rfl,hp,noK,p,_,hd,nums,rfl,hV,λlk ks HC sC hlk elk px=>?_⟩;refine ⟨_,rfl,p,dx,_,rfl,sC _ _ hp,noT,p,_,hd,nums,rfl,hV.same sC,_,rfl,lk,t,d.as.length,hd,s',nums,rfl,⟨lk,ks,rfl,SqL.of elk,px⟩,(sB.trans sC).ts.seq hT,cA.least.ok,cA.knot,λHD sD=>?_⟩;rw[Wq pw lt (lA s')];have sCD:=sC.trans sD;refine ⟨_,sCD _ _ eZ,Ay (by rw[AB,AB,CS];lia),_,rfl,λb o e=>?_,?_⟩
    ·rw[Ag (Af e hZ)]
     exact sCD _ _ (sB b o e)
    ·rw[Ab,IN,B8,B8]
     rfl
   rintro τ HB ⟨_,rfl,sB,eZ⟩;have BB:=B20.same (sA.trans sB);refine ⟨_,rfl,_,rfl,_,rfl,d.l2,t,d.z,d.as,s',rfl,⟨d.l2,d.ts,rfl,SqL.of BB.tl,BB.tp⟩,sB.ts.seq hT,slen a12 pw lt,lt,z1,z10,λL HC sC eL=>?_⟩;refine ⟨_,_,⟨Z,_,rfl,SqL.of (sC _ _ eZ),Hg _⟩,⟨L,_,rfl,SqL.of eL,Hg _⟩,_,rfl,iteNP ?_ ⟨_,rfl,sA.trans (sB.trans sC)⟩⟩;rw[SA.v3];rfl
  rintro σ H21 ⟨o12,rfl,s21⟩;exact q4 _ _ ⟨d,SV,vs,_,_,_,_,rfl,B20.same s21,S20.same s21⟩
 obtain ⟨t2,h2,q2⟩:∃t,PSs (cxOf CX0 P w K mg base lawN "law" (Ac Fd) f cdv A outer s H E).nox ((Ak Fd).drop 7) t/\∀(σ:St) (H0:Hp),(∃(d:Dt),σ=stL d none none none none none none none/\Bs K C D Dc d H0)->t {nx:=λ_ H'=>Q .non H',rt:=Q} σ H0:=by
  refine ⟨_,Ae (Cv C8 rfl (Bx (pv 5)) (Am (i:=8) DG.nd rfl (BF rfl))
   (Aj (DY (TY λi=>CJ (pv 8) (cls i) (mF i) (GF i) hr3 bF .nil pass0 (Aa (Ir M GI hr4 rfl T.mgC bI .nil pass0 (Aa (pv 6) (Aa (pv 7) Ad))) (Aa (CG Ad) Ad))))))
   (Ae (QC (i:=9) (Ac Fd) ["_law_rule"] ["_law_web_here"] [4] DG.nd rfl (BF rfl) rfl rfl (by decide +kernel) ⟨⟨rfl,by decide +kernel⟩,trivial⟩ (Bx (pv 5))
   (λ_ _ _=>Am (i:=0) (show ((["_law_rule"]:List Str)++(["_law_web_here"]:List Str)).Nodup by decide +kernel) rfl (BF rfl)) (λ_ _ _=>Ci)
   (λ_ _ _=>TY λi=>BP (GG i) hr rfl mG kG bG .nil pass0 (Aa (pv 1) (Aa (pv 0) Ad))))
   (Ae (Cv C8 rfl (Bx (pv 9)) (Am (i:=10) DG.nd rfl (BF rfl))
   (Aj (CQ (PW.pt (HF (Km (Hh (BK (ACR T2.cl O) rfl T.isi MW (Aa (pv 10) (Aa (Gp (v:=.ref S) rfl T2.mgC rfl) Ad)))))
    (HF (Ar Nt (Bo (pv 10) T2.cl mM GM hr1 bM .nil pass0) (pv 3) (nomark _))
    (Ho (Km (Hh (BP GL hr2 rfl mL kL bL .nil pass0 (Aa (Bo (pv 10) T2.cl mK GK hr1 bK .nil pass0) (Aa (Bo (pv 10) T2.cl mT GT hr1 bT .nil pass0) (Aa (pv 3) Ad)))))))))) (Aj (Av Ec)) BX)))
   h3)),?_⟩
  rintro σ H9 ⟨d,rfl,B⟩;obtain ⟨a12,z1,z10,b12,y1,y10⟩:=B.num;have bl:(d.as.map srt).length=d.as.length:=AB ..;have bb:(d.bs.map srt).length=d.bs.length:=AB ..;refine ⟨_,rfl,d.RL,rfl,⟨_,SqL.of B.rl⟩,?_⟩;refine DK (K:=K) (a:=d.RL) (xs:=d.rs) (λi σ HA=>∃(o8:Option V),σ=stL d o8 none none none none none none/\Same H9 HA) ⟨none,rfl,Same.refl _⟩ (λi σ HA _ ⟨_,_,sm⟩=>SqL.of (sm _ _ B.rl)) ?_ ?_
  ·rintro i x σ HA hx ⟨o8,rfl,sA⟩
   have BA:=B.same sA;obtain ⟨r,dx,rfl,er⟩:=BA.ru hx;refine ⟨i,_,rfl,r,dx,_,rfl,er,ACw i (by decide +kernel),_,rfl,_,rfl,λp dp np ndp npd=>?_⟩;refine mkw BA np ndp λHB sB hV=>⟨rfl,?_⟩;refine ⟨Bi _,λe he=>?_⟩;have sC:=Same.new he (.tup []);refine ⟨r,p,e,dx,(d.y:Int),d.bs.map srt,[],rfl,sC _ _ (sB _ _ er),hV.same sC,.inr (SqT.of Ab),by lia,by lia,by rw[bb];exact b12,λb HD sD=>?_⟩;exact ⟨_,rfl,sA.trans (sB.trans (sC.trans sD))⟩
  rintro σ H10 ⟨o8,rfl,s10⟩;have B10:=B.same s10;clear B s10;refine ⟨_,rfl,d.RL,rfl,⟨_,SqL.of B10.rl⟩,λSV hSV=>?_⟩;have r3:=B10.r3;refine Cj (K:=K) (a:=d.RL) (xs:=d.rs) (λi τ HA=>∃(o:Option V) (ys:List V),τ=[o,some (.ref d.W)]/\Same H10 HA/\HA SV=some (.lst ys)/\ys.length=i/\∀(j:Nat) (v:V),ys[j]?=some v->SvR K S d.as d.z HA v j) ⟨none,[],rfl,Same.new hSV _,Ab,rfl,λj v h=>by cases h⟩ (λi τ HA _ ⟨_,_,_,sm,_⟩=>SqL.of (sm _ _ B10.rl)) ?_ ?_
  ·rintro i x τ HA hx ⟨o,ys,rfl,sA,eS,yl,hy⟩
   have i3:=(AJ.mp hx).1;have BA:=B10.same sA;obtain ⟨r,dx,rfl,er⟩:=BA.ru hx;refine yesN ⟨i,_,rfl,_,rfl,d.W,r,dx,d.z,d.as.map srt,rfl,BA.wb,er,z1,z10,by rw[bl];exact a12,λp nums hd HB sB hV cA lA rA=>?_⟩;have eSB:=sB _ _ eS;rw[bl] at hV cA;refine ⟨ys,eSB,Ay (by lia),_,ys++[.ref p],rfl,λb o e=>?_,Ab,by rw[By,yl];rfl,λj v hv=>?_⟩
   ·rw[Ag (Af e hSV)]
    exact sB _ _ (sA b o e)
   ·have kp:∀b o,b≠SV->HB b=some o->(upd HB SV (.lst (ys++[.ref p]))) b=some o:=λb o ne e=>by rw[Ag ne];exact e
    rcases C4 j ys.length with c | c
    ·rw[A2 c] at hv
     exact ((hy j v hv).same sB).keep kp eSB
    ·rw[Cs c] at hv
     have ej:j=i:=by
      have:=(AJ.mp hv).1;rw[DC] at this;lia
     subst ej;rw[yl,Iy] at hv;cases hv;exact SvR.keep kp eSB ⟨p,nums,hd,rfl,hV,cA,lA,rA⟩
  rintro τ H11 ⟨o,vs,rfl,s11,eSV,vl,hv⟩;have B11:=B10.same s11;have S11:Ss K S SV vs d H11:=⟨eSV,vl.trans r3,λ{i x} h=>hv i x h⟩;refine ⟨_,rfl,SV,rfl,⟨_,SqL.of eSV⟩,?_⟩;refine DK (K:=K) (a:=SV) (xs:=vs) (λi σ HA=>∃(o10:Option V),σ=stL d o8 (some (.ref SV)) o10 none none none none/\Same H11 HA) ⟨none,rfl,Same.refl _⟩ (λi σ HA _ ⟨_,_,sm⟩=>SqL.of (sm _ _ eSV)) ?_ ?_
  ·rintro i x σ HA hx ⟨o10,rfl,sA⟩
   obtain ⟨p,nums,hd,rfl,hV,cA,lA,rA⟩:=(S11.at_ hx).same sA;obtain ⟨dx,jj,hp,_⟩:=id hV;refine ⟨_,rfl,p,dx,_,rfl,hp,true,rfl,iteF ?_⟩;refine ⟨_,rfl,p,dx,_,rfl,hp,noM,p,_,hd,nums,rfl,hV,_,rfl,rfl,_,rfl,iteNP rfl ?_⟩;refine ⟨_,rfl,p,dx,_,rfl,hp,noK,p,_,hd,nums,rfl,hV,λlk ks HB sB hlk elk px=>?_⟩;refine ⟨_,rfl,p,dx,_,rfl,sB _ _ hp,noT,p,_,hd,nums,rfl,hV.same sB,_,rfl,lk,d.as.length,hd,nums,rfl,⟨lk,ks,rfl,SqL.of elk,px⟩,cA,rA,λHC sC=>⟨true,rfl,iteF ?_⟩⟩;exact ⟨_,rfl,sA.trans (sB.trans sC)⟩
  rintro σ H12 ⟨o10,rfl,s12⟩;exact q3 _ _ ⟨d,SV,vs,_,_,rfl,B11.same s12,S11.same s12⟩
 refine ⟨_,Ae (Pj (BP GW hr3 rfl mW kW bW .nil pass0 (Aa (pv 0) (Aa Ah Ad))) (Uk rfl (Bb (Am (i:=1) DG.nd rfl (BF rfl)) (Bb (Am (i:=2) DG.nd rfl (BF rfl)) Dw))))
   (Ws (CQ (Ar Nt (Aw Dm (Aw Fi (BP GC hr1 rfl mC kC bC .nil pass0 (Aa (pv 0) (Aa Ah Ad))) Ah) Ah) Ah (nomark _)) (Aj (Ax (i:=2) DG.nd rfl (BF rfl) (GZ Ju (pv 2) Jr (Gu Ah)))) BX)
   (Ae (Ax (i:=3) DG.nd rfl (JO rfl) (BK BZ rfl T.len DT (Aa (pv 2) Ad)))
   (Ae (Ax (i:=4) DG.nd rfl (JO rfl) (Ir M GI hr4 rfl T.mgC bI .nil pass0 (Aa (pv 1) (Aa (pv 2) Ad))))
   (Ae (Ax (i:=5) DG.nd rfl (BF rfl) (Ck (Aa (AAf MP GP hr2 rfl mgP bP0 (show Vals [V.bl false] [G1 false] from .cons rfl .nil) pass0) (Aa (AAT MP GP hr2 rfl mgP kP pass0 (ACj Ec ADn)) (Aa (ACP mkC hiC kpC rfl mgC) Ad)))))
   (Ae (Pj (BP GW hr3 rfl mW kW bW .nil pass0 (Aa (pv 0) (Aa Ah Ad))) (Uk rfl (Bb (Am (i:=6) DG.nd rfl (BF rfl)) (Bb (Am (i:=7) DG.nd rfl (BF rfl)) Dw))))
   (Ae (Ax (i:=7) DG.nd rfl (BF rfl) (GZ Ju (pv 7) Jr (Gu Ah)))
   h2)))))),?_⟩
 refine ⟨_,rfl,a,ns,0,rfl,hS,by lia,λt l m xl as0 H1 s1 et el nl pl m1 m10 h12 ok0=>?_⟩;refine ⟨t,_,rfl,SqT.of et,rfl,_,_,rfl,_,_,rfl,rfl,?_⟩;obtain ⟨z,rfl⟩:∃z:Nat,m=(z:Int):=⟨m.toNat,by lia⟩;have hS1:=s1.seq hS;refine ⟨λσ HA=>∃(l2:Addr) (ts:List V) (as:List (List Int)),σ=[some (.ref a),some (.int z),some (.ref l2),none,none,none,none,none,none,none,none,none,none,none,none]/\SqL K HA a (ns.map V.int)/\HA l2=some (.lst ts)/\Cb (rPair K HA) as ts/\OkTies (z:Int) as/\as.length<=12,?_,?_⟩
 ·refine ⟨_,rfl,a,ns,0,rfl,hS1,by lia,λc0=>⟨_,_,rfl,rfl,⟨by decide,by decide⟩,_,_,rfl,rfl,(by show (0:Int)<8;decide),rfl,_,rfl,?_⟩⟩
  refine ite2 (λ_=>?_) (λ_=>⟨l,xl,as0,rfl,hS1,el,pl,ok0,h12⟩);refine ⟨_,rfl,_,rfl,l,xl,rfl,SqL.of el,λl2 hl2=>?_⟩;rw[show cutV xl none (some 6)=xl.take 6 from AAv xl 6];have s2:=Same.new hl2 (.lst (xl.take 6));exact ⟨l2,xl.take 6,as0.take 6,rfl,s2.seq hS1,Ab,Paired.imp (λ_ _ r=>Aq Az _ _ _ _ s2.ts r) (Jg pl 6),AAo ok0 (F7 ..),by rw[Cc];lia⟩
 rintro σ H2 ⟨l2,ts,as,rfl,hS2,el2,pl2,ok,a12⟩;have lx:=B4 pl2;have z1:1<=z:=by lia
 have z10:z<=10:=by lia
 have bl:(as.map srt).length=as.length:=AB ..;have lift:∀{H':Hp},Same H2 H'->Cb (rPair K H') as ts:=λs=>Paired.imp (λ_ _ r=>Aq Az _ _ _ _ s.ts r) pl2;refine ⟨_,rfl,l2,_,rfl,.inl (SqL.of el2),?_⟩;rw[<- lx];refine ⟨_,rfl,_,rfl,λW dW nW ndW nWd=>?_⟩;have sp:Same H2 (upd (upd H2 dW (.own W)) W (.ins C dW [])):=λb o e=>by
  rw[Ag (Af e nW),Ag (Af e ndW)];exact e
 refine ⟨W,dW,l2,(z:Int),ts,as,rfl,Ab,sp.seq (SqL.of el2),Paired.imp (λt x h=>.inr (Aq Az _ _ _ _ sp.ts h)) pl2,ok,a12,by lia,by lia,λH3 k3 hW=>⟨rfl,?_⟩⟩;have s3:Same H2 H3:=λb o e=>k3 b o (sp b o e) (Af e nW);refine λr0 d0 hr0 hd0 n0=>⟨r0,d0,false,rfl,Ab,rfl,?_⟩;have s4:Same H3 (upd (upd (upd H3 d0 (.own r0)) r0 (.ins D d0 [])) r0 (.ins D d0 (pf false))):=λb o e=>by
  rw[Ag (Af e hr0),Ag (Af e hr0),Ag (Af e hd0)];exact e
 have e0:(upd (upd (upd H3 d0 (.own r0)) r0 (.ins D d0 [])) r0 (.ins D d0 (pf false))) r0=some (.ins D d0 (pf false)):=Ab;generalize upd (upd (upd H3 d0 (.own r0)) r0 (.ins D d0 [])) r0 (.ins D d0 (pf false))=H4 at s4 e0 ⊢;refine λr1 d1 hr1' hd1 n1=>⟨r1,d1,true,rfl,Ab,rfl,?_⟩;have s5:Same H4 (upd (upd (upd H4 d1 (.own r1)) r1 (.ins D d1 [])) r1 (.ins D d1 (pf true))):=λb o e=>by
  rw[Ag (Af e hr1'),Ag (Af e hr1'),Ag (Af e hd1)];exact e
 have e1:(upd (upd (upd H4 d1 (.own r1)) r1 (.ins D d1 [])) r1 (.ins D d1 (pf true))) r1=some (.ins D d1 (pf true)):=Ab;generalize upd (upd (upd H4 d1 (.own r1)) r1 (.ins D d1 [])) r1 (.ins D d1 (pf true))=H5 at s5 e1 ⊢;refine λr2 d2 hr2' hd2 n2=>?_;have s6:Same H5 (upd (upd H5 d2 (.own r2)) r2 (.ins Dc d2 [])):=λb o e=>by
  rw[Ag (Af e hr2'),Ag (Af e hd2)];exact e
 have e2:(upd (upd H5 d2 (.own r2)) r2 (.ins Dc d2 [])) r2=some (.ins Dc d2 []):=Ab;generalize upd (upd H5 d2 (.own r2)) r2 (.ins Dc d2 [])=H6 at s6 e2 ⊢;refine ⟨(by show 3<=sizeLine;decide),λRL hRL=>?_⟩;have s7:=Same.new hRL (.lst [.ref r0,.ref r1,.ref r2]);have eRL:(upd H6 RL (.lst [.ref r0,.ref r1,.ref r2])) RL=some (.lst [.ref r0,.ref r1,.ref r2]):=Ab;generalize upd H6 RL (.lst [.ref r0,.ref r1,.ref r2])=H7 at s7 eRL ⊢;have s47:=s4.trans (s5.trans (s6.trans s7));have rall:∀{i:Nat}{x:V},[V.ref r0,V.ref r1,V.ref r2][i]?=some x->RuAt D Dc H7 x i:=λh=>at3 (P:=λx i=>RuAt D Dc H7 x i) ⟨r0,d0,rfl,s7 _ _ (s6 _ _ (s5 _ _ e0))⟩ ⟨r1,d1,rfl,s7 _ _ (s6 _ _ e1)⟩ ⟨r2,d2,rfl,s7 _ _ e2⟩ h;have s37:=s3.trans s47;have hW7:=hW.same s47;have hS7:=s37.seq hS2;have el7:=s37 _ _ el2;have pl7:=lift s37;refine ⟨_,rfl,a,ns,2,rfl,hS7,by lia,λt' l3 m' xl' bs0 H8 s8 et' el' nl' pl' m1' m10' h12' ok0'=>?_⟩;refine ⟨t',_,rfl,SqT.of et',rfl,_,_,rfl,_,_,rfl,rfl,?_⟩;obtain ⟨y,rfl⟩:∃y:Nat,m'=(y:Int):=⟨m'.toNat,by lia⟩;refine ⟨_,rfl,_,rfl,l3,xl',rfl,SqL.of el',λl4 hl4=>?_⟩;rw[show cutV xl' none (some 6)=xl'.take 6 from AAv xl' 6];have s9:=Same.new hl4 (.lst (xl'.take 6));have el9:(upd H8 l4 (.lst (xl'.take 6))) l4=some (.lst (xl'.take 6)):=Ab;have pl9:=Paired.imp (λ_ _ r=>Aq Az _ _ _ _ s9.ts r) (Jg pl' 6);have okb:=AAo ok0' (F7 6 bs0);have b12:(bs0.take 6).length<=12:=by rw[Cc];lia
 generalize upd H8 l4 (.lst (xl'.take 6))=H9 at s9 el9 pl9 ⊢;generalize xl'.take 6=us at el9 pl9 ⊢;generalize bs0.take 6=bs at pl9 okb b12;have ux:=B4 pl9;have bb:(bs.map srt).length=bs.length:=AB ..;have y1:1<=y:=by lia
 have y10:y<=10:=by lia
 have s79:=s8.trans s9;have rall9:∀{i:Nat}{x:V},[V.ref r0,V.ref r1,V.ref r2][i]?=some x->RuAt D Dc H9 x i:=λh=>(rall h).same s79;have hW9:=hW7.same s79;have hS9:=s79.seq hS7;have eL9:=s79 _ _ el7;have pL9:Cb (rPair K H9) as ts:=Paired.imp (λ_ _ r=>Aq Az _ _ _ _ s79.ts r) pl7;have eR9:=s79 _ _ eRL;exact q2 _ _ ⟨⟨a,ns,l2,W,RL,l4,z,y,as,bs,ts,us,[.ref r0,.ref r1,.ref r2]⟩,rfl,hS9,n63,eL9,pL9,hW9,eR9,rfl,λh=>rall9 h,el9,pl9,ok,okb,a12,z1,z10,b12,y1,y10⟩
end
theorem Yg{P:AM}{w:AT}{K:Au}{mg:Str->Option Ap}{base:Heap}{f D dt:Addr}{fd:BV}{items:Array Ap}(F:FunD K "__init__" "Pairs.__init__" JK f fd dt items)(cl:Cls K D)(nF:NoAttr K D "full"):FnOk P w K mg base CX0 1 f fd ["self","full"] (Wc D):=by
 refine F.ok ACn (λvs H Q E h=>?_) (λcdv A outer s H vs Q E hr h=>?_)
 ·obtain ⟨r,dx,fu,rfl,_⟩:=h
  rfl
 obtain ⟨r,dx,fu,rfl,h0,q⟩:=h;refine ⟨_,Aj (Dp (pv 0) (pv 1) rfl),?_⟩;exact ⟨_,rfl,_,rfl,r,D,dx,[],rfl,h0,cl,nF,(by show 0<1000;decide),q⟩
theorem fits3{P:AM}{w:AT}{K:Au}{mg:Str->Option Ap}{base:Heap}{f C D Dc:Addr}{fd:BV}{k:Nat}{ps:List Str}(h0:∀fu,FnOk P w K mg base CX0 k f fd ps (Kq (uP fu) K C D))(h2:FnOk P w K mg base CX0 k f fd ps (Kq uC K C Dc)):∀i,FnOk P w K mg base CX0 k f fd ps (Kq (ru i) K C (rc D Dc i))
 | 0=>h0 false
 | 1=>h0 true
 | _+2=>h2
theorem grown3{P:AM}{w:AT}{K:Au}{mg:Str->Option Ap}{base:Heap}{f C D Dc S:Addr}{fd:BV}{k:Nat}{ps:List Str}(h0:∀fu,FnOk P w K mg base CX0 k f fd ps (Ik (uP fu) K C D S))(h2:FnOk P w K mg base CX0 k f fd ps (Ik uC K C Dc S)):∀i,FnOk P w K mg base CX0 k f fd ps (Ik (ru i) K C (rc D Dc i) S)
 | 0=>h0 false
 | 1=>h0 true
 | _+2=>h2
end K53
end
section
namespace L2
open PySem PySem.Spec PyProof.Rows
section
variable{B:Ap->Ap->Ap->Option Addr->Ap->Ap->List Ap->Sem (List (Str×Ap))}{p q r s:Str}
theorem bn1(h:∀kV doc pm an cdv ct a,B kV doc pm an cdv ct [a]=pure [(p,a)])(kV doc pm:Ap)(an:Option Addr)(cdv ct:Ap)(us:List Ap)(hl:us.length=([p]:List Str).length):B kV doc pm an cdv ct us=pure (([p]:List Str).zip us):=by
 match us,hl with
 | [a],_=>exact h ..
theorem bn2(h:∀kV doc pm an cdv ct a b,B kV doc pm an cdv ct [a,b]=pure [(p,a),(q,b)])(kV doc pm:Ap)(an:Option Addr)(cdv ct:Ap)(us:List Ap)(hl:us.length=([p,q]:List Str).length):B kV doc pm an cdv ct us=pure (([p,q]:List Str).zip us):=by
 match us,hl with
 | [a,b],_=>exact h ..
theorem bn3(h:∀kV doc pm an cdv ct a b c,B kV doc pm an cdv ct [a,b,c]=pure [(p,a),(q,b),(r,c)])(kV doc pm:Ap)(an:Option Addr)(cdv ct:Ap)(us:List Ap)(hl:us.length=([p,q,r]:List Str).length):B kV doc pm an cdv ct us=pure (([p,q,r]:List Str).zip us):=by
 match us,hl with
 | [a,b,c],_=>exact h ..
theorem bn4(h:∀kV doc pm an cdv ct a b c d,B kV doc pm an cdv ct [a,b,c,d]=pure [(p,a),(q,b),(r,c),(s,d)])(kV doc pm:Ap)(an:Option Addr)(cdv ct:Ap)(us:List Ap)(hl:us.length=([p,q,r,s]:List Str).length):B kV doc pm an cdv ct us=pure (([p,q,r,s]:List Str).zip us):=by
 match us,hl with
 | [a,b,c,d],_=>exact h ..
end
end L2
end
namespace PySem.W.Fast
def tw10028170532033555480:=()
def tw1005795761970007997:=()
def tw10064737663502395452:=()
def tw10125581041246864471:=()
def tw10163270453566140140:=()
def tw10185373011314951147:=()
def tw10192319046485959114:=()
def tw10216888100417557888:=()
def tw10226012482917279563:=()
def tw10235085080562569415:=()
def tw10242998428049678879:=()
def tw10332969279545674169:=()
def tw10350066375514509319:=()
def tw10370529411563999341:=()
def tw10370647240821772815:=()
def tw10424694293180165325:=()
def tw10458449898215626080:=()
def tw10471373470818198974:=()
def tw10479790678882379891:=()
def tw10481327387764852830:=()
def tw10515866596247924705:=()
def tw10613484642858718101:=()
def tw10653165656735350207:=()
def tw10667890873721311887:=()
def tw10736309402260368476:=()
def tw1075324426953664117:=()
def tw1086096943345001224:=()
def tw10871358661692651181:=()
def tw10888054809142955638:=()
def tw10933225027958993206:=()
def tw10967828841566954448:=()
def tw10977248040473149820:=()
def tw11007508907543316212:=()
def tw11149150520260840289:=()
def tw11161010792475484868:=()
def tw11216011723957683916:=()
def tw11218214169396823483:=()
def tw11269832475512243368:=()
def tw11348564917241371758:=()
def tw11379190973700764214:=()
def tw11403491902244649369:=()
def tw11403599012849337206:=()
def tw1147695725478813923:=()
def tw11485188778441103143:=()
def tw1152400772304569174:=()
def tw11594653438752782988:=()
def tw11635992325683388428:=()
def tw11662187482463419085:=()
def tw11684851856733147143:=()
def tw11871315032788208259:=()
def tw11898112219720534022:=()
def tw11915330101343909835:=()
def tw11992271863454906209:=()
def tw12019656527808246382:=()
def tw12079393003497802986:=()
def tw12241833142478865672:=()
def tw12334207529111132838:=()
def tw12340708789686699699:=()
def tw12347156452303255585:=()
def tw12383895750346031719:=()
def tw12384917187470949095:=()
def tw12389192643035903425:=()
def tw12407756139251715951:=()
def tw1241637496220515081:=()
def tw12447243929757710214:=()
def tw12520298166570315753:=()
def tw12586298208711055951:=()
def tw12631564324709293249:=()
def tw12710226449979201108:=()
def tw12733018566005324500:=()
def tw12801549097880150226:=()
def tw12911655973509615640:=()
def tw12945540088081648340:=()
def tw12952922993908931226:=()
def tw12966338716589340384:=()
def tw12987113276725035101:=()
def tw13057311252754073821:=()
def tw13063351236550471714:=()
def tw13155234327211291167:=()
def tw13155790880538526284:=()
def tw13184304255289022654:=()
def tw1329500395025446147:=()
def tw13333420893752579230:=()
def tw13335315491848572444:=()
def tw13368918073338852356:=()
def tw13418131301955718813:=()
def tw13552513886172420200:=()
def tw13557889221363298598:=()
def tw13574331104714335889:=()
def tw13592884107227541251:=()
def tw1361484980533244137:=()
def tw13626800646332954716:=()
def tw13632909069531005239:=()
def tw13709116656254634999:=()
def tw13712636442526549703:=()
def tw13720508082304470750:=()
def tw13755568778896284669:=()
def tw13804198648569771728:=()
def tw13844620394218020505:=()
def tw13857875313008712041:=()
def tw13865924222975000586:=()
def tw13871749202691708727:=()
def tw13914096713114237630:=()
def tw13935424402471412695:=()
def tw1393580611374709300:=()
def tw13936221661395879410:=()
def tw13957888616470733012:=()
def tw14006995770010525208:=()
def tw14012178802111846145:=()
def tw14066024405756403637:=()
def tw14172418655420210127:=()
def tw14250152603939231806:=()
def tw14340829137067820098:=()
def tw14360993618122302071:=()
def tw14393426004743148674:=()
def tw14525312790281083448:=()
def tw14566191315960363181:=()
def tw14572111041325280622:=()
def tw14580010950054069402:=()
def tw14610283957135660427:=()
def tw14611451370949913511:=()
def tw14652406197151356657:=()
def tw14678091991182276613:=()
def tw14686990217389751196:=()
def tw14708743985360010886:=()
def tw14712198850053788073:=()
def tw14734964267033744355:=()
def tw14736228448651839611:=()
def tw14754425996353014760:=()
def tw14869518348712557632:=()
def tw14954346442639996550:=()
def tw14970758605117062865:=()
def tw14988172002085778212:=()
def tw15062044871859132955:=()
def tw15107362549998362776:=()
def tw15185245050515077715:=()
def tw15193058437636316554:=()
def tw1527025982674346938:=()
def tw15297017243283833474:=()
def tw15323738642662873782:=()
def tw15327881893163887805:=()
def tw15345339402188558672:=()
def tw15379459944201510578:=()
def tw15380752135349933700:=()
def tw15395116396843267279:=()
def tw15406213839641907951:=()
def tw15451540726391511451:=()
def tw15490282709406804175:=()
def tw15490816696647330403:=()
def tw155272436311791224:=()
def tw15592541413344577575:=()
def tw15597473712651562027:=()
def tw15616913731818483895:=()
def tw15618027274495049812:=()
def tw15682744226774596618:=()
def tw15686471787266923654:=()
def tw15815636018978898529:=()
def tw15834850405664846116:=()
def tw15835921736714311303:=()
def tw15844000212821145042:=()
def tw15855022683232320164:=()
def tw1588330378795662109:=()
def tw15886406874160831728:=()
def tw15912601089535532506:=()
def tw15918809200647323990:=()
def tw159401724924565094:=()
def tw15967022079539983556:=()
def tw15980782056465306851:=()
def tw15983533549752609305:=()
def tw16078793257002287122:=()
def tw16091464604269158920:=()
def tw16252461987892659306:=()
def tw16279585486780626519:=()
def tw16368586821722744879:=()
def tw16428903324998680043:=()
def tw16717918725880071257:=()
def tw1672008018032670984:=()
def tw16731277554762856828:=()
def tw16798936182576793914:=()
def tw16812308201513833040:=()
def tw16812580165287975290:=()
def tw16888066247140589686:=()
def tw16942123979520147765:=()
def tw17056148781279758626:=()
def tw17060854907502199336:=()
def tw17083418536000475758:=()
def tw17090533985911501384:=()
def tw17132957205311907731:=()
def tw17145466448998015691:=()
def tw17148634484322796417:=()
def tw17230460327621765024:=()
def tw17241893654282134689:=()
def tw17317718351707134075:=()
def tw17332834378670439481:=()
def tw1740720009686708431:=()
def tw17423476883320717613:=()
def tw1753091510646775707:=()
def tw17572318167554475941:=()
def tw17581240546482135279:=()
def tw17584910309481437929:=()
def tw17621037059339194888:=()
def tw1762425704979373757:=()
def tw17663338459215914321:=()
def tw17763721882328102257:=()
def tw1779263413737526424:=()
def tw17837885808335589455:=()
def tw17911625480546404473:=()
def tw17936874575632829342:=()
def tw17963246572405702776:=()
def tw17993837898692709548:=()
def tw18091435272049902990:=()
def tw18134740194108379697:=()
def tw18165192398998102004:=()
def tw18299035635768892354:=()
def tw18334612439874342830:=()
def tw1850196354917020558:=()
def tw1883044798552113335:=()
def tw1983422712125616415:=()
def tw2059447631299724127:=()
def tw2108569623266590454:=()
def tw2160378467727213699:=()
def tw2178736318055068836:=()
def tw223553667990497559:=()
def tw2244309193069739994:=()
def tw230716070967694754:=()
def tw2362993081097542016:=()
def tw2383996584835169534:=()
def tw2427058366724943377:=()
def tw2500123745522372758:=()
def tw2538819687564241093:=()
def tw2540106388846008839:=()
def tw255674948117483446:=()
def tw257553886131015163:=()
def tw2644094244122054354:=()
def tw2655960509915735388:=()
def tw268259170006155434:=()
def tw271948903800996253:=()
def tw2750773298381909871:=()
def tw2863833447727195049:=()
def tw2913887798837514845:=()
def tw2927333593441454202:=()
def tw2936264246759886228:=()
def tw2973113984992404719:=()
def tw2981782537493990521:=()
def tw3015689508075474568:=()
def tw3076388568909748670:=()
def tw3151616835756102401:=()
def tw3155517389907713390:=()
def tw3196905999648572166:=()
def tw3211662909146863473:=()
def tw3278629348908251352:=()
def tw3285818299362453962:=()
def tw3287311812719119093:=()
def tw338242681220389327:=()
def tw3412282927093656256:=()
def tw3432424710031634649:=()
def tw3484911180551348934:=()
def tw3539657986487454897:=()
def tw3580933139877618462:=()
def tw3695170910439611692:=()
def tw3775957265274581668:=()
def tw3802494118264083465:=()
def tw3810859500632821320:=()
def tw3861315224707377106:=()
def tw3882689944737174037:=()
def tw3937725268474003182:=()
def tw39822639133232248:=()
def tw3991357568766872112:=()
def tw4062329825348419125:=()
def tw4084614341471014447:=()
def tw4153736710012755024:=()
def tw4187574212754269270:=()
def tw4198873683245665886:=()
def tw4208549824261610311:=()
def tw423244434220598207:=()
def tw4279924300308857383:=()
def tw4350472665121369933:=()
def tw4368245950671803217:=()
def tw4433850965022193875:=()
def tw4500471081186105866:=()
def tw4519315605444911305:=()
def tw4519843625771719049:=()
def tw4552297850161670181:=()
def tw456957293250024915:=()
def tw457452330495954696:=()
def tw4577645544053492073:=()
def tw4617843639224380896:=()
def tw4651659167779119949:=()
def tw4654638641072659703:=()
def tw4758951388047372031:=()
def tw4763488550158033365:=()
def tw4804205661179806226:=()
def tw4812145470741977856:=()
def tw4955105132060422339:=()
def tw5002847277714892664:=()
def tw5002878202489997234:=()
def tw5007296920594235972:=()
def tw5072630878657631658:=()
def tw5073875946516028858:=()
def tw5126932095526764454:=()
def tw5178015874174319877:=()
def tw5286675924999883828:=()
def tw5301779349722927496:=()
def tw5341572602322261847:=()
def tw5383965544899909847:=()
def tw5404781324848735081:=()
def tw5412715075727775002:=()
def tw5427017245670681874:=()
def tw5453097321862607090:=()
def tw5503585043312348290:=()
def tw554381135114206345:=()
def tw5549646958661197761:=()
def tw5557609327654724454:=()
def tw5578334377526541924:=()
def tw5584191204063843887:=()
def tw5610682642373262371:=()
def tw5620892944337787315:=()
def tw5624409967034105312:=()
def tw5707352546183058106:=()
def tw5709898844436239854:=()
def tw578719647386625821:=()
def tw5911097388488779994:=()
def tw5973388533164899830:=()
def tw5989527622289362968:=()
def tw6040737883424902883:=()
def tw6085081226423428870:=()
def tw6134432674182108452:=()
def tw6152837546938383661:=()
def tw6258174598571865093:=()
def tw6263835276300889426:=()
def tw6270196319155900374:=()
def tw6271062674066247098:=()
def tw6289703404213291391:=()
def tw6311057920701124051:=()
def tw6325153197409408287:=()
def tw6345644601743493743:=()
def tw6379633732606797289:=()
def tw6393427302649916726:=()
def tw640084954674686088:=()
def tw6422914591611311172:=()
def tw6428959015422136570:=()
def tw6433510462434602776:=()
def tw6517213704782170071:=()
def tw6559532278306096928:=()
def tw6561763808220970599:=()
def tw6566310218117635842:=()
def tw6597318884581431527:=()
def tw6618290628218826852:=()
def tw6631050807065547997:=()
def tw6639676590035853128:=()
def tw6661716289571887628:=()
def tw6721438196850718034:=()
def tw6727424541237413398:=()
def tw6803656881680857280:=()
def tw6820577352447440871:=()
def tw6837239180667971173:=()
def tw6866509437375033379:=()
def tw6877198767318540930:=()
def tw6887394810924990316:=()
def tw6968370127049903551:=()
def tw6969115424433396510:=()
def tw6980362972281937444:=()
def tw7016564742891077932:=()
def tw7036016958022824772:=()
def tw7078413716446914425:=()
def tw7086863261742083902:=()
def tw7108452174340147248:=()
def tw7112124110450879399:=()
def tw716108304087740284:=()
def tw7208649778837093435:=()
def tw7220375196068991821:=()
def tw7221653145129502990:=()
def tw7246678283735966982:=()
def tw7278011526378386493:=()
def tw7318457702615791548:=()
def tw7334119882740909788:=()
def tw7426655491282262219:=()
def tw744790869087447386:=()
def tw7551753237523792991:=()
def tw7583602613084118566:=()
def tw7623670711322775761:=()
def tw7638904338266762979:=()
def tw7660058004625241792:=()
def tw7661370801507542569:=()
def tw766402894588866515:=()
def tw7728164582596056218:=()
def tw7732048979546336258:=()
def tw7831672882186678559:=()
def tw7843702134559268630:=()
def tw7855708283078024495:=()
def tw7884089387076810137:=()
def tw7897691949995522421:=()
def tw7953038253792647354:=()
def tw7956356241032605609:=()
def tw8044624433043039342:=()
def tw8104146328489972813:=()
def tw8237556529737157400:=()
def tw8389410857642696878:=()
def tw8437125121315083420:=()
def tw8460297198613768930:=()
def tw8486203793444786985:=()
def tw8541422069607659840:=()
def tw8542894727549580905:=()
def tw8558779928771771146:=()
def tw8603340000933902334:=()
def tw8632129756708851693:=()
def tw8685972848032546618:=()
def tw8742566962837912593:=()
def tw8744884707883184101:=()
def tw8763848825862811290:=()
def tw8836703740047042829:=()
def tw8858891926279839818:=()
def tw8867125102794127395:=()
def tw887246669682901155:=()
def tw8958042572077451739:=()
def tw8975776101719074282:=()
def tw904428180199770340:=()
def tw9093146396088874056:=()
def tw9177264677253172242:=()
def tw9191648535405354791:=()
def tw9199403558714845201:=()
def tw9200637485122927888:=()
def tw9206756141677645027:=()
def tw9228452800684411956:=()
def tw9248618056331272361:=()
def tw9261032730737879876:=()
def tw9263731370296227342:=()
def tw9305589473019089633:=()
def tw9305998211713014122:=()
def tw9354081446111881857:=()
def tw9406739252430736394:=()
def tw9407529571749411299:=()
def tw9459936711069698804:=()
def tw952662602110579818:=()
def tw9531183311129417131:=()
def tw9575765223187275236:=()
def tw9655112025111292969:=()
def tw9667887362621219796:=()
def tw9668129597932840986:=()
def tw9668376139684282853:=()
def tw967091956966989327:=()
def tw9728937339337495271:=()
def tw9733689744991040847:=()
def tw9744521868715240218:=()
def tw977303310564336420:=()
def tw9776332452613844475:=()
def tw9782879473919536139:=()
def tw9805655351392891031:=()
def tw9932048967988817087:=()
def tw9934505864156270879:=()
end PySem.W.Fast
namespace K53
open PySem L2 G
theorem all_mk{l:OU}{w:AT}{K:Au}{h:Heap}{mg:Str->Option Ap}{fa C:Addr}(X:K.In h)(G:h.Ns A8 mg)(hfa:mg "law" = some (.ref fa))
  {f1:Addr}{abP abQ:Option Addr}{abR:Array (Option Ap)}{abS abT abU abV yM abW:Ap}
  {f2:Addr}{abX abY:Option Addr}{sl2:Array (Option Ap)}{abZ ab0 ab1 ab2 yN ab3:Ap}
  {f3:Addr}{ab4 ab5:Option Addr}{ab6:Array (Option Ap)}{ab7 ab8 ab9 acd yO ace:Ap}
  {f4:Addr}{acf acg:Option Addr}{ach:Array (Option Ap)}{aci acj acn aco yP acp:Ap}
  {f5:Addr}{acq acr:Option Addr}{acs:Array (Option Ap)}{acu acv acw acy yQ acz:Ap}
  {f6:Addr}{acA acB:Option Addr}{acC:Array (Option Ap)}{acD acE acF acG yR acH:Ap}
  {f7:Addr}{acI acJ:Option Addr}{acK:Array (Option Ap)}{acL acM acN acO yS acP:Ap}
  {f8:Addr}{acQ acR:Option Addr}{acS:Array (Option Ap)}{acT acU acV acW yU acX:Ap}
  {f9:Addr}{acY acZ:Option Addr}{ac0:Array (Option Ap)}{ac1 ac2 ac4 ac5 yV ac6:Ap}
  {f10:Addr}{yX yZ:Option Addr}{za:Array (Option Ap)}{zc zf zj zm vA zp:Ap}
  {f11:Addr}{zq zu:Option Addr}{zx:Array (Option Ap)}{zy zA zB zE vB zF:Ap}
  {f12:Addr}{zG zH:Option Addr}{zJ:Array (Option Ap)}{zK zL zM zN vC zO:Ap}
  {f13:Addr}{zP zQ:Option Addr}{zR:Array (Option Ap)}{zT zU zV zW vD zX:Ap}
  {f14:Addr}{zY zZ:Option Addr}{aac:Array (Option Ap)}{aad aae aaf aag vG aah:Ap}
  {f15:Addr}{aai aaj:Option Addr}{aak:Array (Option Ap)}{aal aam aan aao vH aap:Ap}
  {f16:Addr}{aaq aar:Option Addr}{aas:Array (Option Ap)}{aat aau aav aaw vI aax:Ap}
  {f17:Addr}{aay aaz:Option Addr}{aaA:Array (Option Ap)}{aaB aaC aaD aaE vJ aaF:Ap}
  {f18:Addr}{aaG aaH:Option Addr}{aaI:Array (Option Ap)}{aaJ aaK aaL aaM vK aaN:Ap}
  {f19:Addr}{aaO aaP:Option Addr}{aaQ:Array (Option Ap)}{aaR aaS aaT aaU vL aaV:Ap}
  {f20:Addr}{aaW aaX:Option Addr}{aaY:Array (Option Ap)}{aaZ aa0 aa1 aa2 vM aa3:Ap}
  {f21:Addr}{aa4 aa5:Option Addr}{aa6:Array (Option Ap)}{aa7 aa8 aa9 abb vN abd:Ap}
  {f22:Addr}{abe abf:Option Addr}{abg:Array (Option Ap)}{abh abj abk abl vO abm:Ap}
  {f23:Addr}{abn abo:Option Addr}{abp:Array (Option Ap)}{abq abr abt abu vP abv:Ap}
  {f24:Addr}{abw abx:Option Addr}{aby:Array (Option Ap)}{abz abA abB abC vQ abD:Ap}
  (aC:BI K A8 "Web" = some (some (.ref C)))
  (a1:AO K (.ref C) "__init__" = some (some (.ref f1))) (i1:CY K (.ref f1)=true) (l1:K.lookup f1=some ⟨abS,abP,.func (A7 "__init__" "Web.__init__" (Ao Ew) (Ak Ew) (Ac Ew) .none abT abU abV abQ yM abW),abR⟩) (c1:A1 K yM "Web.__init__" = true) (k1:AI K (.ref f1)=true)
  (a2:AO K (.ref C) "size" = some (some (.ref f2))) (i2:CY K (.ref f2)=true) (l2:K.lookup f2=some ⟨abZ,abX,.func (A7 "size" "Web.size" (Ao Og) (Ak Og) (Ac Og) .none ab0 ab1 ab2 abY yN ab3),sl2⟩) (c2:A1 K yN "Web.size" = true) (k2:AI K (.ref f2)=true)
  (a3:AO K (.ref C) "ties" = some (some (.ref f3))) (i3:CY K (.ref f3)=true) (l3:K.lookup f3=some ⟨ab7,ab4,.func (A7 "ties" "Web.ties" (Ao Nq) (Ak Nq) (Ac Nq) .none ab8 ab9 acd ab5 yO ace),ab6⟩) (c3:A1 K yO "Web.ties" = true) (k3:AI K (.ref f3)=true)
  (a4:AO K (.ref C) "at" = some (some (.ref f4))) (i4:CY K (.ref f4)=true) (l4:K.lookup f4=some ⟨aci,acf,.func (A7 "at" "Web.at" (Ao sAt) (Ak sAt) (Ac sAt) .none acj acn aco acg yP acp),ach⟩) (c4:A1 K yP "Web.at" = true) (k4:AI K (.ref f4)=true)
  (a5:BI K A8 "refuse_amounts" = some (some (.ref f5))) (l5:K.lookup f5=some ⟨acu,acq,.func (A7 "refuse_amounts" "refuse_amounts" (Ao Xg) (Ak Xg) (Ac Xg) .none acv acw acy acr yQ acz),acs⟩) (c5:A1 K yQ "refuse_amounts" = true) (k5:AI K (.ref f5)=true)
  (a6:BI K A8 "checked_ties" = some (some (.ref f6))) (l6:K.lookup f6=some ⟨acD,acA,.func (A7 "checked_ties" "checked_ties" (Ao Xl) (Ak Xl) (Ac Xl) .none acE acF acG acB yR acH),acC⟩) (c6:A1 K yR "checked_ties" = true) (k6:AI K (.ref f6)=true)
  (a7:BI K A8 "refuse_points" = some (some (.ref f7))) (l7:K.lookup f7=some ⟨acL,acI,.func (A7 "refuse_points" "refuse_points" (Ao Yl) (Ak Yl) (Ac Yl) .none acM acN acO acJ yS acP),acK⟩) (c7:A1 K yS "refuse_points" = true) (k7:AI K (.ref f7)=true)
  (a8:BI K A8 "tie_counts" = some (some (.ref f8))) (l8:K.lookup f8=some ⟨acT,acQ,.func (A7 "tie_counts" "tie_counts" (Ao Ft) (Ak Ft) (Ac Ft) .none acU acV acW acR yU acX),acS⟩) (c8:A1 K yU "tie_counts" = true) (k8:AI K (.ref f8)=true)
  (a9:BI K A8 "ties_within" = some (some (.ref f9))) (l9:K.lookup f9=some ⟨ac1,acY,.func (A7 "ties_within" "ties_within" (Ao Fo) (Ak Fo) (Ac Fo) .none ac2 ac4 ac5 acZ yV ac6),ac0⟩) (c9:A1 K yV "ties_within" = true) (k9:AI K (.ref f9)=true)
  (a10:BI K A8 "_law_cell" = some (some (.ref f10))) (l10:K.lookup f10=some ⟨zc,yX,.func (A7 "_law_cell" "_law_cell" (Ao Nr) (Ak Nr) (Ac Nr) .none zf zj zm yZ vA zp),za⟩) (c10:A1 K vA "_law_cell" = true) (k10:AI K (.ref f10)=true)
  (a11:BI K A8 "_law_mixed" = some (some (.ref f11))) (l11:K.lookup f11=some ⟨zy,zq,.func (A7 "_law_mixed" "_law_mixed" (Ao XC) (Ak XC) (Ac XC) .none zA zB zE zu vB zF),zx⟩) (c11:A1 K vB "_law_mixed" = true) (k11:AI K (.ref f11)=true)
  (a12:BI K A8 "_law_web" = some (some (.ref f12))) (l12:K.lookup f12=some ⟨zK,zG,.func (A7 "_law_web" "_law_web" (Ao Yu) (Ak Yu) (Ac Yu) .none zL zM zN zH vC zO),zJ⟩) (c12:A1 K vC "_law_web" = true) (k12:AI K (.ref f12)=true)
  (a13:BI K A8 "_law_some" = some (some (.ref f13))) (l13:K.lookup f13=some ⟨zT,zP,.func (A7 "_law_some" "_law_some" (Ao Oa) (Ak Oa) (Ac Oa) .none zU zV zW zQ vD zX),zR⟩) (c13:A1 K vD "_law_some" = true) (k13:AI K (.ref f13)=true)
  (a14:BI K A8 "_law_draws" = some (some (.ref f14))) (l14:K.lookup f14=some ⟨aad,zY,.func (A7 "_law_draws" "_law_draws" (Ao Oh) (Ak Oh) (Ac Oh) .none aae aaf aag zZ vG aah),aac⟩) (c14:A1 K vG "_law_draws" = true) (k14:AI K (.ref f14)=true)
  (a15:BI K A8 "least_graph" = some (some (.ref f15))) (l15:K.lookup f15=some ⟨aal,aai,.func (A7 "least_graph" "least_graph" (Ao K53s.Ge) (Ak K53s.Ge) (Ac K53s.Ge) .none aam aan aao aaj vH aap),aak⟩) (c15:A1 K vH "least_graph" = true) (k15:AI K (.ref f15)=true)
  (a16:BI K A8 "reached_knots" = some (some (.ref f16))) (l16:K.lookup f16=some ⟨aat,aaq,.func (A7 "reached_knots" "reached_knots" (Ao K53s.Hf) (Ak K53s.Hf) (Ac K53s.Hf) .none aau aav aaw aar vI aax),aas⟩) (c16:A1 K vI "reached_knots" = true) (k16:AI K (.ref f16)=true)
  (a17:BI K A8 "row_in_places" = some (some (.ref f17))) (l17:K.lookup f17=some ⟨aaB,aay,.func (A7 "row_in_places" "row_in_places" (Ao K53s.sIn) (Ak K53s.sIn) (Ac K53s.sIn) .none aaC aaD aaE aaz vJ aaF),aaA⟩) (c17:A1 K vJ "row_in_places" = true) (k17:AI K (.ref f17)=true)
  (a18:BI K A8 "grown" = some (some (.ref f18))) (l18:K.lookup f18=some ⟨aaJ,aaG,.func (A7 "grown" "grown" (Ao Je) (Ak Je) (Ac Je) .none aaK aaL aaM aaH vK aaN),aaI⟩) (c18:A1 K vK "grown" = true) (k18:AI K (.ref f18)=true)
  (a19:BI K A8 "points_behind" = some (some (.ref f19))) (l19:K.lookup f19=some ⟨aaR,aaO,.func (A7 "points_behind" "points_behind" (Ao FZ) (Ak FZ) (Ac FZ) .none aaS aaT aaU aaP vL aaV),aaQ⟩) (c19:A1 K vL "points_behind" = true) (k19:AI K (.ref f19)=true)
  (a20:BI K A8 "_law_led" = some (some (.ref f20))) (l20:K.lookup f20=some ⟨aaZ,aaW,.func (A7 "_law_led" "_law_led" (Ao Wt) (Ak Wt) (Ac Wt) .none aa0 aa1 aa2 aaX vM aa3),aaY⟩) (c20:A1 K vM "_law_led" = true) (k20:AI K (.ref f20)=true)
  (a21:BI K A8 "_law_is_knot" = some (some (.ref f21))) (l21:K.lookup f21=some ⟨aa7,aa4,.func (A7 "_law_is_knot" "_law_is_knot" (Ao Gi) (Ak Gi) (Ac Gi) .none aa8 aa9 abb aa5 vN abd),aa6⟩) (c21:A1 K vN "_law_is_knot" = true) (k21:AI K (.ref f21)=true)
  (a22:BI K A8 "_law_is_least" = some (some (.ref f22))) (l22:K.lookup f22=some ⟨abh,abe,.func (A7 "_law_is_least" "_law_is_least" (Ao Eb) (Ak Eb) (Ac Eb) .none abj abk abl abf vO abm),abg⟩) (c22:A1 K vO "_law_is_least" = true) (k22:AI K (.ref f22)=true)
  (a23:BI K A8 "_law_fits" = some (some (.ref f23))) (l23:K.lookup f23=some ⟨abq,abn,.func (A7 "_law_fits" "_law_fits" (Ao Eo) (Ak Eo) (Ac Eo) .none abr abt abu abo vP abv),abp⟩) (c23:A1 K vP "_law_fits" = true) (k23:AI K (.ref f23)=true)
  (a24:BI K A8 "law" = some (some (.ref f24))) (l24:K.lookup f24=some ⟨abz,abw,.func (A7 "law" "law" (Ao Fd) (Ak Fd) (Ac Fd) .none abA abB abC abx vQ abD),aby⟩) (c24:A1 K vQ "law" = true) (k24:AI K (.ref f24)=true)
  (pg:E3 K C M0=true) (hd:FB K C=true) (po:F6 K C=true) (sa:AO K (.ref C) "__setattr__" = some (some (.builtin "object.__setattr__"))) (mk:FH K C=true) (kc:AI K (.ref C)=true)
  (n0:AO K (.ref C) "amount" = some none)
  (n1:AO K (.ref C) "joints" = some none)
  {t0:Tok} (v0:BI K A8 "MOST_POINTS" = some (some (.int 10 t0)))
  {t1:Tok} (v1:BI K A8 "MOST_TIES" = some (some (.int 12 t1)))
  {t2:Tok} (v2:BI K A8 "SEVERAL" = some (some (.int 2 t2)))
  (z0:BI K A8 "len" = some none)
  (z1:BI K A8 "range" = some none)
  (z2:BI K A8 "int" = some none)
  (z3:BI K A8 "max" = some none)
  (z4:BI K A8 "min" = some none)
  (z5:BI K A8 "sorted" = some none)
  (z6:BI K A8 "tuple" = some none)
  (z7:BI K A8 "list" = some none)
  (z8:BI K A8 "bool" = some none)
  (z9:BI K A8 "enumerate" = some none)
  (z10:BI K A8 "isinstance" = some none)
  {D:Addr} (vR:BI K A8 "Pairs" = some (some (.ref D)))
  (cI:E3 K D M0=true)
  (cJ:FB K D=true)
  (cL:F6 K D=true)
  (cM:AO K (.ref D) "__setattr__" = some (some (.builtin "object.__setattr__")))
  (oY:FH K D=true)
  (oZ:AI K (.ref D)=true)
  (vU:AO K (.ref D) "__class__" = some (some (.builtin "object.__class__")))
  (vV:Lv K (.builtin "object.__class__") "__get__" = some (some (.builtin "getset_descriptor.__get__")))
  (vW:MB K (.builtin "object.__class__")=some true)
  (vX:NF K D (.type "object")=some true)
  (vY:MX K (.ref D) (.ref D)=some true)
  {Dc:Addr} (pA:BI K A8 "Covers" = some (some (.ref Dc)))
  (gJ:E3 K Dc M0=true)
  (gK:FB K Dc=true)
  (gM:F6 K Dc=true)
  (gO:AO K (.ref Dc) "__setattr__" = some (some (.builtin "object.__setattr__")))
  (jU:FH K Dc=true)
  (jV:AI K (.ref Dc)=true)
  (rO:AO K (.ref Dc) "__class__" = some (some (.builtin "object.__class__")))
  (rP:Lv K (.builtin "object.__class__") "__get__" = some (some (.builtin "getset_descriptor.__get__")))
  (rQ:MB K (.builtin "object.__class__")=some true)
  (rR:NF K Dc (.type "object")=some true)
  (rT:MX K (.ref Dc) (.ref Dc)=some true)
  {Sv:Addr} (pC:BI K A8 "Sieve" = some (some (.ref Sv)))
  (jW:E3 K Sv M0=true)
  (jX:FB K Sv=true)
  (jY:F6 K Sv=true)
  (jZ:AO K (.ref Sv) "__setattr__" = some (some (.builtin "object.__setattr__")))
  (j4:FH K Sv=true)
  (j5:AI K (.ref Sv)=true)
  (j6:AO K (.ref Sv) "__class__" = some (some (.builtin "object.__class__")))
  (j7:Lv K (.builtin "object.__class__") "__get__" = some (some (.builtin "getset_descriptor.__get__")))
  (j8:MB K (.builtin "object.__class__")=some true)
  (j9:NF K Sv (.type "object")=some true)
  (kh:MX K (.ref Sv) (.ref Sv)=some true)
  {Gw:Addr} (pD:BI K A8 "Growth" = some (some (.ref Gw)))
  (kj:E3 K Gw M0=true)
  (kJ:FB K Gw=true)
  (kY:F6 K Gw=true)
  (kZ:AO K (.ref Gw) "__setattr__" = some (some (.builtin "object.__setattr__")))
  (gP:FH K Gw=true)
  (gQ:AI K (.ref Gw)=true)
  (rW:AO K (.ref Gw) "__class__" = some (some (.builtin "object.__class__")))
  (rY:Lv K (.builtin "object.__class__") "__get__" = some (some (.builtin "getset_descriptor.__get__")))
  (rZ:MB K (.builtin "object.__class__")=some true)
  (sG:NF K Gw (.type "object")=some true)
  (sI:MX K (.ref Gw) (.ref Gw)=some true)
  (nF_D:AO K (.ref D) "full" = some none)
  (lg:AO K (.ref Dc) "__init__" = some (some (.builtin "object.__init__")))
  (gU:BI K A8 "all" = some none)
  (lq:BI K A8 "set" = some none)
  (aQ:BI K A8 "reversed" = some none)
  (cN:AO K (.ref Sv) "amount" = some none)
  (gZ:AO K (.ref Sv) "rows" = some none)
  (g8:AO K (.ref Sv) "head" = some none)
  (lu:AO K (.ref Gw) "web" = some none)
  (iu:AO K (.ref Gw) "rule" = some none)
  (cO:AO K (.ref Gw) "amount" = some none)
  (cP:AO K (.ref Gw) "behind" = some none)
  (iw:AO K (.ref Gw) "rows" = some none)
  (dY:AO K (.ref Gw) "known" = some none)
  {lC dt:Addr}{xG xH xJ:Option Addr}{xK xM:Array (Option Ap)}{xO xP xQ xR sJ xT xU:Ap}{n_dt:Nat} (pF:AO K (.ref D) "__init__" = some (some (.ref lC)))
  (pG:CY K (.ref lC)=true)
  (pH:K.lookup lC=some ⟨xO,xG,.func (A7 "__init__" "Pairs.__init__" (Ao JK) (Ak JK) (Ac JK) (.ref dt) xP xQ xR xH sJ xT),xK⟩)
  (pI:A1 K sJ "Pairs.__init__" = true)
  (d_ip:K.lookup dt=some ⟨xU,xJ,.seq #[.bool false] n_dt,xM⟩)
  {aA:Addr}{lU lV:Option Addr}{lW:Array (Option Ap)}{lX lY lZ mj gw mq:Ap} (cQ:AO K (.ref D) "allows" = some (some (.ref aA)))
  (cR:CY K (.ref aA)=true)
  (cT:K.lookup aA=some ⟨lX,lU,.func (A7 "allows" "Pairs.allows" (Ao Gm) (Ak Gm) (Ac Gm) .none lY lZ mj lV gw mq),lW⟩)
  (cU:A1 K gw "Pairs.allows" = true)
  (aR:AI K (.ref aA)=true)
  {aq:Addr}{lD lE:Option Addr}{lF:Array (Option Ap)}{lG lH lJ lK dH lM:Ap} (aZ:AO K (.ref Dc) "allows" = some (some (.ref aq)))
  (bf:CY K (.ref aq)=true)
  (bw:K.lookup aq=some ⟨lG,lD,.func (A7 "allows" "Covers.allows" (Ao FP) (Ak FP) (Ac FP) .none lH lJ lK lE dH lM),lF⟩)
  (bx:A1 K dH "Covers.allows" = true)
  (aG:AI K (.ref aq)=true)
  {au:Addr}{tK tL:Option Addr}{tM:Array (Option Ap)}{tO tQ tR tU jz tV:Ap} (iz:AO K (.ref D) "fits" = some (some (.ref au)))
  (dI:CY K (.ref au)=true)
  (iC:K.lookup au=some ⟨tO,tK,.func (A7 "fits" "TiedPoints.fits" (Ao LC) (Ak LC) (Ac LC) .none tQ tR tU tL jz tV),tM⟩)
  (iD:A1 K jz "TiedPoints.fits" = true)
  (bH:AI K (.ref au)=true)
  (a2_fits:AO K (.ref Dc) "fits" = some (some (.ref au)))
  {ak:Addr}{pJ pK:Option Addr}{pL:Array (Option Ap)}{pN pO pP pQ iG pR:Ap} (dZ:AO K (.ref D) "begun" = some (some (.ref ak)))
  (cj:CY K (.ref ak)=true)
  (d7:K.lookup ak=some ⟨pN,pJ,.func (A7 "begun" "TiedPoints.begun" (Ao JQ) (Ak JQ) (Ac JQ) .none pO pP pQ pK iG pR),pL⟩)
  (d8:A1 K iG "TiedPoints.begun" = true)
  (aH:AI K (.ref ak)=true)
  (a2_begun:AO K (.ref Dc) "begun" = some (some (.ref ak)))
  {ao:Addr}{pU pW:Option Addr}{pX:Array (Option Ap)}{pY pZ p7 p8 iH qd:Ap} (d9:AO K (.ref D) "taken" = some (some (.ref ao)))
  (cu:CY K (.ref ao)=true)
  (eE:K.lookup ao=some ⟨pY,pU,.func (A7 "taken" "TiedPoints.taken" (Ao HS) (Ak HS) (Ac HS) .none pZ p7 p8 pW iH qd),pX⟩)
  (eF:A1 K iH "TiedPoints.taken" = true)
  (aJ:AI K (.ref ao)=true)
  (a2_taken:AO K (.ref Dc) "taken" = some (some (.ref ao)))
  {aj:Addr}{mz mH:Option Addr}{mJ:Array (Option Ap)}{mQ mV mX mZ gA m5:Ap} (cV:AO K (.ref D) "passed" = some (some (.ref aj)))
  (aU:CY K (.ref aj)=true)
  (cW:K.lookup aj=some ⟨mQ,mz,.func (A7 "passed" "TiedPoints.passed" (Ao Fj) (Ak Fj) (Ac Fj) .none mV mX mZ mH gA m5),mJ⟩)
  (cX:A1 K gA "TiedPoints.passed" = true)
  (aB:AI K (.ref aj)=true)
  (a2_passed:AO K (.ref Dc) "passed" = some (some (.ref aj)))
  {aV:Addr}{vZ v7:Option Addr}{v8:Array (Option Ap)}{v9 wg wj wk m7 wu:Ap} (lN:AO K (.ref D) "fulfilled" = some (some (.ref aV)))
  (gW:CY K (.ref aV)=true)
  (lO:K.lookup aV=some ⟨v9,vZ,.func (A7 "fulfilled" "TiedPoints.fulfilled" (Ao Xa) (Ak Xa) (Ac Xa) .none wg wj wk v7 m7 wu),v8⟩)
  (lQ:A1 K m7 "TiedPoints.fulfilled" = true)
  (dJ:AI K (.ref aV)=true)
  (a2_ful:AO K (.ref Dc) "fulfilled" = some (some (.ref aV)))
  {aD:Addr}{tW tX:Option Addr}{tY:Array (Option Ap)}{tZ uc ud uf jA ug:Ap} (iI:AO K (.ref D) "left" = some (some (.ref aD)))
  (dM:CY K (.ref aD)=true)
  (iJ:K.lookup aD=some ⟨tZ,tW,.func (A7 "left" "Rule.left" (Ao Mz) (Ak Mz) (Ac Mz) .none uc ud uf tX jA ug),tY⟩)
  (iK:A1 K jA "Rule.left" = true)
  (bJ:AI K (.ref aD)=true)
  (a2_left:AO K (.ref Dc) "left" = some (some (.ref aD)))
  {aK:Addr}{qe qg:Option Addr}{qj:Array (Option Ap)}{qm qp qt qu iM qw:Ap} (cB:AO K (.ref Sv) "__init__" = some (some (.ref aK)))
  (cC:CY K (.ref aK)=true)
  (eG:K.lookup aK=some ⟨qm,qe,.func (A7 "__init__" "Sieve.__init__" (Ao K53s.Ew) (Ak K53s.Ew) (Ac K53s.Ew) .none qp qt qu qg iM qw),qj⟩)
  (eO:A1 K iM "Sieve.__init__" = true)
  (cD:AI K (.ref aK)=true)
  {aL:Addr}{qy qz:Option Addr}{qC:Array (Option Ap)}{qD qF qG qH iQ qI:Ap} (eU:AO K (.ref Sv) "knots" = some (some (.ref aL)))
  (eV:CY K (.ref aL)=true)
  (eX:K.lookup aL=some ⟨qD,qy,.func (A7 "knots" "Sieve.knots" (Ao K53s.JC) (Ak K53s.JC) (Ac K53s.JC) .none qF qG qH qz iQ qI),qC⟩)
  (fj:A1 K iQ "Sieve.knots" = true)
  (cF:AI K (.ref aL)=true)
  {bQ:Addr}{uh uo:Option Addr}{uq:Array (Option Ap)}{ur uw uy uz jB uD:Ap} (iR:AO K (.ref Sv) "top" = some (some (.ref bQ)))
  (iT:CY K (.ref bQ)=true)
  (iU:K.lookup bQ=some ⟨ur,uh,.func (A7 "top" "Sieve.top" (Ao K53s.Xv) (Ak K53s.Xv) (Ac K53s.Xv) .none uw uy uz uo jB uD),uq⟩)
  (iV:A1 K jB "Sieve.top" = true)
  (dO:AI K (.ref bQ)=true)
  {aM:Addr}{qJ qK:Option Addr}{qL:Array (Option Ap)}{qM qN qO qP iW qQ:Ap} (fH:AO K (.ref Sv) "many" = some (some (.ref aM)))
  (fJ:CY K (.ref aM)=true)
  (fQ:K.lookup aM=some ⟨qM,qJ,.func (A7 "many" "Sieve.many" (Ao K53s.OD) (Ak K53s.OD) (Ac K53s.OD) .none qN qO qP qK iW qQ),qL⟩)
  (fV:A1 K iW "Sieve.many" = true)
  (cG:AI K (.ref aM)=true)
  {aN:Addr}{qR qT:Option Addr}{qU:Array (Option Ap)}{qW qX qY qZ iY rm:Ap} (aO:AO K (.ref Gw) "__init__" = some (some (.ref aN)))
  (aP:CY K (.ref aN)=true)
  (fX:K.lookup aN=some ⟨qW,qR,.func (A7 "__init__" "Growth.__init__" (Ao Hj) (Ak Hj) (Ac Hj) .none qX qY qZ qT iY rm),qU⟩)
  (fZ:A1 K iY "Growth.__init__" = true)
  (cH:AI K (.ref aN)=true)
  {aF:Addr}{m8 m9:Option Addr}{nq:Array (Option Ap)}{nu nC nG nM gF nO:Ap} (cY:AO K (.ref Gw) "knot_at" = some (some (.ref aF)))
  (cZ:CY K (.ref aF)=true)
  (dh:K.lookup aF=some ⟨nu,m8,.func (A7 "knot_at" "Growth.knot_at" (Ao FW) (Ak FW) (Ac FW) .none nC nG nM m9 gF nO),nq⟩)
  (dj:A1 K gF "Growth.knot_at" = true)
  (aW:AI K (.ref aF)=true)
  {bV:Addr}{uE uF:Option Addr}{uG:Array (Option Ap)}{uH uI uJ uK jC uL:Ap} (iZ:AO K (.ref Gw) "past_points" = some (some (.ref bV)))
  (jc:CY K (.ref bV)=true)
  (jd:K.lookup bV=some ⟨uH,uE,.func (A7 "past_points" "Growth.past_points" (Ao Nz) (Ak Nz) (Ac Nz) .none uI uJ uK uF jC uL),uG⟩)
  (je:A1 K jC "Growth.past_points" = true)
  (dR:AI K (.ref bV)=true) :
  ∃fd:BV,(∀(s:AA) (v:Ap),N4 s fd ⟨[v],[]⟩ [("_law_script",v)])/\∀base:Heap,K.In base->base.Ns A8 mg->FnOk l.prog w K mg base CX0 18 fa fd ["_law_script"] (RG K):=by
 have e:=hfa.symm.trans (B9 X G a24);cases e;have nP:=BJ (st:=Ew) l1 c1 k1;have wz:=nP.binds (ps:=["self","many","ties"]) (bn3 λ_ _ _ _ _ _ _ _ _=>rfl);have ac7:Meth K C "__init__" f1:=⟨a1,i1,k1⟩;have ac8:=k1;have nQ:=BJ (st:=Og) l2 c2 k2;have jf:=nQ.binds (ps:=["self"]) (bn1 λ_ _ _ _ _ _ _=>rfl);have m_size:Meth K C "size" f2:=⟨a2,i2,k2⟩;have k_size:=k2;have nT:=BJ (st:=Nq) l3 c3 k3;have dU:=nT.binds (ps:=["self"]) (bn1 λ_ _ _ _ _ _ _=>rfl);have dX:Meth K C "ties" f3:=⟨a3,i3,k3⟩;have ac9:=k3;have wA:=BJ (st:=sAt) l4 c4 k4;have wB:=wA.binds (ps:=["self","point"]) (bn2 λ_ _ _ _ _ _ _ _=>rfl);have wC:Meth K C "at" f4:=⟨a4,i4,k4⟩;have adh:=k4;have sO:=BJ (st:=Xg) l5 c5 k5;have xV:=sO.binds (ps:=["points","ties"]) (bn2 λ_ _ _ _ _ _ _ _=>rfl);have xW:=B9 X G a5;have xX:=k5;have sU:=BJ (st:=Xl) l6 c6 k6;have xY:=sU.binds (ps:=["many","ties"]) (bn2 λ_ _ _ _ _ _ _ _=>rfl);have xZ:=B9 X G a6;have yc:=k6;have sV:=BJ (st:=Yl) l7 c7 k7;have yd:=sV.binds (ps:=["many","tie"]) (bn2 λ_ _ _ _ _ _ _ _=>rfl);have yg:=B9 X G a7;have yh:=k7;have jg:=BJ (st:=Ft) l8 c8 k8;have ji:=jg.binds (ps:=["web","some"]) (bn2 λ_ _ _ _ _ _ _ _=>rfl);have jk:=B9 X G a8;have jo:=k8;have jq:=BJ (st:=Fo) l9 c9 k9;have rB:=jq.binds (ps:=["numbers","some"]) (bn2 λ_ _ _ _ _ _ _ _=>rfl);have rC:=B9 X G a9;have rD:=k9;have nZ:=BJ (st:=Nr) l10 c10 k10;have n6:=nZ.binds (ps:=["_law_script","_law_k"]) (bn2 λ_ _ _ _ _ _ _ _=>rfl);have oh:=B9 X G a10;have ou:=k10;have sW:=BJ (st:=XC) l11 c11 k11;have yj:=sW.binds (ps:=["_law_cell_here","_law_k"]) (bn2 λ_ _ _ _ _ _ _ _=>rfl);have yp:=B9 X G a11;have yq:=k11;have sX:=BJ (st:=Yu) l12 c12 k12;have yr:=sX.binds (ps:=["_law_script","_law_at"]) (bn2 λ_ _ _ _ _ _ _ _=>rfl);have yt:=B9 X G a12;have yu:=k12;have oA:=BJ (st:=Oa) l13 c13 k13;have wD:=oA.binds (ps:=["_law_cell_here","_law_n"]) (bn2 λ_ _ _ _ _ _ _ _=>rfl);have wF:=B9 X G a13;have wG:=k13;have oE:=BJ (st:=Oh) l14 c14 k14;have wH:=oE.binds (ps:=["_law_cell_here","_law_many","_law_most"]) (bn3 λ_ _ _ _ _ _ _ _ _=>rfl);have wI:=B9 X G a14;have wJ:=k14;have jD:=BJ (st:=K53s.Ge) l15 c15 k15;have jE:=jD.binds (ps:=["n","rows","top"]) (bn3 λ_ _ _ _ _ _ _ _ _=>rfl);have jF:=B9 X G a15;have jG:=k15;have jH:=BJ (st:=K53s.Hf) l16 c16 k16;have uM:=jH.binds (ps:=["rows","top"]) (bn2 λ_ _ _ _ _ _ _ _=>rfl);have uN:=B9 X G a16;have uO:=k16;have wK:=BJ (st:=K53s.sIn) l17 c17 k17;have abE:=wK.binds (ps:=["places","row"]) (bn2 λ_ _ _ _ _ _ _ _=>rfl);have abF:=B9 X G a17;have k_in:=k17;have gj:=BJ (st:=Je) l18 c18 k18;have uQ:=gj.binds (ps:=["web","rule"]) (bn2 λ_ _ _ _ _ _ _ _=>rfl);have uR:=B9 X G a18;have uT:=k18;have oF:=BJ (st:=FZ) l19 c19 k19;have wL:=oF.binds (ps:=["web","number"]) (bn2 λ_ _ _ _ _ _ _ _=>rfl);have wM:=B9 X G a19;have wN:=k19;have sY:=BJ (st:=Wt) l20 c20 k20;have yw:=sY.binds (ps:=["_law_knots","_law_top","_law_some_here"]) (bn3 λ_ _ _ _ _ _ _ _ _=>rfl);have yx:=B9 X G a20;have yC:=k20;have jr:=BJ (st:=Gi) l21 c21 k21;have rE:=jr.binds (ps:=["_law_knots","_law_k","_law_n"]) (bn3 λ_ _ _ _ _ _ _ _ _=>rfl);have rF:=B9 X G a21;have rG:=k21;have gG:=BJ (st:=Eb) l22 c22 k22;have oG:=gG.binds (ps:=["_law_knots","_law_top","_law_n"]) (bn3 λ_ _ _ _ _ _ _ _ _=>rfl);have oH:=B9 X G a22;have oJ:=k22;have jJ:=BJ (st:=Eo) l23 c23 k23;have uU:=jJ.binds (ps:=["_law_points","_law_ties","_law_some_here"]) (bn3 λ_ _ _ _ _ _ _ _ _=>rfl);have uV:=B9 X G a23;have uW:=k23;have tu:=BJ (st:=Fd) l24 c24 k24;have ade:=tu.binds (ps:=["_law_script"]) (bn1 λ_ _ _ _ _ _ _=>rfl);have adf:=B9 X G a24;have adg:=k24;have law_all:∀base:Heap,FnOk l.prog w K mg base CX0 18 _ _ ["_law_script"] (RG K):=λbase=>by
  have T:Txt K mg C:=⟨⟨pg,hd,po,sa⟩,n0,n1,B9 X G aC,⟨_,B9 X G v0⟩,⟨_,B9 X G v1⟩,B3 X G z0,B3 X G z1,B3 X G z2,B3 X G z3,B3 X G z4,B3 X G z5,B3 X G z6,B3 X G z7,B3 X G z8,B3 X G z9,B3 X G z10⟩;have tD:=ABu (P:=l.prog) (w:=w) (base:=base) nZ T;have abG:=AEQ (P:=l.prog) (w:=w) (mg:=mg) (base:=base) sW;have yD:=ACV oE T abG yj yq yp;have abH:=ADs sX T tD n6 ou oh yD wH wJ wI;have abI:=ADd (P:=l.prog) (w:=w) (base:=base) sO T;have abJ:=AEH (P:=l.prog) (w:=w) (mg:=mg) (base:=base) sV;have abK:=AEa sU T abJ yd yh yg;have yE:=Hr nP T abI xV xX xW abK xY yc xZ;have lR:=ACX (P:=l.prog) (w:=w) (base:=base) nQ T;have gY:=ABb (P:=l.prog) (w:=w) (base:=base) nT T;have yW:=AEg (P:=l.prog) (w:=w) (base:=base) wA T;have uX:=Xe (P:=l.prog) (w:=w) (mg:=mg) (base:=base) jq;have jK:=YT jg T lR jf m_size yW wB wC uX rB rD rC;have yF:=ABs (P:=l.prog) (w:=w) (base:=base) oA T;have rH:FunD K "__init__" "Pairs.__init__" JK lC _ dt #[.bool false]:=⟨⟨_,_,_,_,_,_,_,_,_,rfl,pH,pI⟩,⟨_,_,_,_,d_ip⟩⟩;have yG:Binds K _ ["self","full"] [.bool false]:=rH.binds λ_ _ _ _ _ _ us hl=>match us,hl with | [_],_=>⟨_,rfl,rfl⟩ | [],h=>by simp at h | _::_::_,h=>by simp at h
  have abL:KBinds K _ ["self","full"] ["full"] g11 g11:=rH.kbinds λ_ _ _ _ _ _ _ _=>⟨_,rfl,rfl⟩;have jt:=BJ (st:=Gm) cT cU aR;have dz:=jt.binds (ps:=["self","count"]) (bn2 λ_ _ _ _ _ _ _ _=>rfl);have dB:Meth K D "allows" aA:=⟨cQ,cR,aR⟩;have gH:=BJ (st:=FP) bw bx aG;have bZ:=gH.binds (ps:=["self","count"]) (bn2 λ_ _ _ _ _ _ _ _=>rfl);have cg:Meth K Dc "allows" aq:=⟨aZ,bf,aG⟩;have ju:=BJ (st:=LC) iC iD bH;have wO:=ju.binds (ps:=["self","web","some"]) (bn3 λ_ _ _ _ _ _ _ _ _=>rfl);have oK:Meth K D "fits" au:=⟨iz,dI,bH⟩;have n_fits:Meth K Dc "fits" au:=⟨a2_fits,dI,bH⟩;have jL:=BJ (st:=JQ) d7 d8 aH;have jM:=jL.binds (ps:=["self","web"]) (bn2 λ_ _ _ _ _ _ _ _=>rfl);have uY:Meth K D "begun" ak:=⟨dZ,cj,aH⟩;have n_begun:Meth K Dc "begun" ak:=⟨a2_begun,cj,aH⟩;have gk:=BJ (st:=HS) eE eF aJ;have jN:=gk.binds (ps:=["self","web","state","number"]) (bn4 λ_ _ _ _ _ _ _ _ _ _=>rfl);have uZ:Meth K D "taken" ao:=⟨d9,cu,aJ⟩;have n_taken:Meth K Dc "taken" ao:=⟨a2_taken,cu,aJ⟩;have dD:=BJ (st:=Fj) cW cX aB;have jx:=dD.binds (ps:=["self","web","state","point"]) (bn4 λ_ _ _ _ _ _ _ _ _ _=>rfl);have rJ:Meth K D "passed" aj:=⟨cV,aU,aB⟩;have n_passed:Meth K Dc "passed" aj:=⟨a2_passed,aU,aB⟩;have tE:=BJ (st:=Xa) lO lQ dJ;have tG:=tE.binds (ps:=["self","web","state"]) (bn3 λ_ _ _ _ _ _ _ _ _=>rfl);have yH:Meth K D "fulfilled" aV:=⟨lN,gW,dJ⟩;have n_ful:Meth K Dc "fulfilled" aV:=⟨a2_ful,gW,dJ⟩;have oM:=BJ (st:=Mz) iJ iK bJ;have oN:=oM.binds (ps:=["self","web","state","number"]) (bn4 λ_ _ _ _ _ _ _ _ _ _=>rfl);have wQ:Meth K D "left" aD:=⟨iI,dM,bJ⟩;have n_left:Meth K Dc "left" aD:=⟨a2_left,dM,bJ⟩;have jO:=BJ (st:=K53s.Ew) eG eO cD;have u5:=jO.binds (ps:=["self","n","rows","head"]) (bn4 λ_ _ _ _ _ _ _ _ _ _=>rfl);have abN:Meth K Sv "__init__" aK:=⟨cB,cC,cD⟩;have jP:=BJ (st:=K53s.JC) eX fj cF;have u6:=jP.binds (ps:=["self"]) (bn1 λ_ _ _ _ _ _ _=>rfl);have u9:Meth K Sv "knots" aL:=⟨eU,eV,cF⟩;have oO:=BJ (st:=K53s.Xv) iU iV dO;have wR:=oO.binds (ps:=["self"]) (bn1 λ_ _ _ _ _ _ _=>rfl);have wU:Meth K Sv "top" bQ:=⟨iR,iT,dO⟩;have jQ:=BJ (st:=K53s.OD) fQ fV cG;have vd:=jQ.binds (ps:=["self"]) (bn1 λ_ _ _ _ _ _ _=>rfl);have vf:Meth K Sv "many" aM:=⟨fH,fJ,cG⟩;have jR:=BJ (st:=Hj) fX fZ cH;have jT:=jR.binds (ps:=["self","web","rule"]) (bn3 λ_ _ _ _ _ _ _ _ _=>rfl);have abO:Meth K Gw "__init__" aN:=⟨aO,aP,cH⟩;have dF:=BJ (st:=FW) dh dj aW;have aX:=dF.binds (ps:=["self","number","reached"]) (bn3 λ_ _ _ _ _ _ _ _ _=>rfl);have aY:Meth K Gw "knot_at" aF:=⟨cY,cZ,aW⟩;have jy:=BJ (st:=Nz) jd je dR;have oR:=jy.binds (ps:=["self","number","reached"]) (bn3 λ_ _ _ _ _ _ _ _ _=>rfl);have oU:Meth K Gw "past_points" bV:=⟨iZ,jc,dR⟩;have TS:K53s.Txt K mg Sv:=⟨⟨jW,jX,jY,jZ⟩,cN,gZ,g8,B9 X G pC,⟨_,B9 X G v1⟩,B3 X G z0,B3 X G z1,B3 X G z2,B3 X G z5,B3 X G lq,B3 X G z6,B3 X G z7,B3 X G z8,B3 X G z9,B3 X G gU,B3 X G z10,B3 X G z4,B3 X G aQ⟩;have U:∀fu,Rul (uP fu) K mg D:=λfu=>⟨⟨cI,cJ,cL,cM⟩,ZX,⟨_,B9 X G v2⟩⟩;have UC:Rul uC K mg Dc:=⟨⟨gJ,gK,gM,gO⟩,AEi,⟨_,B9 X G v2⟩⟩;have O:Gro K mg Gw:=⟨⟨kj,kJ,kY,kZ⟩,B9 X G pD,lu,iu,cO,cP,iw,dY⟩;have ada:=Yg (P:=l.prog) (w:=w) (mg:=mg) (base:=base) rH ⟨cI,cJ,cL,cM⟩ nF_D;have gq:=λfu=>Xk (fu:=fu) (P:=l.prog) (w:=w) (mg:=mg) (base:=base) (D:=D) jt ⟨cI,cJ,cL,cM⟩ nF_D;have dG:=Uo (P:=l.prog) (w:=w) (mg:=mg) (base:=base) (D:=Dc) gH;have hall:=B3 X G gU;have yI:=λfu=>WY ju (U fu) hall (gq fu) dz dB jK ji jo jk;have wV:=WY ju UC hall dG bZ cg jK ji jo jk;have oV:=λD=>Zk (D:=D) jL T lR jf m_size;have wW:=λfu=>RP gk T (U fu) (gq fu) dz dB gY dU dX;have vg:=RP gk T UC dG bZ cg gY dU dX;have vh:=λfu=>Ov dD T (U fu) (gq fu) dz dB;have rK:=Ov dD T UC dG bZ cg;have wX:=AEJ (P:=l.prog) (w:=w) (mg:=mg) (base:=base) tE;have tH:=ABf (P:=l.prog) (w:=w) (mg:=mg) (base:=base) oM;have wY:=K53s.Hr (P:=l.prog) (w:=w) (base:=base) jO TS;have wZ:=K53s.ABO (P:=l.prog) (w:=w) (base:=base) jP TS;have yJ:=K53s.ADX (P:=l.prog) (w:=w) (base:=base) oO TS;have w6:=K53s.ACf (P:=l.prog) (w:=w) (base:=base) jQ TS;have adb:=K53s.AEh (P:=l.prog) (w:=w) (mg:=mg) (base:=base) wK;have xg:=K53s.ZJ (P:=l.prog) (w:=w) (base:=base) jH TS;have oW:=K53s.ABS jD TS ⟨j4,cB,cC,j5⟩ xg uM uO uN adb abE k_in abF wY u5;have yK:=ACa oF T lR jf m_size yW wB wC;have oX:=λu D=>ZR (u:=u) (D:=D) jR T O gY dU dX yK wL wN wM;have yL:=λfu=>Vw (C:=C) jy (U fu) O (vh fu) jx rJ;have xq:=Vw (C:=C) jy UC O rK jx n_passed;have vo:=λfu=>JV dF T (U fu) O (yL fu) oR oU tH oN wQ (wW fu) jN uZ wX tG yH aX aY;have rM:=JV dF T UC O xq oR oU tH oN n_left vg jN n_taken wX tG n_ful aX aY;have xr:=λfu=>Ro gj (U fu) O ⟨gP,aO,aP,gQ⟩ (oX (uP fu) D) jT (vo fu) aX aY (oV D) jM uY oW jE jG jF;have vp:=Ro gj UC O ⟨gP,aO,aP,gQ⟩ (oX uC Dc) jT rM aX aY (oV Dc) jM n_begun oW jE jG jF;have abM:=ADj (P:=l.prog) (w:=w) (base:=base) sY T;have vq:=Xu (P:=l.prog) (w:=w) (base:=base) jr T;have rN:=VP gG T vq rE rG rF;have xu:=ZQ (P:=l.prog) (w:=w) (base:=base) jJ T;have cls:∀i,Cls K (rc D Dc i):=λi=>match i with | 0=>⟨cI,cJ,cL,cM⟩ | 1=>⟨cI,cJ,cL,cM⟩ | _+2=>⟨gJ,gK,gM,gO⟩
  have mF:∀i,Meth K (rc D Dc i) "fits" au:=λi=>match i with | 0=>oK | 1=>oK | _+2=>n_fits
  have GF:=fits3 yI wV;have GG:=grown3 xr vp;exact ADc tu T TS ⟨j6,j7,j8,j9,kh⟩ ⟨mk,a1,i1,kc⟩ ⟨oY,pF,pG,oZ⟩ (B9 X G vR) jU lg jV (B9 X G pA) cls mF yE wz ada yG abL GF wO GG uQ uT uR wZ u6 u9 yJ wR wU w6 vd vf tD n6 ou oh abH yr yu yt yF wD wG wF abM yw yC yx rN oG oJ oH xu uU uW uV gY dU dX
 exact ⟨_,λs v=>.of_eq rfl,λbase _ _=>law_all base⟩
theorem walk{l:OU}{q:AM}{loose:List Str}{XP:(Str->Option Ap)->Heap->Prop}{YP:AT->Heap->Prop}{d:DefRec}{K:WV->Au}(hn:l.most=some 63)(hdf:d.params.defaults=[])
  (hY:∀(w:AT) (h:Heap),YP w h->(K w.params).In h)
  (F:∀(w:AT) (mg:Str->Option Ap) (fa:Addr) (h:Heap),(K w.params).In h->h.Ns A8 mg->mg d.name=some (.ref fa) ->
   ∃fd:BV,(∀(s:AA) (u:Ap),N4 s fd ⟨[u],[]⟩ [("_law_script",u)])/\∀base:Heap,(K w.params).In base->base.Ns A8 mg->FnOk l.prog w (K w.params) mg base CX0 18 fa fd ["_law_script"] (RG (K w.params))) :
  VE q loose XP YP l.row.toRowW d [] (λf vs=>TU f vs) :=
 L2.ABq (n:=63) (k:=18) (x:="_law_script") (CX:=λ_=>CX0) (sp:=λw=>RG (K w.params)) hn (by decide) hdf ⟨rfl,by decide,by decide,rfl⟩ hY F (λ_ _ a ns hl _ hS=>⟨a,ns,rfl,hS,hl,λ_=>rfl⟩) λ_ _ _ _ _ z=>z
end K53
open PySem PySem.W PyProof.Rows
set_option maxRecDepth 100000 in
set_option maxHeartbeats 0 in
theorem PySem.Challenge.cw_frontways_k53_whole_grown_of_pairs_holds : PySem.Challenge.rw_frontways_k53_whole_grown_of_pairs.Holds := by
 w_on;o_law;k_head;(case hw=>w_witness2)
 k_fill
 refine K53.walk (l:=PySem.Challenge.rw_frontways_k53_whole_grown_of_pairs) rfl rfl (λw h Y=>PySem.W.kIn_of Y) ?F
 case F =>
  intro w mg fa h KX G hmg
  refine' K53.all_mk KX G hmg ?aC ?a1 ?i1 ?l1 ?c1 ?k1 ?a2 ?i2 ?l2 ?c2 ?k2 ?a3 ?i3 ?l3 ?c3 ?k3 ?a4 ?i4 ?l4 ?c4 ?k4 ?a5 ?l5 ?c5 ?k5 ?a6 ?l6 ?c6 ?k6 ?a7 ?l7 ?c7 ?k7 ?a8 ?l8 ?c8 ?k8 ?a9 ?l9 ?c9 ?k9 ?a10 ?l10 ?c10 ?k10 ?a11 ?l11 ?c11 ?k11 ?a12 ?l12 ?c12 ?k12 ?a13 ?l13 ?c13 ?k13 ?a14 ?l14 ?c14 ?k14 ?a15 ?l15 ?c15 ?k15 ?a16 ?l16 ?c16 ?k16 ?a17 ?l17 ?c17 ?k17 ?a18 ?l18 ?c18 ?k18 ?a19 ?l19 ?c19 ?k19 ?a20 ?l20 ?c20 ?k20 ?a21 ?l21 ?c21 ?k21 ?a22 ?l22 ?c22 ?k22 ?a23 ?l23 ?c23 ?k23 ?a24 ?l24 ?c24 ?k24 ?pg ?hd ?po ?sa ?mk ?kc ?n0 ?n1 ?v0 ?v1 ?v2 ?z0 ?z1 ?z2 ?z3 ?z4 ?z5 ?z6 ?z7 ?z8 ?z9 ?z10 ?vR ?cI ?cJ ?cL ?cM ?oY ?oZ ?vU ?vV ?vW ?vX ?vY ?pA ?gJ ?gK ?gM ?gO ?jU ?jV ?rO ?rP ?rQ ?rR ?rT ?pC ?jW ?jX ?jY ?jZ ?j4 ?j5 ?j6 ?j7 ?j8 ?j9 ?kh ?pD ?kj ?kJ ?kY ?kZ ?gP ?gQ ?rW ?rY ?rZ ?sG ?sI ?nF_D ?lg ?gU ?lq ?aQ ?cN ?gZ ?g8 ?lu ?iu ?cO ?cP ?iw ?dY ?pF ?pG ?pH ?pI ?d_ip ?cQ ?cR ?cT ?cU ?aR ?aZ ?bf ?bw ?bx ?aG ?iz ?dI ?iC ?iD ?bH ?a2_fits ?dZ ?cj ?d7 ?d8 ?aH ?a2_begun ?d9 ?cu ?eE ?eF ?aJ ?a2_taken ?cV ?aU ?cW ?cX ?aB ?a2_passed ?lN ?gW ?lO ?lQ ?dJ ?a2_ful ?iI ?dM ?iJ ?iK ?bJ ?a2_left ?cB ?cC ?eG ?eO ?cD ?eU ?eV ?eX ?fj ?cF ?iR ?iT ?iU ?iV ?dO ?fH ?fJ ?fQ ?fV ?cG ?aO ?aP ?fX ?fZ ?cH ?cY ?cZ ?dh ?dj ?aW ?iZ ?jc ?jd ?je ?dR
  (case aC=>k_is)
  (case a1=>k_is)
  (case i1=>k_is)
  (case l1=>k_is)
  (case c1=>k_is)
  (case k1=>k_is)
  (case a2=>k_is)
  (case i2=>k_is)
  (case l2=>k_is)
  (case c2=>k_is)
  (case k2=>k_is)
  (case a3=>k_is)
  (case i3=>k_is)
  (case l3=>k_is)
  (case c3=>k_is)
  (case k3=>k_is)
  (case a4=>k_is)
  (case i4=>k_is)
  (case l4=>k_is)
  (case c4=>k_is)
  (case k4=>k_is)
  (case a5=>k_is)
  (case l5=>k_is)
  (case c5=>k_is)
  (case k5=>k_is)
  (case a6=>k_is)
  (case l6=>k_is)
  (case c6=>k_is)
  (case k6=>k_is)
  (case a7=>k_is)
  (case l7=>k_is)
  (case c7=>k_is)
  (case k7=>k_is)
  (case a8=>k_is)
  (case l8=>k_is)
  (case c8=>k_is)
  (case k8=>k_is)
  (case a9=>k_is)
  (case l9=>k_is)
  (case c9=>k_is)
  (case k9=>k_is)
  (case a10=>k_is)
  (case l10=>k_is)
  (case c10=>k_is)
  (case k10=>k_is)
  (case a11=>k_is)
  (case l11=>k_is)
  (case c11=>k_is)
  (case k11=>k_is)
  (case a12=>k_is)
  (case l12=>k_is)
  (case c12=>k_is)
  (case k12=>k_is)
  (case a13=>k_is)
  (case l13=>k_is)
  (case c13=>k_is)
  (case k13=>k_is)
  (case a14=>k_is)
  (case l14=>k_is)
  (case c14=>k_is)
  (case k14=>k_is)
  (case a15=>k_is)
  (case l15=>k_is)
  (case c15=>k_is)
  (case k15=>k_is)
  (case a16=>k_is)
  (case l16=>k_is)
  (case c16=>k_is)
  (case k16=>k_is)
  (case a17=>k_is)
  (case l17=>k_is)
  (case c17=>k_is)
  (case k17=>k_is)
  (case a18=>k_is)
  (case l18=>k_is)
  (case c18=>k_is)
  (case k18=>k_is)
  (case a19=>k_is)
  (case l19=>k_is)
  (case c19=>k_is)
  (case k19=>k_is)
  (case a20=>k_is)
  (case l20=>k_is)
  (case c20=>k_is)
  (case k20=>k_is)
  (case a21=>k_is)
  (case l21=>k_is)
  (case c21=>k_is)
  (case k21=>k_is)
  (case a22=>k_is)
  (case l22=>k_is)
  (case c22=>k_is)
  (case k22=>k_is)
  (case a23=>k_is)
  (case l23=>k_is)
  (case c23=>k_is)
  (case k23=>k_is)
  (case a24=>k_is)
  (case l24=>k_is)
  (case c24=>k_is)
  (case k24=>k_is)
  (case pg=>k_is)
  (case hd=>k_is)
  (case po=>k_is)
  (case sa=>k_is)
  (case mk=>k_is)
  (case kc=>k_is)
  (case n0=>k_is)
  (case n1=>k_is)
  (case v0=>k_is)
  (case v1=>k_is)
  (case v2=>k_is)
  (case z0=>k_is)
  (case z1=>k_is)
  (case z2=>k_is)
  (case z3=>k_is)
  (case z4=>k_is)
  (case z5=>k_is)
  (case z6=>k_is)
  (case z7=>k_is)
  (case z8=>k_is)
  (case z9=>k_is)
  (case z10=>k_is)
  (case vR=>k_is)
  (case cI=>k_is)
  (case cJ=>k_is)
  (case cL=>k_is)
  (case cM=>k_is)
  (case oY=>k_is)
  (case oZ=>k_is)
  (case vU=>k_is)
  (case vV=>k_is)
  (case vW=>k_is)
  (case vX=>k_is)
  (case vY=>kit_is)
  (case pA=>k_is)
  (case gJ=>k_is)
  (case gK=>k_is)
  (case gM=>k_is)
  (case gO=>k_is)
  (case jU=>k_is)
  (case jV=>k_is)
  (case rO=>k_is)
  (case rP=>k_is)
  (case rQ=>k_is)
  (case rR=>k_is)
  (case rT=>kit_is)
  (case pC=>k_is)
  (case jW=>k_is)
  (case jX=>k_is)
  (case jY=>k_is)
  (case jZ=>k_is)
  (case j4=>k_is)
  (case j5=>k_is)
  (case j6=>k_is)
  (case j7=>k_is)
  (case j8=>k_is)
  (case j9=>k_is)
  (case kh=>kit_is)
  (case pD=>k_is)
  (case kj=>k_is)
  (case kJ=>k_is)
  (case kY=>k_is)
  (case kZ=>k_is)
  (case gP=>k_is)
  (case gQ=>k_is)
  (case rW=>k_is)
  (case rY=>k_is)
  (case rZ=>k_is)
  (case sG=>k_is)
  (case sI=>kit_is)
  (case nF_D=>k_is)
  (case lg=>k_is)
  (case gU=>k_is)
  (case lq=>k_is)
  (case aQ=>k_is)
  (case cN=>k_is)
  (case gZ=>k_is)
  (case g8=>k_is)
  (case lu=>k_is)
  (case iu=>k_is)
  (case cO=>k_is)
  (case cP=>k_is)
  (case iw=>k_is)
  (case dY=>k_is)
  (case pF=>k_is)
  (case pG=>k_is)
  (case pH=>k_is)
  (case pI=>k_is)
  (case d_ip=>k_is)
  (case cQ=>k_is)
  (case cR=>k_is)
  (case cT=>k_is)
  (case cU=>k_is)
  (case aR=>k_is)
  (case aZ=>k_is)
  (case bf=>k_is)
  (case bw=>k_is)
  (case bx=>k_is)
  (case aG=>k_is)
  (case iz=>k_is)
  (case dI=>k_is)
  (case iC=>k_is)
  (case iD=>k_is)
  (case bH=>k_is)
  (case a2_fits=>k_is)
  (case dZ=>k_is)
  (case cj=>k_is)
  (case d7=>k_is)
  (case d8=>k_is)
  (case aH=>k_is)
  (case a2_begun=>k_is)
  (case d9=>k_is)
  (case cu=>k_is)
  (case eE=>k_is)
  (case eF=>k_is)
  (case aJ=>k_is)
  (case a2_taken=>k_is)
  (case cV=>k_is)
  (case aU=>k_is)
  (case cW=>k_is)
  (case cX=>k_is)
  (case aB=>k_is)
  (case a2_passed=>k_is)
  (case lN=>k_is)
  (case gW=>k_is)
  (case lO=>k_is)
  (case lQ=>k_is)
  (case dJ=>k_is)
  (case a2_ful=>k_is)
  (case iI=>k_is)
  (case dM=>k_is)
  (case iJ=>k_is)
  (case iK=>k_is)
  (case bJ=>k_is)
  (case a2_left=>k_is)
  (case cB=>k_is)
  (case cC=>k_is)
  (case eG=>k_is)
  (case eO=>k_is)
  (case cD=>k_is)
  (case eU=>k_is)
  (case eV=>k_is)
  (case eX=>k_is)
  (case fj=>k_is)
  (case cF=>k_is)
  (case iR=>k_is)
  (case iT=>k_is)
  (case iU=>k_is)
  (case iV=>k_is)
  (case dO=>k_is)
  (case fH=>k_is)
  (case fJ=>k_is)
  (case fQ=>k_is)
  (case fV=>k_is)
  (case cG=>k_is)
  (case aO=>k_is)
  (case aP=>k_is)
  (case fX=>k_is)
  (case fZ=>k_is)
  (case cH=>k_is)
  (case cY=>k_is)
  (case cZ=>k_is)
  (case dh=>k_is)
  (case dj=>k_is)
  (case aW=>k_is)
  (case iZ=>k_is)
  (case jc=>k_is)
  (case jd=>k_is)
  (case je=>k_is)
  (case dR=>k_is)
