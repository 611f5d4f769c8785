import PyProof.Rows.All
import Wide.All
import OpenK.AllK
import Wide.FinOn
import PyProof.EqAt
import PyProof.EqKinds
import PyProof.NeKinds
import PyProof.TupleCall
import KE.KIsAll
import KE.KIsNot
import KE.RegKIsAll
import OpenK.KOwn
import PyProof.NsDelKeeps
import PyProof.ReprRoads
import PyProof.ExcArgsOwn
import PyProof.IsiH_list
import Lean
import PyProof.StationsW
import PyProof.Rows.Catch
import OpenK.KMake
import PyProof.DictIter
import KE.KDictList
import PyProof.DictItems
import PyProof.DictWalks
import PyProof.TupleOfSeq
import PySem.SetTable
import PyProof.SetKind
import PyProof.IsRules
import PyProof.Rows.SetFrom
import PyProof.FactsAll.set
import KE.KSortTup
import PyProof.Meets
import PyProof.AutoListH
import PyProof.ListMulRoad
import PyProof.FactsAll.tuple_2
import Wide.Seal
import PyProof.Rows.Range3
import PyProof.CallType
import PyProof.EnumMake
import PyProof.Rows.CallKwBuiltin
import KE.LcSums
import KE.KRevIter
import PyProof.Rows.SortLt
import PyProof.FactsAll.subtypes_4
import PyProof.WalksMore
import PyProof.SetRoads
import PyProof.ZipIter
import PyProof.Rows.FactsT2
import PyProof.DefCall
import PySem.Challenge.RW_frontways_k45_crowds_at_the_edges
set_option linter.all false
set_option autoImplicit false
set_option Elab.async false
set_option maxRecDepth 100000
set_option maxHeartbeats 4000000
set_option maxHeartbeats 8000000
set_option tactic.hygienic false
universe u
noncomputable section
set_option compiler.extract_closed false
theorem zA0(h:True:=by rfl):True:=h
theorem zA1(h:True:=by decide):True:=h
theorem zA2(h:True:=by intro _;rfl):True:=h
theorem zA3(h:True:=by decide+kernel):True:=h
open Option renaming some->uA,none->uB
theorem uD{c:Prop}{h:Decidable c}(n:¬c){α:Sort u}{t e:α}:ite c t e=e:=if_neg n
theorem uE{c:Prop}{h:Decidable c}(n:c){α:Sort u}{t e:α}:ite c t e=t:=if_pos n
theorem uF{p:Prop}[Decidable p](h:p):decide p=true:=decide_eq_true h
theorem uG{p:Prop}[Decidable p](h:¬p):decide p=false:=decide_eq_false h
theorem uH{p:Prop}[Decidable p](h:decide p=true):p:=of_decide_eq_true h
theorem uI{a b:Prop}(h:a)(k:¬a):b:=(k h).elim
abbrev uJ:=List Int
abbrev uK:=List uJ
abbrev uL:=List Nat
abbrev uN:=Bool->PySem.Shared->Prop
abbrev uO:=Unit->PySem.Shared->Prop
abbrev uQ:=List (PySem.Addr×PySem.Obj)
abbrev uT:=List PySem.Str
abbrev uU:=List PySem.Expr
abbrev uW:=Option Nat
abbrev uX:=List PySem.Addr
open PySem renaming wpAny_bind->Ap,Value->As,Shared->AA,wpAny_pure->AC,Program->AJ,model->AM,World->AQ,Paired->A1,FuncData->BA,Around->BB,starEach->BQ,mainGlobals->B6,SetTable->CU,cLine->C0,wpAny_mono->C5,wpAny_newObj_type->C8,wpAny_call_entry->Dx,boot_len->DF,wpAny_holding->D8,compareOp->D9,sysModules->EG,codeAny_builtin->EK,rawInt->EM,wpAny_Call_Name_kw->EN,wpAny_field->ES,wpAny_pyIter_tuple->E6,codeAny_mono->E8,wpAny_seqItems->Fk,wpAny_setState_of->FD,bootBuiltins->FF,backTo->FG,Scope->FL,wpAny_setField->FU,sizeLine_eq->FY,wpAny_rule->F7,wpAny_truthy_bool->G1,wpAny_typeNameOfWhole_keyiter->G3,mem_of_lookup->G6,binaryOp->Hb,wpAny_forIn_list->Hc,wpAny_passesOwn->HG,NameKind->IA,wpAny_typeNameOf_keyiter->IB,wpAny_isInstance->IC,behindInMarks->IQ,wpAny_execs_nil->IS,pyNext->IU,atKey->Jn,wpAny_specialOf->JA,reduceHash->JE,wpAny_setField_rec->JO,firstArgMember->J4,IsPair->J8,wpAny_execs_cons->Kb,assignEach->Ki,wpAny_askSetting->Kt,wpAny_attempt->KG,wpAny_ite_split->KS,swapsWith->K2,tupleKind_room_in1->K6,wpAny_tupleItemsOf->K8,intKind->Lm,wpAny_runValue->Lv,wpAny_dictEntries->LV,wpAny_of_eq->L7,plainId_quiet->Mc,Model->ME,letOwnedTupleGo->MH,call_meets->MV,wpAny_typeOf->MW,codeAny_call_builtin->MZ,IsZip->M6,holding->Nd,evalEach->NA,tupleKind->NN,DictEntry->NS,attributeBase->N2,wpAny_newList->N3,setSearchFrom->N8,wpAny_pyIter_list->Op,foldedSetIterable->Os,wpAny_pyIter_slot->OA,callerA->OO,valueAt->OP,concat_meets->OT,noFill_tuple_add->OU,wpAny_comprehension_free->OW,wpAny_dictEpoch->Po,wpAny_pyNext_range_end->PH,wpAny_pyIter_rangeiter->PM,keywordEach->PQ,subscripted->PY,wpAny_Assign_Subscript->P3,wpAny_isTrue_Compare1->Qb,pyIter->Qr,wpAny_loadPart->QA,Result->QE,BindsTo->QI,getItem->QO,collect->QP,wpAny_fieldsOf->QU,wpAny_isOneOf_keyiter->QY,isSubtype_stop->Q0,isSubtype_tuple_tuple->Q2,wpAny_eqIsQuiet_tuple->Q6,builtinLookup_eq_fast->Q8,isSubtype_type->Q9,GenState->Rs,wpAny_load->RA,wpAny_call->RC,bindL->RE,bindC->RF,Draws->RI,wpAny_updateSeq_pair->RY,wpAny_standAt->R6,rangeSize_one->R7,seq_tuple_add->R8,wpAny_handled->R9,wpAny_onRaise->Se,wpAny_setEntries_of->Sm,Within->SF,assign->SK,wpAny_pyIter_range->SL,getMethod->SO,callType_new->SV,setFlight->SY,wpAny_getItem_heap->S3,wpAny_setItem_heap->S4,call_meetsIn->S5,pickOrder->Ta,spliced->To,storedH->Ts,wpAny_assign_Name->TH,wpAny_pyIter_enum->TL,ofAClassStatement->TR,searchCouldBeSeen->TU,wpAny_storeSet_of->TW,seqIndex_of->T5,wpAny_throw->T7,wpAny_letGo->T9,wpAny_pyHash_int->UC,wpAny_eqBool_int->UD,bindArgs->UH,backToKw->UI,checkBuiltinCall->UO,beq_builtin_none->UR,wpAny_pyIter_zip->UV,builtinsNs->U1,isTrue->U2,wpAny_Name->U3,CmpOp->U4,typeIs_int->U6,call->U7,IsEnum->U8,isInstance->VA,wpAny_ret_mkInt->VC,codeAny_of_tree->VS,typeLookup_type->VU,setsByText->VW,wpAny_updateSeq->VX,standAt->V6,wpAny_Expr_any->V7,setItem->V8,recursionLimit->We,leaving->Wl,Keyword->Wp,wpAny_newTuple->WG,small_one->WI,cellsFrom->WN,seqIndex?->WO,data2->X0,Params->YU,compEnvC->YV,setField->Y0,setRelay->Y5,entryFor->Y7,argsOk->Y8
open PySem.W renaming Frag->Au,mg_none_of->BG,mg_of->Co,nsIn->CI,findIn->C7,keepIn->DU,emptyDict->ET,fnOf->E9,instObj->F0,codeIn->Iy,plainGet->Kj,excIn->KF,hideAll_get->KM,callWith_K->K4,hasDictIn->LN,hideAll->MD,isFn->ML,makesIn->MM,plainGet_of->M8,lookIn->Nl,kitOne->NH,kitAny->NI,subIn->N5,plainOver->Oy,takerIn->Pe,OpenLaw->Pm,cellsFrom_some->PU,typeIn->QH,methodCall_KW->QN,looks_subIn->Sk,of_hideAll->SG,looks_findIn->SZ,handedIn->UF,isClsIn->V4,WalkO->WZ,clsIn->W1,Looks->W2,mroIn->Xs,kas_item->Zs
open List renaming length_map->AB,getD_eq_getElem?_getD->AD,getElem?_eq_getElem->AG,mem_cons_self->AI,range->AK,mem_cons_of_mem->AL,mem_range->AN,getElem?_eq_some_iff->AO,mem_cons->AS,getElem?_map->AY,size_toArray->A8,length_range->A9,mem_singleton->Bi,getElem?_append_left->BC,mem_map->BD,map_append->BE,mem_of_getElem?->BI,length_append->BN,mem_append_right->BS,map_cons->BU,mem_filter->B0,append_nil->B3,length_take->B7,mem_append->B8,append_assoc->B9,replicate->Cb,pairwise_cons->CA,getElem?_append_right->CB,take_add_one->CC,filter_append->CD,length_filter_le->CH,mem_iff_getElem->CL,pairwise_iff_getElem->CM,take_length->CO,pairwise_append->C6,pairwise_map->C9,nodup_cons->DE,length->DI,not_mem_nil->DJ,map_map->DL,mem_append_left->DO,length_cons->D0,length_singleton->D5,filter_cons_of_neg->D7,lookup_cons->EC,nodup_range->ED,getElem?_range->EF,filter_cons_of_pos->EO,getElem_mem->ER,range_succ->EV,getElem?_eq_none->EZ,all_eq_true->Fa,ext_getElem?->FC,lookup->FH,pairwise_lt_range->FI,drop_eq_nil_of_le->FK,filter_cons->FM,mem_iff_getElem?->FV,take_append_drop->FX,getElem?_set_ne->F3,getElem?_take_of_lt->F5,find?_cons->F8,reverse_reverse->GY,length_eq_zero_iff->G4,filterMap_cons->G5,mem_map_of_mem->G7,map_congr_left->G8,reverse_append->G9,getElem?_set_self->He,perm_append_comm->HH,drop_sublist->HU,length_erase_of_mem->ID,mem_reverse->IG,replicate_succ->IJ,any_cons->IR,length_nil->IY,length_set->IZ,filter_nil->JI,length_pos_of_mem->JS,take_sublist->J0,getElem_take->J2,countP_eq_length_filter->J7,mem_erase_of_ne->Kk,drop_eq_getElem_cons->KU,mem_filterMap->K3,toArray->Lc,nodup_nil->LD,getElem?_replicate->LH,pairwise_singleton->LL,flatten_cons->LO,getElem?_inj->LW,filter_congr->LY,length_drop->Me,length_replicate->Mn,map_nil->MS,foldl_cons->MU,mem_of_mem_take->M5,take_succ_cons->Nc,take_zero->NG,getElem_drop->OC,reverse_perm->OE,nodup_append->OF,Nodup->OH,getLast?_eq_none_iff->OI,getLast?_eq_some_iff->OK,map->O2,of_mem_zip->Pf,nil_append->Pp,sum_append->Ps,filter_map->Pw,take_of_length_le->P5,length_eq_one_iff->P6,filter_eq_nil_iff->P7,drop_drop->Re,pairwise_reverse->Rl,getElem_toArray->RO,mem_of_mem_drop->RR,filter_sublist->Sl,filter_eq_self->So,zip_cons_cons->SU,map_singleton->S6,getElem?_drop->S9,extract->Tb,mapM_toArray->TZ,getElem_inj->UE,getElem_map->UN,cons_append->UP,any_eq_true->UX,all_append->VE,length_zip->V1,take->WS,all_cons->WV,map_take->W7,map_drop->W8,map_id'->Zl,all_map->Zp,foldl->Z4
open PyProof.Rows renaming Keyed->AE,wpS_bind->AR,arrOf->AU,wpS_pure->AX,SortSt->Bz,pendingOf->BF,boot_tuple->Cc,callWith_type1->DB,wpS_forRange->DM,elem'->DT,wpS_mono->EE,SortKind->EJ,seqObj->EU,IntsAre->FS,failedOf->GV,boot_isinstance->Hd,wpS_modify->Ix,boot_sorted->IE,callWith_builtin1->IX,boot_list->JY,wpS_get->J6,AllBare->Lu,boot_range->LM,boot_min->MB,envOfC->MO,wpS_lift->NF,listUpdate_at->N4,reverseSlice'->N9,listItems_at->OX,ltAt'->PD,subscriptTail_builtinR->PZ,boot_max->Q3,gallopOf->RU,Constant_none->R0,IsTup->Tl,seqEpoch_at->Uf,general'->UT,entry_list_sort->U9,setArr->VZ,keyLt'->V0,wpAny_notIn_heap->V5,slot_list_sort->WA,args_list_sort->WB,keyLt'_oneType->WF,Call_->Xt,firstMet->ZH,lt_int->aa
open Nat renaming le_refl->AF,zero_le->A7,ne_of_lt->BH,le_trans->BY,lt_of_lt_of_le->B5,le_of_lt->C3,lt_or_ge->DC,lt_of_le_of_lt->EL,lt_succ_self->E7,add_sub_cancel->Fc,lt_irrefl->Fh,le_add_right->Ha,le_of_eq->J3,sub_self->J5,pow_le_pow_right->Kn,zero_add->K1,lt_succ_of_lt->LX,le_succ->LZ,add_le_add_right->MC,ne_of_gt->MG,pow_succ->M3,mod_lt->M4,eq_of_lt_succ_of_not_lt->NL,lt_trichotomy->OB,lt_add_right->OQ,zero_lt_succ->OR,succ_le_succ->OV,le_max_right->OZ,le_max_left->Pt,lt_of_lt_of_eq->Sr,lt_trans->Su,lt_of_le_of_ne->SC,eq_zero_or_pos->S7,add_zero->S8,one_le_two_pow->Th,le_of_lt_succ->Tu,add_sub_of_le->TB,lt_succ_of_le->TC,lt_of_succ_le->TD,le_succ_of_le->T3,le_of_not_lt->UA,sub_sub_self->UB,div_eq_of_lt->US,not_lt->UZ,mul_le_mul->WC,min_self->X4,succ_pos->Y4,not_le->Z9
open PySem.Heap renaming get?_push_of_some->AH,get?_push_size->AT,lt_size->AW,get?_update_self->Db,size_push->Do,get?_update_other->DA,SameBut->EH,FlyingW->MY,MadeExcOf->Nw,ExtBut->T6,IsTuple->YY
open PySem.Value renaming ref->AV,none->CY,type->C4,isInt_shape->G0,builtin->Mb,isInt->NJ,int->NM,notImplemented->RH,bool->U0,isStrOf->WU,str->ae
open PySem.Paired renaming length->AZ,snoc->T8
open Array renaming length_toList->A2,getElem?_eq_getElem->Be,getElem?_toList->BV,getElem?_eq_some_iff->Cn,toList_append->De,getD->EA,toList_extract->GW,getElem?_eq_none->Hk,getD_eq_getD_getElem?->Hn,perm_iff_toList_perm->HP,toList_push->HR,size_setIfInBounds->IF,getElem?_setIfInBounds_ne->IM,toList_reverse->Kx,forIn_toList->K9,toArray_toList->MX,getElem_mem_toList->O1,toList_map->O3,toList_modify->Sn,toList->SH,toList_inj->UU,replicate->VM
open Classical renaming byContradiction->Bn,choose_spec->D6,choose->EQ,propDecidable->LJ
open Bool renaming false_ne_true->By,false_eq_true->Ct,eq_iff_iff->DV,and_eq_true->EB,not_true->N7,not_eq_true'->TN,or_eq_true->VI,false_and->V9,and_assoc->WE,false_or->W3,or_false->W5
open ForInStep renaming done->BM,yield->CS
open Option.some renaming inj->BO
open Int renaming toNat_natCast->Cf,toNat_of_nonneg->DH,le_trans->D3,emod_lt_of_pos->Ev,emod_nonneg->EW,le_of_lt->FE,ofNat_le->HE,not_lt->HV,le_refl->JP,max_eq_right->KA,min_eq_right->KB,min_eq_left->KW,max_eq_left->K0,toNat->Mm,le_total->O4,eq_ofNat_of_zero_le->Pd,lt_irrefl->Sc,zero_add->Sz,ofNat_lt->SA,mul_one->T4,min_comm->ZA,max_comm->ZB,add_comm->ZE
open Ne renaming symm->CF
open PySem.NameKind renaming free->C1,cell->HI
open PySem.Obj renaming data_mapFields->Da,mapSeq->Eg,isFreed_of_fields->EX,mapFields->G2,cls_mapFields->J1,putSet->VO
open PySem.Builtin.Tuple renaming tupleHashOf->DS,tupleExact->K7,tupleTooMany->N6,tupleCompareSizes->UY,tupleItemsOf->W6
open PySem.PassesOwn renaming never->DZ
open PySem.Heap.SameBut renaming update->D4,refl->ar
open False renaming elim->Ee
open PySem.SetTable renaming insertAt->EI,runEnd->FA,Probe->IL,turns->OL,grown->VQ
open List.Perm renaming append_left->E3,refl->LF,append_right->L9,nodup_iff->M9,trans->PF,cons->Q5,swap->Q7
open List.Pairwise renaming imp_of_mem->Ff,nil->LP,cons->SW,filter->Z8
open PySem.F renaming slot_dict_keyiterator_next->Fm,plainAttrs_list->Fu,slot_list_append->F9,type_list_append->Go,slot_tuple_iterator_next->HK,called_set->IH,plain_list_iadd->IN,slot_tuple_hash->IP,slot_tuple_mul->JU,slot_zip_next->J9,args_tuple_add_2->K5,entry_tuple_add->LI,slot_tuple_add->L6,slot_tuple_lt->Mo,slot_dict_get->My,slot_tuple_eq->MA,args_dict_keyiterator_next_1->M1,entry_dict_keyiterator_next->M7,args_tuple_iterator_next_1->No,entry_tuple_iterator_next->NU,entry_proto_collect->NX,plain_proto_collect->NY,excBase_ValueError->On,slot_dict_getitem->OG,args_tuple_mul_2->OY,args_tuple_lt_2->O5,args_dict_get_3->O6,entry_list_iadd->O7,slot_tuple_rmul->O8,entry_tuple_mul->O9,args_zip_next_1->Pc,entry_tuple_lt->PV,entry_dict_get->P4,entry_zip_next->P8,typeOf_object_class->QQ,slot_int_rmul->Q1,slot_dict_len->Q4,slot_set_iter->Rc,slot_gs_get->Sa,slot_dict_iter->UQ,plain_set_new->VT
open PySem.Around renaming under_plainId->Fn,under->OS
open PySem.Builtin.Range renaming rangeSize->Fs,small->KO,rangeFitsLong->WP
open Sum renaming inl->FO,inr->ON
open PySem.Calls renaming spliced_cons->FR,spliced_nil->HQ,call_function_entry->KP,evalArgs_plain->MT,Name_function_global->N1,callWith_builtin->P0
open Option renaming isSome_iff_exists->F4,isSome_map->LU,map_eq_some_iff->L8,map_some->M0,isSome_iff_ne_none->OM,none->ZY
open PySem.Str renaming ofString->F6,empty->SR
open PySem.Builtin.List renaming listExtendWith->Hm,listLengthHint->N0,listSameRef->O0
open PyProof.Rows.F renaming plain_set_update_loop->HC,entry_set_update_loop->Ll
open PySem.Challenge renaming pw_frontways_k45_crowds_at_the_edges->HM
open True renaming intro->HZ
open PySem.Builtin.SmallTypes renaming nextOf->Ic,ownedTupleIsFree->LG,ownedTupleHandOut->Tk
open Or renaming inl->IT,inr->NO
open PyProof.Rows.SortSt renaming mk'->JJ
open Int.ofNat renaming inj->KI
open PySem.SetTable.layClean renaming free->KL
open PySem.SeqAt renaming EqAt->MQ,in_tupleAt->UK,in_listAt->U5
open PySem.Builtin.Dict_items renaming ownsTuple->NB
open Prod renaming ext->NC
open PySem.SetTable.probe renaming go->NE
open PySem.SeqAt.EqAt renaming int_int->NR,same->Pl,none_int->Sf,int_none->Si,int_str->SD,str_int->SE
open PySem.Code renaming quiet_builtin->NV,isFrame->SS,frames->ZU
open PyProof renaming noPylong_small->PO
open Eq renaming symm->P9
open PySem.Builtin.Dict renaming showsAll->QR,dictSlotNone->X3
open List.cons renaming inj->Sb
open PySem.EntryCells renaming newEntry->Sj
open PySem.WalksT renaming enumerateD->TK
open PySem.Builtin renaming sorted->UM
open Array.Perm renaming refl->VY
open PySem.Builtin.Frozenset renaming updateFrom->WH,newClass->W9,sizeOf->Y9
open PySem.SeqAt.RcNeAt renaming lists_lengths->W0,lists->ah
open PySem.Shared renaming TypeIs->W4,heap->ZZ
open PySem.EqNone renaming eq_none_none->XA,eq_none_bool->XB,eq_bool_none->XG,ne_none_none->XT,ne_none_bool->XU,ne_bool_none->XX,eq_none_int->X5,eq_none_str->X6,eq_int_none->X7,eq_str_none->X9,ne_none_int->Yf,ne_none_str->YA,ne_int_none->YE,ne_str_none->YO
open PySem.EqMixed renaming eq_bool_str->XI,eq_str_bool->XO,ne_bool_str->XY,ne_str_bool->XZ,eq_int_str->X8,eq_str_int->Ya,ne_int_str->YI,ne_str_int->YR
open PySem.W.Looks renaming ld->Y3,here->Z7
open PySem.pickOrder renaming go->Y6
open String.Pos.Raw renaming mk_le_mk->ZI
open PySem.CmpOp renaming NotIn->ZN,In->aw
open PySem.Walks renaming range->ZO
open PySem.IsRange renaming new->ZT
open PySem.Moved renaming trans->Z0
open Iff renaming rfl->Z3
open PySem.W.WShape renaming has->Z5
open PySem.Heap.UpToSlots renaming trans->Z6
open PyProof.Rows.IsTup renaming new->af
open PySem.W.WData renaming int->ag
open PySem.Within renaming cons->am
open PySem.Heap.IsTuple renaming push->av
open PySem.Heap.DictOfH renaming new->ay
open PySem.Heap.DictOf renaming new->aE
theorem dl{a b c:Nat}(h0:a<c)(h1:b=c):a<b:=Sr h0 h1.symm
theorem uV{a b c:Nat}:a<c->c<b->a<b:=Su
theorem fv{a b:Nat}:(↑a:Int)=(↑b:Int)->a=b:=Int.ofNat_inj.mp
theorem va{a b:Nat}  : a<=b+a:=Nat.le_add_left a b
theorem uP{a b c:Nat}:a<c->c<=b->a<b:=B5
theorem u5{a b c:Nat}:a+c<b->a<b:=Nat.lt_of_add_right_lt
theorem uR{a b:Nat}:¬b<a->a<=b:=UA
theorem vj{a b c:Nat}(h0:c=a)(h1:c<=b):a<=b:=le_of_eq_of_le h0.symm h1
theorem uM{a b c:Nat}:a<c->c=b->a<b:=Sr
theorem xg{a b c:Nat}:a+(c+1)=b->a<b:=by lia
theorem u8{a b:Nat}:b<=a->¬a<b:=UZ.mpr
theorem vd{a:Nat}  : ¬a<0:=Nat.not_lt_zero a
theorem uS{a b:Nat}  : a<=a+b:=Ha a b
theorem vf{a:Nat}  : (0:Int)<=(↑a:Int):=Int.natCast_nonneg a
theorem vg{a b c:Nat}(h0:a<b):a<b+c:=OQ c h0
theorem vh{a b c:Nat}:a<b-c+c->c<=b->a<b:=by lia
theorem u6{a b:Nat}(h0:b=a):a<=b:=J3 h0.symm
theorem vx{a b c:Nat}:b<=c->min a b<=c:=by lia
theorem u7{a b c:Nat}:a+c<=b->a<=b:=Nat.le_of_add_right_le
theorem vH{a:Nat}  : a<a+1:=Nat.lt_add_one a
theorem vI{a:Int}  : (0:Int)+a=a:=Sz a
theorem vk{a b:Nat}:a<b->a=b->False:=by lia
theorem vb{a b c:Nat}:a<=c->c<b->a<b:=EL
theorem vn{a b:Nat}:a<b->(↑a:Int)<(↑b:Int):=SA.mpr
theorem vS{a b:Nat}:(↑a:Int)<(↑b:Int)->a<b:=SA.mp
theorem vJ{a b c:Nat}:a=c->c<=b->a<=b:=le_of_eq_of_le
theorem vo{a b:Nat}:a<b+1->a<=b:=Tu
theorem vp{a b:Nat}:a<=b->a+(b-a)=b:=TB
theorem vy{a b:Nat}:a<b->a<=b:=Nat.le_of_succ_le
theorem vi{a b:Nat}  : a-b<=a:=Nat.sub_le a b
theorem wm{a b c d:Nat}:a+(c+b)=d->a+b+c=d:=by lia
theorem vT{a b:Int}:b<=a->¬a<b:=Int.not_lt_of_ge
theorem wo{a b:Nat}:a<b+1->¬a=b->a<b:=by lia
theorem vA{a b c d:Nat}:a+(c+b)<d->a+b+c<d:=by lia
theorem wq{a:Int}{b:Nat}(h0:(0:Int)<=a)(h1:a<(↑b:Int)):Mm a<b:=(Int.toNat_lt h0).mpr h1
theorem vq{a b c:Nat}:a+b+c=a+(c+b):=by lia
theorem vK{a b c:Nat}:a<=b->a<=b+c:=Nat.le_add_right_of_le
theorem vU{a b:Int}:a<b->a<=b:=FE
theorem u9{a b:Nat}:1<=a->a<=b->a-1<b:=Nat.sub_one_lt_of_le
theorem vc{a:Nat}:¬a<=1->2<=a:=by lia
theorem wt{a:Nat}  : ¬(↑a:Int)<(0:Int):=Int.not_ofNat_neg a
theorem vt{a b:Nat}:a=b->a<=b:=by lia
theorem vV{a:Nat}:a<2->a<=1:=Tu
theorem vB{a b:Nat}:a<=b->¬a<b->a=b:=by lia
theorem vW{a:Nat}  : 0<a+1:=OR a
theorem xh{a b:Nat}:a<b+1->¬a<b->a=b:=NL
theorem vX{a:Nat}:1<=a->a-1<a:=Nat.sub_one_lt_of_lt
theorem vC{a:Nat}  : a<=a:=AF a
theorem wu{a b c:Nat}:a<c->a-b<c:=Nat.sub_lt_of_lt
theorem vu{a b:Nat}:a<=b->¬b=a->a+1<=b:=by lia
theorem vY{a b:Nat}:¬b<=a->a<b:=Nat.lt_of_not_le
theorem ww{a:Nat}  : 0<a+2:=OR (a+1)
theorem vZ{a:Nat}  : 0<=a:=A7 a
theorem wx{a b:Int}(h0:b<a):a≠b:=CF (Int.ne_of_lt h0)
theorem vD{a b c:Nat}:a<=c->c<=b->a<=b:=BY
theorem vM{a:Nat}  : ¬a<a:=Fh a
theorem vE{a b:Nat}:a<b->a<=b-1:=Nat.le_sub_one_of_lt
theorem vF{a:Nat}:¬a=0->1<=a:=Nat.one_le_iff_ne_zero.mpr
theorem vw{a b:Nat}:a<b->¬a+1=b->a+1<b:=SC
theorem wA{a b c:Nat}(h0:a<c):a+b<c+b:=Nat.add_lt_add_right h0 b
theorem vN{a b:Nat}(h0:b<a):a-(b+1)<a-b:=Nat.sub_succ_lt_self a b h0
theorem wB{a b c:Nat}:a-(b+c)=a-c-b:=by lia
theorem wC{a:Nat}:a<=4100->a<=100000:=by lia
theorem v5{a b c:Nat}:a<min b c->a<b:=by lia
theorem v6{a:Nat}:2<=a->¬a<=1:=Nat.not_le_of_lt
theorem wD{a:Nat}:a<=10->a<=1000:=by lia
theorem vG{a b c d:Nat}:a+d<=c->b<d->a+b<c:=by lia
theorem xi{a b c:Nat}:a=c->b=c->a=b:=by lia
theorem wE{a b c:Nat}(h0:a<=c):a+b<=c+b:=MC h0 b
theorem wF{a b c:Nat}:a=c->c<b->a<b:=lt_of_eq_of_lt
theorem v7{a b c:Nat}(h0:a<c+b)(h1:b<=a):a-b<c:=Nat.sub_lt_right_of_lt_add h1 h0
theorem wG{a:Nat}  : 1<a+2:=Nat.one_lt_succ_succ a
theorem v8{a b:Nat}:a >= b->¬a<b:=UZ.mpr
theorem vO{a b c:Nat}(h0:c<b)(h1:c=a):a<b:=lt_of_eq_of_lt h1.symm h0
theorem v9{a:Nat}:a<=1->a=0\/a=1:=Nat.le_one_iff_eq_zero_or_eq_one.mp
theorem wH{a b:Nat}:a<=b->a<b+1:=TC
theorem wa{a:Nat}:a<2->a=0\/a=1:=by lia
theorem xj{a b:Nat}:a<b->b<=10->a<=1000:=by lia
theorem xq{a b:Nat}:a+0=b->a=b:=Nat.add_right_cancel
theorem vP{a b:Int}:¬b<=a->a<b:=Int.lt_of_not_ge
theorem wI{a b c:Nat}:a<=c->a-b<=c:=by lia
theorem wJ{a b c:Nat}:a<b+1-c->a<=b-c:=by lia
theorem wc{a b:Nat}:a<=b->¬a=b->a<b:=SC
theorem wK{a b:Nat}:a<=b->a >= b->a=b:=Nat.le_antisymm
theorem vQ{a b c:Nat}:b<=a/\a<b+c->a-b<c:=by lia
theorem vR{a:Nat}:a >= 2->¬a<=1:=by lia
theorem xr{a b c:Nat}:a<min c b->a<b:=by lia
theorem xt{a b c:Nat}:a<c->c<b->(↑a:Int)<(↑b:Int):=by lia
theorem xu{a b:Int}:a<=b->a<=b+(1:Int):=Int.le_add_one
theorem xv{a:Nat}:a<=100->a<=1000:=by lia
theorem xw{a b:Nat}:min (↑a:Int) (↑b:Int)=(↑(min a b):Int):=by lia
theorem xx{a b:Nat}:max (↑a:Int) (↑b:Int)=(↑(max a b):Int):=by lia
theorem xA{a b:Int}:a=b->min a b=max a b:=by lia
theorem xB{a b:Int}:min a b=max a b->a=b:=by lia
theorem xC{a b c d:Nat}:a<d->d=c->min a b<c:=by lia
theorem xD{a b c d:Nat}:a=c-d->c<=b+d->a<=b:=by lia
theorem xE{a b:Nat}:a<=b->b<=a->a=b:=by lia
theorem xF{a b:Nat}:a≠0->a<=b->a-1<b:=by lia
theorem xG{a b c:Nat}:a<=b->c<a->a-1<b:=by lia
theorem wL{a:Nat}  : a*2=a+a:=Nat.mul_two a
theorem wd{a b c:Nat}:a<c-2+2->c<b+1->¬c<=1->a<b:=by lia
theorem xH{a b c d e:Nat}:c<d->c=e->d=e->a=b:=by lia
theorem xI{a b c:Nat}:b<=a->¬b+c<a->¬b+c=a->a-b<c:=by lia
theorem xJ{a:Nat}:a<=10->(↑a:Int)<=(1000:Int):=by lia
theorem xK{a b c d:Nat}:a<c->c=d->d<=10->min a b<=(1000:Nat):=by lia
theorem xL{a b:Nat}:b<=a->a-(a-b)=b:=UB
theorem wM{a b:Nat}:b<=a->a-b+b=a:=Nat.sub_add_cancel
theorem we{a b:Nat}:2<=a->a<=b->a-1<b:=by lia
theorem wf{a b:Nat}(h0:a<b):0+a<b:=(Nat.add_lt_of_lt_sub' h0)
theorem xM{a b:Nat}:a<b+1->a≠0->a-1<b:=by lia
theorem xN{a b:Nat}:a+1<=b->a<b:=TD
theorem wg{a b c:Nat}(h0:a<b+c)(h1:b<=a):a-b<c:=Nat.sub_lt_left_of_lt_add h1 h0
theorem wj{a b c:Nat}:c+a<=b->a<=b-c:=Nat.le_sub_of_add_le'
theorem wk{a b c:Nat}:a+c<=b->a+(b-a)=b:=by lia
theorem xO{a b c d:Nat}:a+1<=b->c<d/\b=a->False:=by lia
theorem xP{a:Nat}  : 0+a=a:=K1 a
theorem xQ{a:Nat}  : ¬a>a:=Fh a
theorem xR{a b:Int}:b<a->¬a<b:=Int.lt_asymm
theorem xS{a:Nat}:2<=a->(↑a:Int)-(2:Int)=(↑(a-(2:Nat)):Int):=by lia
theorem xT{a b c d:Nat}:(↑a:Int)-(↑c:Int)=(↑d:Int)->a<b+(c+1)->¬b=d->a<b+c:=by lia
theorem xU{a b c d e:Nat}:(↑b:Int)-(↑c:Int)=(↑d:Int)->a=e->e<d->a<=b:=by lia
theorem xV{a b:Nat}:a<=b->a<Mm ((↑b:Int)+(1:Int)-(2:Int))+(2:Nat):=by lia
theorem xW{a b c d:Nat}:a<c-d+d->c<=b->d<=c->a<=b:=by lia
theorem xX{a b:Nat}:2<=b->a<b+Mm ((↑a:Int)-(1:Int)):=by lia
theorem xY{a:Int}{b:Nat}{c:Int}:(0:Int)<=c->a<(↑b:Int)->c<(↑b:Int)->Mm a<b:=by lia
theorem wN{a b c:Nat}  : a+(b+c)=a+b+c:=P9 (Nat.add_assoc a b c)
theorem xZ{a:Nat}  : a+1≠0:=CF (Nat.zero_ne_add_one a)
theorem x5{a b c d:Nat}:a+(c+b)=d->a+b+(c+b-b)=d:=by lia
theorem wO{a b c:Nat}:a<c->c<=b->a<=b:=by lia
theorem x6{a b c:Nat}:a<=c->c<=b->0+a<=b:=by lia
theorem wP{a:Int}:a<=(1000:Int)->Mm a<=(1000:Nat):=Int.toNat_le.mpr
theorem wQ{a b c:Nat}:a<=c+1->c<b->a<=b:=by lia
theorem wR{a b c d e:Nat}:a+e<=d->b<e->a+b-c<d:=by lia
theorem x8{a b:Nat}:a<b->min a b=a:=by lia
theorem x9{a:Nat}  : min a a=a:=X4 a
theorem ya{a b c d e:Nat}:a+3*(c+b)+d<e->a+b+3*c+d<e:=by lia
theorem yb{a b c:Nat}:c<b->c=a->a<=b:=by lia
theorem wS{a b:Int}:¬b<a->a<=b:=HV.mp
theorem wT{a b:Int}:b<=a->-a<=-b:=Int.neg_le_neg
theorem wU{a:Nat}:2<=a->1<=a:=by lia
theorem wV{a:Nat}:2<=a->¬a-1=1->2<=a-1:=by lia
theorem wW{a b:Nat}(h0:a<b+1)(h1:b<=a):a=b:=Nat.eq_of_le_of_lt_succ h1 h0
theorem wX{a b c d:Nat}:a<=b+d->a<=b+c+d:=by lia
theorem wY{a b c:Nat}:a=c->¬b<c->a<=b:=by lia
theorem wZ{a b c d:Nat}:a<b+d->d<=c->a<b+c:=by lia
theorem w4{a b c d:Nat}:a<c-d+d->c<b+1->c >= d->a<b:=by lia
theorem yc{a b:Nat}:¬a<=b->¬a<b:=by lia
theorem yd{a b:Nat}:¬a<=b->¬a=b:=by lia
theorem w6{a b c d:Nat}:a<=c->c=b-1->d<b->a+1<=b:=by lia
theorem w9{a b:Nat}:a+5<b->a+1+4<b:=TD
theorem xc{a b c d:Nat}:b=min (c-a) d->¬a >= c->a+b<=c:=by lia
theorem xf{a b c:Nat}:a<b-c+c->c<=b->a+1+(b-a-1)=b:=by lia
theorem ye{a:Int}(h0:(0:Int)<=a):a=(↑(Mm a):Int):=P9 (DH h0)
theorem yf{a b c:Nat}:b<a->¬(a<=b/\b<c):=by lia
theorem yg{a b c:Nat}:a<b+(c+1)->¬a<b+c->a=b+c:=NL
theorem yh{a b c:Nat}(h0:c<=b):a-b<=a-c:=Nat.sub_le_sub_left h0 a
theorem yj{a b:Nat}:¬a+b<b:=by lia
theorem yk{a b c:Nat}(h0:b<c):a+b<a+c:=Nat.add_lt_add_left h0 a
theorem yl{a:Int}{b c:Nat}(h0:a=(↑c:Int))(h1:c=b):a=(↑b:Int):=P9 (Nat.ToInt.of_eq rfl h0.symm h1.symm)
theorem ym{a b c d:Nat}:a+d<c->b<=d->a+b<c:=by lia
theorem yq{a b:Nat}:a<=b->(↑a:Int)-(↑b:Int)<=(0:Int):=by lia
theorem yr{a:Int}:a<(100:Int)->Mm a<=(100:Nat):=by lia
theorem yt{a b:Int}:a<=b->¬b=a->a<b:=by lia
theorem yu{a b c:Nat}:b<=a->c<=b->a-(b-c)=a-b+c:=by lia
theorem yv{a b:Nat}(h0:a<=b):a=b-(b-a):=P9 (UB h0)
theorem yw{a b:Nat}:a<b-1+(b-(b-1))->b-1<=a->a=b-1:=by lia
theorem yx{a b c:Nat}(h0:b<=c)(h1:c<=a):a-b=a-c+(c-b):=P9 (Nat.sub_add_sub_cancel h1 h0)
theorem yy{a b c:Nat}:a<c+(b-c)->c<=b->a<b:=by lia
theorem yA{a b c d e:Nat}:a+c+d<=e->b<=a->a-b+c+(d+b)<=e:=by lia
theorem yB{a b c d:Nat}:2<=b->a+b+c<=d->a+(b-1)+(c+1)<=d:=by lia
theorem yC{a b c d e:Nat}:a+c+d<=e->a-b+c+d<=e:=by lia
theorem yD{a b:Nat}:a<b->0+a<=b:=by lia
theorem yE{a b c:Nat}:a<c->¬c-b>0->a<b:=by lia
theorem yF{a b:Nat}:a<=b->0+a<=b:=by lia
theorem yG{a:Nat}{b:Int}:¬((1:Int)<=(0:Int)-(↑a:Int)/\(0:Int)-(↑a:Int)<=b):=by lia
theorem yH{a b c d:Nat}:a<=c+d->a+b<=c+(d+b):=by lia
theorem yI{a b c d:Nat}:a<=c+d->a+b<=c+b+d:=by lia
theorem yJ{a b:Nat}:a<b->a+1+(b-(a+1))<=b:=by lia
theorem yL{a b c:Nat}:a<=b->b<c->a+(b-a)<c:=by lia
theorem yM{a b c d:Nat}:a<c->b+d<=a->a-b<c-b:=by lia
theorem yN{a b c d:Nat}:a+d<=b->b<c->a+(b-a)<c:=by lia
theorem yO{a:Nat}:¬a>0->a=0:=Nat.eq_zero_of_not_pos
theorem yP{a b c:Nat}:a+c<b->a+(b-a)<=b:=by lia
theorem yQ{a b:Nat}:a<=b->a+0<=b:=ZI.mp
theorem yR{a b c:Nat}:a<b->b<=c->c<=a->False:=by lia
theorem yS{a b c d:Nat}:a<b+c->b+d<=a->a-b<c:=by lia
theorem yT{a b c d:Nat}:a<c->d<b->d=c->a<b:=by lia
theorem yU{a b c d e:Nat}:a+d<=e->b<=d->c=e->a+b<=c:=by lia
theorem yV{a b c d:Nat}:b<d->d=c->a+b<a+c:=by lia
theorem yW{a b c d e:Nat}:c=a+d-e->¬(e<=b/\b<e+c)->¬b<e->a<=b:=by lia
theorem yX{a b:Nat}:a=b->¬b=0->1<=a:=by lia
theorem yY{a b c:Int}:¬(a=b\/a=c)->¬a=max b c:=by lia
theorem yZ{a:Nat}:2<=a->a<=1->False:=by lia
theorem y4{a b c:Nat}:b<=c->c<a->a≠b:=by lia
theorem y6{a b:Nat}(h0:b+1<=a):a≠b:=CF (BH h0)
theorem y8{a b c d:Nat}:a-d<=c+1->d<b->a-b<=c:=by lia
theorem y9{a b c:Nat}:b<=c->¬a >= b->a+(b-a) / 2<c:=by lia
theorem za{a b c d:Nat}:a<=b->b-a<=c-max d c->a=b:=by lia
theorem zc:(0:Nat)<(1:Nat):=by lia
theorem zd{a:Nat}:0+a<=a:=by lia
theorem zi{a b c:Nat}:¬b >= c-a->a+b<c:=by lia
theorem zj{a:Nat}:a<2*a+1:=by lia
theorem zk{a b c:Nat}:a<=c->a+b<=2*c+b:=by lia
theorem zm{a b c:Int}:a<c->c<=b->a<=b:=by lia
theorem zn{a b c d e f g:Nat}:a<=c->b<=e->e<=f->e<g->d=min f g->a+b<=c+d:=by lia
theorem zo{a b:Nat}:a>b->a-2<a:=by lia
theorem zq{a:Nat}:a>1->a-2+1<a:=by lia
theorem zr{a b c d:Nat}:a<=c->b<=d->a+b<=c+d:=Nat.add_le_add
theorem zt{a b c:Nat}:b<=c-a->¬a >= c->a+b<=c:=by lia
theorem zu{a b c:Nat}(h0:c >= a):a+b<=c+b:=MC h0 b
theorem zv{a b:Nat}(h0:b<=a):a=b+(a-b):=P9 (TB h0)
theorem zw{a b c d:Nat}:b<min d (c-a)->a+b<c:=by lia
theorem zx{a b c d:Nat}:a+d<=c->b>1->b<=d->a+b-1<c:=by lia
theorem zy{a b:Nat}:1+1<=b->a+b-1<a+b:=by lia
variable{a b d f it D l p C dx fa S i1 i2 fP fA fC fS I fR fI fK fT Gc fL fU fB fO fH l1 l2 fG br:PySem.Addr}{c e tg bq gV:PySem.Expr}{us vs ds bg its' args sV:List As}{x name qual:PySem.Str}{u cd ck pm bE ct oc cls dc:As}{o ob oe o1 o2:PySem.Obj}{P prog:AJ}{w:AQ}{h h' g' base:PySem.Heap}{α β:Type}{aS:List (PySem.Addr×PySem.Obj)}{s s' s1 s2:AA}{t' i j M n tk m q z kl ep hd c1 c2 kr b5 ia ib ac bc na nb sa:Nat}{ch fp wr:List PySem.Addr}{A:BB}{E Q E':As->AA->Prop}{pos b7 rV c8 p2 b9 kT tp np p1 dL:PySem.Pos}{op:U4}{K:Au}{st bh cv:Bz}{es gu fc:List PySem.Expr}{body:List PySem.Stmt}{R:QE->AA->Prop}{lo hi:Int}{pl jS:Nat->uW}{mA mg:PySem.Str->Option As}{kU left:Bool}{ns ms hs:uJ}{fd mw pG tO pZ kK qA pT eK nE ny fdB rX rY fdG:BA}{ps fh own fr:List PySem.Str}{sc scope:FL}{an od:Option PySem.Addr}{io sl:Array (Option As)}{T gz:String}{items:Array As}{vals:Nat->uJ×PySem.Addr}{YP:AQ->PySem.Heap->Prop}{ix rc ly s0:uL}{tn:Nat->PySem.Heap->Prop}{as ap:uK}{κ:EJ}{ks:List (uJ×PySem.Addr)}{L:List uL}{owner:Array uW}{hashes:Array Int}{a₀ arr out k8:Array AE}{U U':Nat->Prop}{lab:Nat->Int}
namespace L2
inductive E1 {α0:Type} (p:α0->Prop):Prop
 | mk (a0:α0) (h:p a0):E1 p
inductive E2 {α0 α1:Type} (p:α0->α1->Prop):Prop
 | mk (a0:α0) (a1:α1) (h:p a0 a1):E2 p
inductive E4 {α0 α1 α2 α3:Type} (p:α0->α1->α2->α3->Prop):Prop
 | mk (a0:α0) (a1:α1) (a2:α2) (a3:α3) (h:p a0 a1 a2 a3):E4 p
inductive E5 {α0 α1 α2 α3 α4:Type} (p:α0->α1->α2->α3->α4->Prop):Prop
 | mk (a0:α0) (a1:α1) (a2:α2) (a3:α3) (a4:α4) (h:p a0 a1 a2 a3 a4):E5 p
inductive A3 (p0 p1 p2:Prop):Prop
 | mk (h0:p0) (h1:p1) (h2:p2):A3 p0 p1 p2
inductive A4 (p0 p1 p2 p3:Prop):Prop
 | mk (h0:p0) (h1:p1) (h2:p2) (h3:p3):A4 p0 p1 p2 p3
inductive A5 (p0 p1 p2 p3 p4:Prop):Prop
 | mk (h0:p0) (h1:p1) (h2:p2) (h3:p3) (h4:p4):A5 p0 p1 p2 p3 p4
inductive A6 (p0 p1 p2 p3 p4 p5:Prop):Prop
 | mk (h0:p0) (h1:p1) (h2:p2) (h3:p3) (h4:p4) (h5:p5):A6 p0 p1 p2 p3 p4 p5
end L2
namespace L2
open PySem PySem.Spec PyProof.Rows
abbrev Key:=Sum Int Str
noncomputable def keyIs:Key->As->Bool
 | .inl k,v=>NJ k v
 | .inr x,v=>WU x v
noncomputable def keyH(w:AQ):Key->Int
 | .inl k=>hashInt k
 | .inr x=>hashStr w x
theorem CN:∀{k:Key}{v:As},keyIs k v=true->(∃i t,k=FO i/\v=NM i t)\/(∃x t,k=ON x/\v=ae x t)
 | .inl i,v,h=>by
  obtain⟨t,e⟩:=G0 (k:=i) (v:=v) h;exact .inl ⟨i,t,rfl,e⟩
 | .inr x,v,h=>by
  obtain⟨t,e⟩:=Value.isStrOf_shape (x:=x) (v:=v) h;exact .inr ⟨x,t,rfl,e⟩
theorem ZF(i:Int)(t:Tok):keyIs (.inl i) (.int i t)=true:=by simp[keyIs,NJ]
theorem ZR(x:Str)(t:Tok):keyIs (.inr x) (.str x t)=true:=by simp[keyIs,WU]
theorem AGb(a b:Int):decide ((FO a:Key)=FO b)=(a==b):=by
 by_cases e:a=b
 .subst e;simp
 .have h:¬ (FO a:Key)=FO b:=λq=>e (Sum.inl.inj q)
  rw[uG h];exact(beq_eq_false_iff_ne.mpr e).symm
theorem AFj(a b:Str):decide ((ON a:Key)=ON b)=decide (a=b):=by
 by_cases e:a=b
 .subst e;simp
 .have h:¬ (ON a:Key)=ON b:=λq=>e (Sum.inr.inj q)
  rw[uG h,uG e]
theorem AFZ(a:Int)(b:Str):decide ((FO a:Key)=ON b)=false:=uG (λq=>nomatch q)
theorem AFr(a:Str)(b:Int):decide ((ON a:Key)=FO b)=false:=uG (λq=>nomatch q)
noncomputable def CG(prog:AJ)(w:AQ):PySem.KeyKind prog w Key where
 is:=keyIs
 hash:=keyH w
 inj:=λv a b ha hb=>by
  rcases CN ha with⟨i,t,rfl,rfl⟩| ⟨x,t,rfl,rfl⟩
  .rcases CN hb with⟨j,u,rfl,e⟩| ⟨y,u,rfl,e⟩
   .injection e with e1 _;rw[e1]
   .exact nomatch e
  .rcases CN hb with⟨j,u,rfl,e⟩| ⟨y,u,rfl,e⟩
   .exact nomatch e
   .injection e with e1 _;rw[e1]
 byValue:=λk v h=>by
  rcases CN h with⟨i,t,rfl,rfl⟩| ⟨x,t,rfl,rfl⟩<;>rfl
 pyHash:=λhv h=>by
  rcases CN hv with⟨i,t,rfl,rfl⟩| ⟨x,t,rfl,rfl⟩
  .exact UC h
  .exact wpAny_pyHash_str h
 eqBool:=λhu hv h=>by
  rcases CN hu with⟨i,t,rfl,rfl⟩| ⟨x,t,rfl,rfl⟩
  .rcases CN hv with⟨j,u,rfl,rfl⟩| ⟨y,u,rfl,rfl⟩
   .rw[AGb] at h;exact UD h
   .rw[AFZ] at h;exact SD i t y u _ _ _ _ h
  .rcases CN hv with⟨j,u,rfl,rfl⟩| ⟨y,u,rfl,rfl⟩
   .rw[AFr] at h;exact SE x t j u _ _ _ _ h
   .rw[AFj] at h;exact wpAny_eqBool_str h
 «strs»:=λk x t v h=>by
  rcases CN h with⟨i,u,rfl,e⟩| ⟨y,u,rfl,e⟩
  .exact nomatch e
  .injection e with e1 _
   subst e1;cases v<;>rfl
theorem Tg(prog:AJ)(w:AQ)(i:Int)(t:Tok):(CG prog w).is (.inl i) (.int i t)=true:=ZF i t
theorem Ti(prog:AJ)(w:AQ)(x:Str)(t:Tok):(CG prog w).is (.inr x) (.str x t)=true:=ZR x t
inductive V where
 | non| bl (b:Bool)| int (i:Int)| str (x:Str)| byt (b:Array UInt8)| flt (b:UInt64)| ref (a:Addr)| ty (n:String)
 deriving DecidableEq
variable{xs:List L2.V}{v y:L2.V}
def RelV:V->As->Prop
 | .non,u=>u=CY
 | .bl b,u=>u=U0 b
 | .int i,u=>∃t,u=NM i t
 | .str x,u=>∃t,u=ae x t
 | .byt b,u=>∃t,u=Value.bytes b t
 | .flt b,u=>∃t,u=Value.float b t
 | .ref a,u=>u=AV a
 | .ty n,u=>u=C4 n
abbrev Vals:List V->List As->Prop:=A1 RelV
theorem Vals.length(r:Vals xs us):xs.length=us.length:=AZ r
theorem Vals.get:∀{xs:List V}{us:List As}{i:Nat}{x:V},Vals xs us->xs[i]?=uA x->∃u,us[i]?=uA u/\RelV x u
 | _,_,_,_,.nil,e=>by simp at e
 | _,_,0,_,.cons r _,e=>by simp at e;subst e;exact⟨_,rfl,r⟩
 | _,_,i+1,x,.cons _ t,e=>by
  obtain⟨u,h1,h2⟩:=Vals.get (i:=i) (x:=x) t (by simpa using e);exact⟨u,by simpa using h1,h2⟩
theorem Vals.set{x:V}(r:RelV x u):∀{xs:List V}{us:List As} (i:Nat),Vals xs us->Vals (xs.set i x) (us.set i u)
 | _,_,_,.nil=>.nil
 | _,_,0,.cons _ t=>.cons r t
 | _,_,i+1,.cons q t=>.cons q (Vals.set r i t)
theorem Vals.append:∀{xs ys:List V}{us ws:List As},Vals xs us->Vals ys ws->Vals (xs++ys) (us++ws)
 | _,_,_,_,.nil,s=>s
 | _,_,_,_,.cons r t,s=>.cons r (Vals.append t s)
def RelO:Option V->Option As->Prop
 | some v,uA u=>RelV v u
 | none,uB=>True
 | _,_=>False
def KV{κ:Type}:List (κ×V)->List (κ×As)->Prop:=A1 λ(p:κ×V) (q:κ×As)=>p.1=q.1/\RelV p.2 q.2
noncomputable def kV:Key->V
 | .inl i=>.int i
 | .inr x=>.str x
inductive HO where
 | lst (xs:List V)
 | tup (xs:List V)
 | dK (bb:List (Key×V))| dT (bb:List (List Key×V))
 | set (S:Int->Bool) (n:Nat)
 | ins (C dx:Addr) (fs:List (Str×V))
 | own (x:Addr)
 | xd (fs:List (Str×V))
 | met (f x:Addr)
 | rng (lo hi:Int)
 | frz (o:Obj) (u:HO)
 | tbl (ps:Array As)
 | ext (φ:Heap->Prop)
abbrev Hp:=Addr->Option HO
variable{H H':L2.Hp}
noncomputable def upd(H:Hp)(a:Addr)(o:HO):Hp:=λb=>if b=a then uA o else H b
theorem Ab{o:HO}:upd H a o a=uA o:=by unfold upd;rw[uE rfl]
theorem Ah{o:HO}(h:b≠a):upd H a o b=H b:=by unfold upd;rw[uD h]
theorem XH{o u:HO}:upd (upd H a o) a u=upd H a u:=by
 funext b;unfold upd;split<;>rfl
theorem Ck{o u:HO}(h:H a=uA o)(h':H b=uA u)(d:o≠u):a≠b:=by
 intro e;subst e;rw[h] at h';exact d (BO h')
theorem Af{o:HO}(h:H a=uA o)(h':H b=uB):a≠b:=by
 intro e;subst e;rw[h] at h';cases h'
section
variable (P:AJ)(w:AQ)
def ObjOk(H:Hp)(h:Heap)(a:Addr):HO->Prop
 | .lst xs=>xs.length<=sizeLine/\∃(bg:List As) (n:Nat),Vals xs bg/\h.get? a=uA {cls:=.type "list",data:=.seq bg.toArray n}
 | .tup xs=>xs.length<=sizeLine/\∃bg:List As,Vals xs bg/\Tl h a bg.toArray
 | .dK bb=>bb.length<=sizeLine/\(a==EG)=false/\∃vs,KV bb vs/\h.DictOf (CG P w) a vs
 | .dT bb=>bb.length<=sizeLine/\(a==EG)=false/\∃xs:List (List Key×Addr×As),
   A1 (λ(p:List Key×V) (q:List Key×Addr×As)=>p.1=q.1/\H q.2.1=uA (.tup (p.1.map kV))/\RelV p.2 q.2.2) bb xs /\
   ∃o es ep,h.get? a=uA o/\o.ExactDict/\o.data=.dict es ep/\es.toList=xs.map (entryOfKey (NN (CG P w)))/\(xs.map (·.1)).Nodup
 | .set S n=>h.SetOf (Lm P w) a S n
 | .ins C dx fs=>H dx=uA (.own a)/\fs.length<=1000/\dx≠a/\h.get? a=uA (F0 C dx) /\
   ∃mA,h.Ns1 dx mA/\(∀f,RelO (fs.lookup f) (mA f))/\SF mA (fs.map (·.1))
 | .own _=>∃o,h.get? a=uA o
 | .xd fs=>∃mA,h.Ns1 a mA/\∀f,RelO (fs.lookup f) (mA f)
 | .rng lo hi=>∃t u v,h.get? a=uA {cls:=.type "range",data:=.fields #[.int lo t,.int hi u,.int 1 v]}
 | .frz o u=>h.get? a=uA o/\ObjOk H h a u
 | .tbl ps=>h.get? a=uA {cls:=.none,data:=.fields ps}
 | .met f x=>h.get? a=uA (PySem.W.methodObj (.ref f) (.ref x))
 | .ext φ=>φ h/\(∃o,h.get? a=uA o)/\∀h1 h2:Heap,φ h1->(∀o,h1.get? a=uA o->h2.get? a=uA o)->φ h2
def HOk(H:Hp)(h:Heap):Prop:=∀a o,H a=uA o->ObjOk P w H h a o
end
section
variable{o:HO}
theorem ObjOk.lt(x:ObjOk P w H h a o):a<h.objs.size:=by
 cases o with
 | lst xs=>obtain⟨_,_,_,_,e⟩:=x;exact AW e
 | tup xs=>obtain⟨_,_,_,p⟩:=x;exact p.lt
 | dK bb=>obtain⟨_,_,_,_,o,_,_,e,_⟩:=x;exact AW e
 | dT bb=>obtain⟨_,_,_,_,o,_,_,e,_⟩:=x;exact AW e
 | set S n=>obtain⟨o,_,_,_,e,_⟩:=x;exact AW e
 | ins C dx fs=>obtain⟨_,_,_,e,_⟩:=x;exact AW e
 | own y=>obtain⟨_,e⟩:=x;exact AW e
 | xd fs=>obtain⟨_,⟨_,_,_,e,_⟩,_⟩:=x;exact AW e
 | rng lo hi=>obtain⟨_,_,_,e⟩:=x;exact AW e
 | frz ob u=>obtain⟨e,_⟩:=x;exact AW e
 | tbl ps=>exact AW x
 | met f y=>exact AW x
 | ext φ=>obtain⟨_,⟨_,e⟩,_⟩:=x;exact AW e
theorem uY{F G:α->β->Prop}:∀{l₁:List α}{l₂:List β},A1 F l₁ l₂->(∀a b,F a b->G a b)->A1 G l₁ l₂
 | _,_,.nil,_=>.nil
 | _,_,.cons r t,f=>.cons (f _ _ r) (uY t f)
theorem ObjOk.stay(x:ObjOk P w H h a o)(k:∀b u,(b=a\/H b=uA (.own a))->h.get? b=uA u->h'.get? b=uA u)
  (ho:∀b,H b=uA (.own a)->H' b=uA (.own a)) (ht:∀b xs,H b=uA (.tup xs)->H' b=uA (.tup xs)):ObjOk P w H' h' a o:=by
 induction o with
 | lst xs=>obtain⟨z,bg,n,r,e⟩:=x;exact⟨z,bg,n,r,k _ _ (.inl rfl) e⟩
 | tup xs=>obtain⟨z,bg,r,ob,e,c⟩:=x;exact⟨z,bg,r,ob,k _ _ (.inl rfl) e,c⟩
 | dK bb=>obtain⟨z,y,vs,r,ob,es,ep,e,c⟩:=x;exact⟨z,y,vs,r,ob,es,ep,k _ _ (.inl rfl) e,c⟩
 | dT bb =>
  obtain⟨z,y,xs,r,ob,es,ep,e,c⟩:=x;exact⟨z,y,xs,uY r λp q z=>⟨z.1,ht _ _ z.2.1,z.2.2⟩,ob,es,ep,k _ _ (.inl rfl) e,c⟩
 | set S n=>obtain⟨ob,es,ep,t,e,c⟩:=x;exact⟨ob,es,ep,t,k _ _ (.inl rfl) e,c⟩
 | ins C dx fs =>
  obtain⟨d,z,ne,e,mA,⟨od,es,ep,e2,c⟩,r⟩:=x;exact⟨ho _ d,z,ne,k _ _ (.inl rfl) e,mA,⟨od,es,ep,k _ _ (.inr d) e2,c⟩,r⟩
 | own y=>obtain⟨ob,e⟩:=x;exact⟨ob,k _ _ (.inl rfl) e⟩
 | xd fs=>obtain⟨mA,⟨od,es,ep,e,c⟩,r⟩:=x;exact⟨mA,⟨od,es,ep,k _ _ (.inl rfl) e,c⟩,r⟩
 | rng lo hi=>obtain⟨t,u,v,e⟩:=x;exact⟨t,u,v,k _ _ (.inl rfl) e⟩
 | frz ob u ih=>obtain⟨e,q⟩:=x;exact⟨k _ _ (.inl rfl) e,ih q⟩
 | tbl ps =>
  have e:=x;exact k a _ (.inl rfl) e
 | met f y =>
  have e:=x;exact k a _ (.inl rfl) e
 | ext φ=>obtain⟨p,⟨o,e⟩,st⟩:=x;exact⟨st _ _ p λo q=>k _ _ (.inl rfl) q,⟨o,k _ _ (.inl rfl) e⟩,st⟩
theorem HOk.lt(x:HOk P w H h)(e:H a=uA o):a<h.objs.size:=(x a o e).lt
theorem HOk.fresh(x:HOk P w H h)(e:h.objs.size<=a):H a=uB:=by
 cases q:H a with
 | none=>rfl
 | some u=>exact uI (B5 (x.lt q) e) (Fh _)
theorem HOk.kept(x:HOk P w H h)(k:∀b u,h.get? b=uA u->h'.get? b=uA u):HOk P w H h':=λa o e =>
 (x a o e).stay (λb u _ q=>k b u q) (λ_ q=>q) λ_ _ q=>q
theorem HOk.laid(x:HOk P w H h)(k:∀b u,h.get? b=uA u->h'.get? b=uA u)(hp:h.objs.size<=a)(new:ObjOk P w (upd H a o) h' a o):HOk P w (upd H a o) h':=λb u e=>by
 have hn:=x.fresh hp;by_cases hb:b=a
 .subst hb;rw[Ab] at e;cases e;exact new
 .rw[Ah hb] at e
  exact(x b u e).stay (λc v _ q=>k c v q) (λc q=>by rw[Ah (Af q hn)];exact q) λc xs q=>by rw[Ah (Af q hn)];exact q
end
def Rd(H:Hp)(a:Addr)(u:HO):Prop:=H a=uA u\/∃o,H a=uA (.frz o u)
theorem Rd.ok{u:HO}(r:Rd H a u)(x:HOk P w H h):ObjOk P w H h a u:=by
 rcases r with r| ⟨o,r⟩
 .exact x a u r
 .obtain⟨_,q⟩:=x a _ r
  exact q
def Mut:Option HO->Prop
 | some (.lst _)=>True
 | some (.dK _)=>True
 | some (.dT _)=>True
 | some (.set _ _)=>True
 | some (.ins _ _ _)=>True
 | some (.ext _)=>True
 | _=>False
section
variable{x e:Addr}{o':HO}
theorem HOk.write(ok:HOk P w H h)(mu:Mut (H x))(he:e=x\/H e=uA (.own x))(k:∀b u,b≠e->h.get? b=uA u->h'.get? b=uA u)(rE:∃u,h'.get? e=uA u)
  (new:ObjOk P w (upd H x o') h' x o'):HOk P w (upd H x o') h':=λb u q=>by
 have sF:∀c y,H c=uA (.own y)->c≠x:=λc y r z=>by subst z;rw[r] at mu;exact mu
 have ntup:∀c xs,H c=uA (.tup xs)->c≠x:=λc xs r z=>by subst z;rw[r] at mu;exact mu
 by_cases hb:b=x
 .subst hb;rw[Ab] at q;cases q;exact new
 .rw[Ah hb] at q
  by_cases hbe:b=e
  .have q':H b=uA (.own x):=by
    rcases he with z| z
    .exact uI (hbe.trans z) hb
    .rw[hbe];exact z
   rw[q] at q';cases q';obtain⟨v,hv⟩:=rE;exact⟨v,by rw[hbe];exact hv⟩
  .refine(ok b u q).stay (λc v hc r=>k c v ?_ r) (λc r=>by rw[Ah (sF c b r)];exact r) λc xs r=>by rw[Ah (ntup c xs r)];exact r
   rcases hc with rfl| hc
   .exact hbe
   .rintro rfl
    rcases he with z| z
    .exact sF c b hc z
    .rw[hc] at z;cases z;exact hb rfl
end
structure Un(fs ex:uX)(H H':Hp)(h h':Heap):Prop where
 keep:∀b o,h.get? b=uA o->H b=none->b∉fs->b∉ex->h'.get? b=uA o
 slot:∀b o,h.get? b=uA o->H b=none->b∈fs->b∉ex->∃sl,h'.get? b=uA {o with slots:=sl}
 free:∀b o,h.get? b=uA o->H b=none->b∉ex->H' b=uB
 there:∀b o,h.get? b=uA o->b∉ex->∃o',h'.get? b=uA o'
 tups:∀b xs,H b=uA (.tup xs)->H' b=uA (.tup xs)
 frzs:∀b o u,H b=uA (.frz o u)->H' b=uA (.frz o u)
 tbls:∀b ps,H b=uA (.tbl ps)->∃more,H' b=uA (.tbl (ps++more))
section
variable{fs fs' ex ex':uX}{H1 H2:Hp}{h1 h2:Heap}{x e:Addr}{o:HO}
theorem Un.any(u:Un fs ex H H1 h h1)(q:h.get? b=uA ob)(n:H b=uB)(hx:b∉ex):∃sl,h1.get? b=uA {ob with slots:=sl}:=by
 by_cases hb:b∈fs
 .exact u.slot b ob q n hb hx
 .exact⟨ob.slots,u.keep b ob q n hb hx⟩
theorem Un.kept(k:∀b u,h.get? b=uA u->h'.get? b=uA u):Un fs ex H H h h' :=
 ⟨λb ob q _ _ _=>k b ob q,λb ob q _ _ _=>⟨ob.slots,k b ob q⟩,λ_ _ _ n _=>n,λb ob q _=>⟨ob,k b ob q⟩,λ_ _ q=>q,λ_ _ _ q=>q,λ_ ps q=>⟨#[],by rw[q];simp⟩⟩
theorem Un.refl:Un fs ex H H h h:=Un.kept λ_ _ q=>q
theorem Un.laid(k:∀b u,h.get? b=uA u->h'.get? b=uA u)(hp:h.objs.size<=a)(hn:H a=uB):Un fs ex H (upd H a o) h h' where
 keep:=λb u q _ _ _=>k b u q
 slot:=λb u q _ _ _=>⟨u.slots,k b u q⟩
 free:=λb u q n _=>by rw[Ah (BH (B5 (AW q) hp))];exact n
 there:=λb u q _=>⟨u,k b u q⟩
 tups:=λb xs q=>by rw[Ah (Af q hn)];exact q
 frzs:=λb u xs q=>by rw[Ah (Af q hn)];exact q
 tbls:=λb ps q=>⟨#[],by rw[Ah (Af q hn),q];simp⟩
theorem Un.write(mu:Mut (H x))(he:e=x\/H e=uA (.own x))(k:∀b u,b≠e->h.get? b=uA u->h'.get? b=uA u)(rE:∃u,h'.get? e=uA u):Un fs ex H (upd H x o) h h':=by
 have hx:∀b,H b=none->b≠x:=λb n z=>by subst z;rw[n] at mu;exact mu
 have hb:∀b,H b=none->b≠e:=λb n z=>by
  subst z;rcases he with r| r
  .exact hx b n r
  .rw[n] at r;cases r
 have hm:∀b u,H b=uA u->¬ Mut (uA u)->b≠x:=λb u q nm z=>by subst z;rw[q] at mu;exact nm mu
 refine⟨λb u q n _ _=>k b u (hb b n) q,λb u q n _ _=>⟨u.slots,k b u (hb b n) q⟩,λb u q n _=>by rw[Ah (hx b n)];exact n,λb u q _=>?_,
  λb xs q=>by rw[Ah (hm b _ q λz=>z)];exact q,λb u xs q=>by rw[Ah (hm b _ q λz=>z)];exact q,λb ps q=>⟨#[],by rw[Ah (hm b _ q λz=>z),q];simp⟩⟩
 by_cases hbe:b=e
 .subst hbe;exact rE
 .exact⟨u,k b u hbe q⟩
end
noncomputable def trk(h:Heap)(H:Hp):uX:=(AK h.objs.size).filter λa=>(H a).isSome
def hidT(h:Heap)(H:Hp):Heap:=MD h (trk h H)
theorem AAc(h:Heap)(H:Hp):(hidT h H).objs.size=h.objs.size:=PySem.W.hideAll_size _ _
theorem ABU(e:h.get? b=uA o)(n:H b=uB):(hidT h H).get? b=uA o :=
 KM _ e λhm=>by
  have q:=(B0.mp hm).2;rw[n] at q;simp at q
theorem AEp(e:(hidT h H).get? b=uA o):h.get? b=uA o/\H b=uB:=by
 have e':=SG (trk h H) e;refine⟨e',?_⟩;cases q:H b with
 | none=>rfl
 | some x =>
  have hm:b∈trk h H:=B0.mpr ⟨AN.mpr (AW e'),by simp[q]⟩;have z:(hidT h H).get? b=uB:=PySem.W.hideAll_none (trk h H) hm;rw[z] at e;cases e
noncomputable def allNews(g h:Heap)(L:Addr):uQ:=(AK h.objs.size).filterMap λa=>if a=L\/(g.get? a).isSome=true then uB else(h.get? a).map λo=>(a,o)
noncomputable def rest(g h:Heap)(L d:Addr):uQ:=(allNews g h L).filter λp=>decide (p.1≠d)
structure Mod(K:Au)(mg:Str->Option As)(base:Heap):Prop where
 kin:K.In base
 glob:base.Ns B6 mg
 blt:∃mb,base.Ns U1 mb/\∀x:Str,x≠"__name__"->mb x=FF x
 nolimit:base.NoLimit
structure Cx where
 prog:AJ
 w:AQ
 K:Au
 mg:Str->Option As
 base:Heap
 A:BB
 N:uT
 s₀:AA
 H₀:Hp
 env:Env
 outer:List Env
 stack:List Env
 ex:uX
 fn:Str->Bool
 calm:Bool
 pn:uQ
 xe:As->AA->Prop
variable{X:L2.Cx}
noncomputable def frs(l:List Env):uX:=l.filterMap (·.frame)
abbrev Cx.fs(X:Cx):uX:=frs X.outer
def Vis(sc:FL)(x:Str):Prop:=sc.names.lookup x=uA .local\/sc.names.lookup x=uA .cell\/sc.names.lookup x=uA .free
def Loc(sc:FL)(x:Str):Prop:=sc.names.lookup x=uA .local\/sc.names.lookup x=uA .cell
def Look(env:Env)(h:Heap)(m:Str->Option As)(x:Str)(u:As):Prop :=
 (env.kindOf x=uA .local/\m x=uA u)\/((env.kindOf x=uA .cell\/env.kindOf x=uA .free)/\∃c,env.cells.lookup x=uA c/\h.IsCell c (uA u))
structure Cx.Ok(X:Cx):Prop where
 mod:Mod X.K X.mg X.base
 kind:X.env.scope.kind=.function
 glob:X.env.globals=B6
 blt:X.env.builtins=U1
 above:X.s₀.heap.objs.size<=X.env.locals
 inj:∀x y c,X.env.cells.lookup x=uA c->X.env.cells.lookup y=uA c->x=y
 has:∀x,(X.env.kindOf x=uA .cell\/X.env.kindOf x=uA .free)->∃c,X.env.cells.lookup x=uA c
 cab:∀x c,X.fn x=true->X.env.cells.lookup x=uA c->X.s₀.heap.objs.size<=c
 hd:X.calm=true->X.A.handled=uB
 frames:X.A.frames=uA X.stack
 stk:X.stack=X.outer\/(X.stack=X.env::X.outer/\X.env.frame=uA X.env.locals)
 exf:∀b∈X.ex,b≠X.env.locals/\∀x c,X.env.cells.lookup x=uA c->c≠b
 bs:∀b o,X.base.get? b=uA o->X.s₀.heap.get? b=uA o/\X.H₀ b=uB
 bsz:X.base.objs.size<=X.s₀.heap.objs.size
 noex:∀b o,X.base.get? b=uA o->b∉X.ex
 exfs:∀b∈X.ex,b∉X.fs
 funs:X.s₀.heap.FunFrames X.base X.outer
 frf:∀b∈X.fs,X.H₀ b=uB
structure Inv(X:Cx)(aS:uQ)(σ:List (Option V))(H:Hp)(s:AA):Prop where
 ok:X.Ok
 os:s.os=X.s₀.os
 bare:Lu s.gens
 base:Un X.fs X.ex X.H₀ H X.s₀.heap s.heap
 loc:∃m,s.heap.Ns X.env.locals m/\∀(i:Nat) (x:Str) (v:V),X.N[i]?=uA x->σ[i]?=uA (uA v)->Vis X.env.scope x->∃u,RelV v u/\Look X.env s.heap m x u
 cell:∀x c,X.env.cells.lookup x=uA c->∃v,s.heap.IsCell c v
 free:H X.env.locals=uB
 freeC:∀x c,X.env.cells.lookup x=uA c->H c=uB
 pin:∀p∈X.pn++aS,s.heap.get? p.1=uA p.2/\H p.1=uB/\p.1≠X.env.locals/\p.1∉X.fs/\∀v,p.2.data≠.cell v
 hok:HOk X.prog X.w H s.heap
 len:σ.length=X.N.length
section
variable{σ:List (Option V)}
theorem Cx.Ok.nofr(ok:X.Ok)(e:X.base.get? b=uA o):b∉X.fs:=λhb=>by
 have:=(ok.funs.mem hb).1;rw[e] at this;cases this
theorem Inv.bs(I:Inv X aS σ H s):∀b o,X.base.get? b=uA o->s.heap.get? b=uA o/\H b=uB:=λb o e =>
 ⟨I.base.keep b o (I.ok.bs b o e).1 (I.ok.bs b o e).2 (I.ok.nofr e) (I.ok.noex b o e),I.base.free b o (I.ok.bs b o e).1 (I.ok.bs b o e).2 (I.ok.noex b o e)⟩
theorem Inv.bk(I:Inv X aS σ H s):∀b o,X.base.get? b=uA o->s.heap.get? b=uA o:=λb o e=>(I.bs b o e).1
theorem Inv.mod(I:Inv X aS σ H s):Mod X.K X.mg X.base:=I.ok.mod
theorem Inv.kIn(I:Inv X aS σ H s):X.K.In s.heap:=I.ok.mod.kin.keeps I.bk
theorem Inv.lt(I:Inv X aS σ H s):X.env.locals<s.heap.objs.size:=let ⟨_,hn,_⟩:=I.loc;hn.lt
theorem Inv.sz(I:Inv X aS σ H s):X.s₀.heap.objs.size<=s.heap.objs.size:=BY I.ok.above (C3 I.lt)
theorem Inv.nofs(I:Inv X aS σ H s)(h:s.heap.objs.size<=a):a∉X.fs:=λhb=>by
 obtain⟨_,o,ho,_⟩:=I.ok.funs.mem hb;exact uI (B5 (AW ho) (BY I.sz h)) (Fh _)
theorem Inv.cne(I:Inv X aS σ H s):∀x c,X.env.cells.lookup x=uA c->c≠X.env.locals:=λx c e z=>by
 obtain⟨v,o,ho,hd⟩:=I.cell x c e;obtain⟨m,⟨o',es,ep,dS,eW,_⟩,_⟩:=I.loc;rw[z,dS] at ho;cases ho;rw[eW] at hd;cases hd
theorem Inv.funs(I:Inv X aS σ H s):s.heap.FunFrames X.base X.outer:=by
 have all:∀(l:List Env),(∀b∈frs l,b∈X.fs)->X.s₀.heap.FunFrames X.base l->s.heap.FunFrames X.base l:=by
  intro l
  induction l with
  | nil=>intro _ _;trivial
  | cons env r ih =>
   intro hs hl;obtain⟨hk,⟨L,o,hf,hn,ho,hd⟩,hr⟩:=hl;have hL:=hs L (by unfold frs;rw[G5,hf];exact AI);obtain⟨sl,e⟩:=I.base.slot L o ho (I.ok.frf L hL) hL λz=>I.ok.exfs L z hL;exact⟨hk,⟨L,_,hf,hn,e,hd⟩,ih (λb hb=>hs b (by unfold frs;rw[G5,hf];exact AL _ hb)) hr⟩
 exact all X.outer (λ_ hb=>hb) I.ok.funs
theorem Inv.stack(I:Inv X aS σ H s):s.heap.FunFrames X.base X.stack:=by
 rcases I.ok.stk with e| ⟨e,hf⟩
 .rw[e];exact I.funs
 .rw[e]
  obtain⟨m,hn,_⟩:=I.loc;refine .cons (by rw[I.ok.kind];decide) hf hn ?_ I.funs;exact Heap.get?_none_of_le (BY I.ok.bsz I.ok.above)
theorem Inv.stkSub(I:Inv X aS σ H s):∀b∈frs X.stack,b∈X.env.locals::X.fs:=λb hb=>by
 rcases I.ok.stk with e| ⟨e,hf⟩
 .rw[e] at hb;exact AL _ hb
 .rw[e] at hb
  unfold frs at hb;rw[G5,hf] at hb;exact hb
theorem Inv.stkFree(I:Inv X aS σ H s):∀b∈frs X.stack,H b=uB:=λb hb=>by
 rcases AS.mp (I.stkSub b hb) with e| hb
 .rw[e];exact I.free
 .obtain⟨_,o,ho,_⟩:=I.ok.funs.mem hb
  exact I.base.free b o ho (I.ok.frf b hb) λz=>I.ok.exfs b z hb
theorem Inv.step{g':Array Rs}{d':Drawn}(I:Inv X aS σ H s)
  (kC:∀b∈ch,(b∈X.ex\/X.s₀.heap.objs.size<=b)/\b≠X.env.locals/\(∀x c,X.env.cells.lookup x=uA c->c≠b)/\∀p∈X.pn++aS,p.1≠b)
  (keep:∀b o,b≠X.env.locals->b∉X.fs->b∉ch->s.heap.get? b=uA o->H b=none->h'.get? b=uA o)
  (slot:∀b o,b≠X.env.locals->b∈X.fs->b∉ch->s.heap.get? b=uA o->H b=none->∃sl,h'.get? b=uA {o with slots:=sl}) (free:∀b o,b∉ch->s.heap.get? b=uA o->H b=none->H' b=uB)
  (there:∀b o,b∉ch->s.heap.get? b=uA o->∃o',h'.get? b=uA o')
  (tups:∀b xs,H b=uA (.tup xs)->H' b=uA (.tup xs)) (frzs:∀b o u,H b=uA (.frz o u)->H' b=uA (.frz o u)) (tbls:∀b ps,H b=uA (.tbl ps)->∃more,H' b=uA (.tbl (ps++more)))
  (ns:∀m,s.heap.Ns X.env.locals m->h'.Ns X.env.locals m) (hok:HOk X.prog X.w H' h') (hg:Lu g') :
  Inv X aS σ H' {s with heap:=h',gens:=g',drawn:=d',toks:=t'}:=by
 have tT:∀b o,X.s₀.heap.get? b=uA o->b≠X.env.locals:=λb o e=>BH (B5 (AW e) I.ok.above);have neC:∀b o,X.s₀.heap.get? b=uA o->b∉X.ex->b∉ch:=λb o e hx hb=>by
  rcases (kC b hb).1 with z| z
  .exact hx z
  .exact uI (B5 (AW e) z) (Fh _)
 have pA:∀x c,X.env.cells.lookup x=uA c->∀v,s.heap.IsCell c v->h'.IsCell c v:=λx c e v ⟨o,ho,hd⟩=>by
  have sM:c∉ch:=λz=>(kC c z).2.2.1 x c e rfl;by_cases hc:c∈X.fs
  .obtain⟨sl,q⟩:=slot c o (I.cne x c e) hc sM ho (I.freeC x c e)
   exact⟨_,q,hd⟩
  .exact⟨o,keep c o (I.cne x c e) hc sM ho (I.freeC x c e),hd⟩
 refine⟨I.ok,I.os,hg,⟨λb o e n hb hx=>?_,λb o e n hb hx=>?_,λb o e n hx=>?_,λb o e hx=>?_,λb xs e=>tups b xs (I.base.tups b xs e),λb o xs e=>frzs b o xs (I.base.frzs b o xs e),λb ps e=>?_⟩,?_,λx c e=>?_,?_,λx c e=>?_,λp hp=>?_,hok,I.len⟩
 .exact keep b o (tT b o e) hb (neC b o e hx) (I.base.keep b o e n hb hx) (I.base.free b o e n hx)
 .obtain⟨sl,e1⟩:=I.base.slot b o e n hb hx
  obtain⟨pF,e2⟩:=slot b _ (tT b o e) hb (neC b o e hx) e1 (I.base.free b o e n hx);exact⟨pF,e2⟩
 .obtain⟨o',e1⟩:=I.base.there b o e hx
  exact free b o' (neC b o e hx) e1 (I.base.free b o e n hx)
 .obtain⟨o',e1⟩:=I.base.there b o e hx
  exact there b o' (neC b o e hx) e1
 .obtain⟨m1,e1⟩:=I.base.tbls b ps e
  obtain⟨m2,e2⟩:=tbls b _ e1;exact⟨m1++m2,by rw[e2,Array.append_assoc]⟩
 .obtain⟨m,hn,hl⟩:=I.loc
  refine⟨m,ns m hn,λi x v e1 e2 e3=>?_⟩;obtain⟨u,r,l⟩:=hl i x v e1 e2 e3;refine⟨u,r,?_⟩;rcases l with l| ⟨k,c,e,z⟩
  .exact .inl l
  .exact .inr ⟨k,c,e,pA x c e _ z⟩
 .obtain⟨v,z⟩:=I.cell x c e
  exact⟨v,pA x c e v z⟩
 .obtain⟨m,⟨o,_,_,ho,_⟩,_⟩:=I.loc
  exact free _ o (λz=>(kC _ z).2.1 rfl) ho I.free
 .obtain⟨v,o,ho,hd⟩:=I.cell x c e
  exact free c o (λz=>(kC c z).2.2.1 x c e rfl) ho (I.freeC x c e)
 .obtain⟨e,n,ne,nf,d⟩:=I.pin p hp
  have sM:p.1∉ch:=λz=>(kC p.1 z).2.2.2 p hp rfl;exact⟨keep p.1 p.2 ne nf sM e n,free p.1 p.2 sM e n,ne,nf,d⟩
theorem Inv.un(I:Inv X aS σ H s)(u:Un X.fs [] H H' s.heap h')(hok:HOk X.prog X.w H' h'):Inv X aS σ H' {s with heap:=h',toks:=t'}:=by
 obtain⟨m,⟨o,es,ep,ho,r⟩,_⟩:=id I.loc;obtain⟨sl,hL⟩:=u.any ho I.free (by simp);exact I.step (g':=s.gens) (d':=s.drawn) (ch:=[]) (λ_ z=>nomatch z) (λb o _ hb _ e n=>u.keep b o e n hb (by simp)) (λb o _ hb _ e n=>u.slot b o e n hb (by simp)) (λb o _ e n=>u.free b o e n (by simp)) (λb o _ e=>u.there b o e (by simp)) u.tups u.frzs u.tbls (λm' hm=>by
  obtain⟨o',cE,l8,dS,r'⟩:=hm;rw[ho] at dS;cases dS;exact⟨_,cE,l8,hL,r'⟩) hok I.bare
theorem Inv.call{g':Array Rs}{d':Drawn}(I:Inv X aS σ H s)(u:Un (frs X.stack) ch H H' s.heap h')(hok:HOk X.prog X.w H' h')(hg:Lu g')
  (kC:∀b∈ch,(b∈X.ex\/X.s₀.heap.objs.size<=b)/\b≠X.env.locals/\(∀x c,X.env.cells.lookup x=uA c->c≠b)/\∀p∈X.pn++aS,p.1≠b) :
  Inv X aS σ H' {s with heap:=h',gens:=g',drawn:=d',toks:=t'}:=by
 obtain⟨m,⟨o,es,ep,ho,r⟩,_⟩:=id I.loc;obtain⟨sl,hL⟩:=u.any ho I.free λz=>(kC _ z).2.1 rfl;exact I.step (ch:=ch) kC (λb o hL hb hc e n=>u.keep b o e n (λz=>(AS.mp (I.stkSub b z)).elim hL hb) hc) (λb o _ _ hc e n=>u.any e n hc) (λb o hc e n=>u.free b o e n hc) (λb o hc e=>u.there b o e hc) u.tups u.frzs u.tbls (λm' hm=>by
  obtain⟨o',cE,l8,dS,r'⟩:=hm;rw[ho] at dS;cases dS;exact⟨_,cE,l8,hL,r'⟩) hok hg
theorem Inv.turned(I:Inv X aS σ H s)(k:∀b o,b≠it->s.heap.get? b=uA o->h'.get? b=uA o)(hn:H it=uB)(hL:it≠X.env.locals)
  (h1:it∈X.ex\/X.s₀.heap.objs.size<=it) (h2:∀x c,X.env.cells.lookup x=uA c->c≠it) (h3:∀p∈X.pn++aS,p.1≠it):Inv X aS σ H {s with heap:=h',toks:=t'}:=by
 have rL:∀b u,H b=uA u->b≠it:=λb u e z=>by rw[z,hn] at e;cases e
 refine I.step (g':=s.gens) (d':=s.drawn) (ch:=[it]) (λb hb=>?_) (λb o _ _ hc e _=>k b o (λz=>hc (by simp[z])) e) (λb o _ _ hc e _=>⟨o.slots,k b o (λz=>hc (by simp[z])) e⟩) (λ_ _ _ _ n=>n)
  (λb o hc e=>⟨o,k b o (λz=>hc (by simp[z])) e⟩) (λ_ _ e=>e) (λ_ _ _ e=>e) (λb ps e=>⟨#[],by rw[e];simp⟩) (λm hm=>?_) (λb u e=>?_) I.bare
 .have e:b=it:=by simpa using hb
  subst e;exact⟨h1,hL,h2,h3⟩
 .obtain⟨o,es,ep,ho,r⟩:=hm
  exact⟨o,es,ep,k _ o (CF hL) ho,r⟩
 .refine(I.hok b u e).stay (λc v hc q=>k c v ?_ q) (λ_ q=>q) λ_ _ q=>q
  rcases hc with z| z
  .rw[z];exact rL b u e
  .exact rL c _ z
theorem Inv.tok(I:Inv X aS σ H s)(t:Nat):Inv X aS σ H {s with toks:=t}:=I.un (h':=s.heap) (t':=t) Un.refl I.hok
theorem Inv.kept(I:Inv X aS σ H s)(k:∀b u,s.heap.get? b=uA u->h'.get? b=uA u):Inv X aS σ H {s with heap:=h',toks:=t'}:=I.un (Un.kept k) (I.hok.kept k)
theorem Inv.laid{o:HO}(I:Inv X aS σ H s)(k:∀b u,s.heap.get? b=uA u->h'.get? b=uA u)(hp:s.heap.objs.size<=a)(new:ObjOk X.prog X.w (upd H a o) h' a o) :
  Inv X aS σ (upd H a o) {s with heap:=h',toks:=t'}:=I.un (Un.laid k hp (I.hok.fresh hp)) (I.hok.laid k hp new)
theorem Inv.write{x e:Addr}{o:HO}(I:Inv X aS σ H s)(mu:Mut (H x))(he:e=x\/H e=uA (.own x))(k:∀b u,b≠e->s.heap.get? b=uA u->h'.get? b=uA u)(rE:∃u,h'.get? e=uA u)
  (new:ObjOk X.prog X.w (upd H x o) h' x o):Inv X aS σ (upd H x o) {s with heap:=h',toks:=t'}:=I.un (Un.write mu he k rE) (I.hok.write mu he k rE new)
theorem Inv.pins_of{pJ:uQ}(I:Inv X aS σ H s)(h:∀p∈pJ,s.heap.get? p.1=uA p.2/\H p.1=uB/\p.1≠X.env.locals/\p.1∉X.fs/\∀v,p.2.data≠.cell v):Inv X pJ σ H s :=
 ⟨I.ok,I.os,I.bare,I.base,I.loc,I.cell,I.free,I.freeC,λp hp=>(B8.mp hp).elim (λz=>I.pin p (DO _ z)) (h p),I.hok,I.len⟩
theorem Ks{N:uT}(hN:N.Nodup)(a:N[i]?=uA x)(b:N[j]?=uA x):i=j:=by
 obtain⟨h1,e1⟩:=AO.mp a;obtain⟨h2,e2⟩:=AO.mp b;exact(UE hN).mp (e1.trans e2.symm)
theorem zB1(h:True:=by first| exact .inl rfl| exact .inr rfl| assumption):True:=h
theorem Pj{M:ME}{Q:uO}(I:Inv X aS σ H s)(hN:X.N.Nodup)(hi:X.N[i]?=uA x)(hx:Loc X.env.scope x)(r:RelV v u)
  (h:∀s',Inv X aS (σ.set i (uA v)) H s'->(∃a,EH a s.heap s'.heap/\(a=X.env.locals\/X.env.cells.lookup x=uA a))->Q () s') (hf:autoParam (X.fn x=true\/X.env.scope.names.lookup x=uA .local) zB1._auto_1):wpAny M A (storeName X.env x u) Q E s:=by
 obtain⟨m,hn,hl⟩:=id I.loc;have qr:(X.env.scope.kind == .class||(X.env.scope.kind == .module&&X.env.locals != X.env.globals))=false:=by rw[I.ok.kind];rfl
 have hiσ:i<σ.length:=by rw[I.len];exact(AO.mp hi).1
 have cne:=I.cne;have eC:∀{a:Addr}{h':Heap},(∃o,s.heap.get? a=uA o/\H a=uB)->EH a s.heap h'->HOk X.prog X.w H h':=λ{a h'} ha hs b ob e=>by
  obtain⟨_,_,p6⟩:=ha;refine(I.hok b ob e).stay (λc w' hc q=>(hs.2 c ?_).trans q) (λ_ q=>q) λ_ _ q=>q;rintro rfl;rcases hc with rfl| hc
  .rw[p6] at e;cases e
  .rw[p6] at hc;cases hc
 rcases hx with hk| hk
 .refine wpAny_storeName_local hk hn (λh' qd hs=>?_) qr
  obtain⟨oL,_,_,oI,_⟩:=id hn;refine h _ ⟨I.ok,I.os,I.bare,⟨λb o e n hb hx=>?_,λb o e n hb hx=>?_,I.base.free,λb o e hx=>?_,I.base.tups,I.base.frzs,I.base.tbls⟩,⟨_,qd,λj y v' e1 e2 e3=>?_⟩,λy c e=>?_,I.free,I.freeC,λp hp=>?_,eC ⟨oL,oI,I.free⟩ hs,by simpa using I.len⟩ ⟨_,hs,.inl rfl⟩
  .exact(hs.2 b (BH (B5 (AW e) I.ok.above))).trans (I.base.keep b o e n hb hx)
  .obtain⟨sl,e1⟩:=I.base.slot b o e n hb hx
   exact⟨sl,(hs.2 b (BH (B5 (AW e) I.ok.above))).trans e1⟩
  .obtain⟨o',e1⟩:=I.base.there b o e hx
   exact⟨o',(hs.2 b (BH (B5 (AW e) I.ok.above))).trans e1⟩
  .by_cases hj:j=i
   .subst hj
    rw[hi] at e1;cases e1;rw[He hiσ] at e2;cases e2;exact⟨u,r,.inl ⟨hk,by simp⟩⟩
   .rw[F3 (CF hj)] at e2
    obtain⟨u',r',q⟩:=hl j y v' e1 e2 e3;refine⟨u',r',?_⟩;rcases q with⟨k,e⟩| ⟨k,c,e,z⟩
    .refine .inl ⟨k,?_⟩
     have:y≠x:=λe=>hj (Ks hN e1 (e ▸ hi));simp[this,e]
    .exact .inr ⟨k,c,e,z.sameBut hs (cne y c e)⟩
  .obtain⟨w',z⟩:=I.cell y c e
   exact⟨w',z.sameBut hs (cne y c e)⟩
  .obtain⟨e,n,ne,nf,d⟩:=I.pin p hp
   exact⟨(hs.2 p.1 ne).trans e,n,ne,nf,d⟩
 .have hfn:X.fn x=true:=by
   rcases hf with z| z
   .exact z
   .rw[z] at hk;cases hk
  obtain⟨c,hc⟩:=I.ok.has x (.inl hk);obtain⟨w',z⟩:=I.cell x c hc;refine wpAny_storeName_cell I.ok.kind hk hc z (λh' sf hs=>?_);obtain⟨oc,hoc,hocd⟩:=id z;refine h {s with heap:=h'} ⟨I.ok,I.os,I.bare,⟨λb o e n hb hx=>?_,λb o e n hb hx=>?_,I.base.free,λb o e hx=>?_,I.base.tups,I.base.frzs,I.base.tbls⟩,⟨m,hn.sameBut hs (CF (cne x c hc)),λj y v' e1 e2 e3=>?_⟩,λy c' e=>?_,I.free,I.freeC,λp hp=>?_,eC ⟨oc,hoc,I.freeC x c hc⟩ hs,by simpa using I.len⟩ ⟨c,hs,.inr hc⟩
  .exact(hs.2 b (BH (B5 (AW e) (I.ok.cab x c hfn hc)))).trans (I.base.keep b o e n hb hx)
  .obtain⟨sl,e1⟩:=I.base.slot b o e n hb hx
   exact⟨sl,(hs.2 b (BH (B5 (AW e) (I.ok.cab x c hfn hc)))).trans e1⟩
  .obtain⟨o',e1⟩:=I.base.there b o e hx
   exact⟨o',(hs.2 b (BH (B5 (AW e) (I.ok.cab x c hfn hc)))).trans e1⟩
  .by_cases hj:j=i
   .subst hj
    rw[hi] at e1;cases e1;rw[He hiσ] at e2;cases e2;exact⟨u,r,.inr ⟨.inl hk,c,hc,sf⟩⟩
   .rw[F3 (CF hj)] at e2
    obtain⟨u',r',q⟩:=hl j y v' e1 e2 e3;refine⟨u',r',?_⟩;rcases q with q| ⟨k,c',e,z'⟩
    .exact .inl q
    .refine .inr ⟨k,c',e,z'.sameBut hs ?_⟩
     rintro rfl;exact hj (Ks hN e1 (I.ok.inj _ _ _ e hc ▸ hi))
  .by_cases hcc:c'=c
   .subst hcc;exact⟨_,sf⟩
   .obtain⟨w2,z2⟩:=I.cell y c' e
    exact⟨w2,z2.sameBut hs hcc⟩
  .obtain⟨e,n,ne,nf,d⟩:=I.pin p hp
   refine⟨(hs.2 p.1 ?_).trans e,n,ne,nf,d⟩;intro q;rw[q,hoc] at e;have q':=BO e;exact d w' (by rw[<- q'];exact hocd)
theorem Ko{M:ME}{Q:uO}(I:Inv X aS σ H s)(hN:X.N.Nodup)(hi:X.N[i]?=uA x)(hx:Loc X.env.scope x)(r:RelV v u)
  (h:∀s',Inv X aS (σ.set i (uA v)) H s'->Q () s') (hf:autoParam (X.fn x=true\/X.env.scope.names.lookup x=uA .local) zB1._auto_1):wpAny M A (storeName X.env x u) Q E s :=
 Pj I hN hi hx r (λs' I' _=>h s' I') hf
theorem Inv.call'(I:Inv X aS σ H s)(ho:s'.os=s.os)(u:Un (frs X.stack) ch H H' s.heap s'.heap)(hok:HOk X.prog X.w H' s'.heap)(hg:Lu s'.gens)
  (kC:∀b∈ch,(b∈X.ex\/X.s₀.heap.objs.size<=b)/\b≠X.env.locals/\(∀x c,X.env.cells.lookup x=uA c->c≠b)/\∀p∈X.pn++aS,p.1≠b):Inv X aS σ H' s':=by
 obtain⟨h',g',d',t',o'⟩:=s';have e:=ho;subst e;exact I.call (g':=g') (t':=t') (d':=d') u hok hg kC
end
abbrev XK:=As->Option Addr->Hp->Prop
abbrev St:=List (Option V)
variable{σ:L2.St}
abbrev VK:=V->Hp->Prop
abbrev TE:=St->Hp->VK->Prop
variable{ta te tl:L2.TE}
abbrev TT:=St->Hp->(Bool->Hp->Prop)->Prop
variable{tc:L2.TT}
abbrev TA:=St->Hp->(List V->Hp->Prop)->Prop
structure Ends where
 nx:St->Hp->Prop
 rt:VK
 bk:St->Hp->Prop:=λ_ _=>False
 ct:St->Hp->Prop:=λ_ _=>False
abbrev TS:=Ends->St->Hp->Prop
variable{tb:L2.TS}
def EP(X:Cx)(aS:uQ)(σ:St)(Q:VK)(u:As)(s':AA):Prop:=∃v H',Inv X aS σ H' s'/\RelV v u/\Q v H'
def TP(X:Cx)(aS:uQ)(σ:St)(Q:Bool->Hp->Prop)(b:Bool)(s':AA):Prop:=∃H',Inv X aS σ H' s'/\Q b H'
def AP(X:Cx)(aS:uQ)(σ:St)(Q:List V->Hp->Prop)(us:List As)(s':AA):Prop:=∃vs H',Inv X aS σ H' s'/\Vals vs us/\Q vs H'
def SP(X:Cx)(aS:uQ)(D:Ends)(f:Flow)(s':AA):Prop :=
 match f with
 | .next=>∃σ' H',Inv X aS σ' H' s'/\D.nx σ' H'
 | .brk=>∃σ' H',Inv X aS σ' H' s'/\D.bk σ' H'
 | .cont=>∃σ' H',Inv X aS σ' H' s'/\D.ct σ' H'
 | .ret u=>∃v σ' H',Inv X aS σ' H' s'/\RelV v u/\D.rt v H'
def PE(X:Cx)(e:Expr)(t:TE):Prop :=
 ∀(aS:uQ) (s:AA) (σ:St) (H:Hp) (Q:VK),Inv X aS σ H s->t σ H Q->wpAny (AM X.prog X.w) X.A (eval e X.env) (EP X aS σ Q) X.xe s
def PT(X:Cx)(e:Expr)(t:TT):Prop :=
 ∀(aS:uQ) (s:AA) (σ:St) (H:Hp) (Q:Bool->Hp->Prop),Inv X aS σ H s->t σ H Q->wpAny (AM X.prog X.w) X.A (U2 e X.env (eval e X.env)) (TP X aS σ Q) X.xe s
def PW(X:Cx)(e:Expr)(t:TT):Prop :=
 ∀(ii:Sem As) (aS:uQ) (s:AA) (σ:St) (H:Hp) (Q:Bool->Hp->Prop),Inv X aS σ H s->t σ H Q->wpAny (AM X.prog X.w) X.A (U2 e X.env ii) (TP X aS σ Q) X.xe s
theorem uZ{t:TT}(h:PW X e t):PT X e t:=h _
def PA(X:Cx)(es:uU)(t:TA):Prop :=
 ∀(pos:Pos) (aS:uQ) (s:AA) (σ:St) (H:Hp) (Q:List V->Hp->Prop),Inv X aS σ H s->t σ H Q->wpAny (AM X.prog X.w) X.A (To (FG pos (BQ es X.env))) (AP X aS σ Q) X.xe s
def PS(X:Cx)(st:Stmt)(t:TS):Prop :=
 ∀(aS:uQ) (s:AA) (σ:St) (H:Hp) (D:Ends),Inv X aS σ H s->t D σ H->wpAny (AM X.prog X.w) X.A (exec st X.env) (SP X aS D) X.xe s
def PSs(X:Cx)(st:List Stmt)(t:TS):Prop :=
 ∀(aS:uQ) (s:AA) (σ:St) (H:Hp) (D:Ends),Inv X aS σ H s->t D σ H->wpAny (AM X.prog X.w) X.A (execs st X.env) (SP X aS D) X.xe s
theorem thn{t:Sem α}{Q Q':α->AA->Prop}{M:ME}(h:wpAny M A t Q E s)(hQ:∀a s,Q a s->Q' a s):wpAny M A t Q' E s:=C5 h hQ λ_ _ x=>x
section
def AFq(i:Nat):TE:=λσ H Q=>∃v,σ[i]?=uA (uA v)/\Q v H
def tC(v:V):TE:=λ_ H Q=>Q v H
theorem AGe(hN:X.N[i]?=uA x)(hv:Vis X.env.scope x)(hd:autoParam ((x==("__debug__" : Str))=false) zA1._auto_1)(js:autoParam ((x==("__classdict__" : Str))=false) zA1._auto_1):PE X (.Name x pos) (AFq i):=by
 intro aS s σ H Q I h;obtain⟨v,e,h⟩:=h;obtain⟨m,hn,hl⟩:=I.loc;obtain⟨u,r,l⟩:=hl i x v hN e hv;have fin:EP X aS σ Q u s:=⟨v,H,I,r,h⟩;rcases l with⟨hk,hm⟩| ⟨hk,c,hc,iA⟩
 .exact U3 (wpAny_loadName_local I.ok.kind hk hn hm fin) hd
 .rcases hk with hk| hk
  .exact U3 (wpAny_loadName_cell I.ok.kind hk hc iA fin) hd
  .exact U3 (wpAny_loadName_free I.ok.kind hk hc iA fin js) hd
theorem Ag{i j pos}:PE X (.Constant (.int i) j pos) (tC (.int i)):=λ_ _ _ H _ I h=>wpAny_Constant_int ⟨.int i,H,I.tok _,⟨_,rfl⟩,h⟩
theorem Em{b j pos}:PE X (.Constant (.bool b) j pos) (tC (.bl b)):=λ_ _ _ H _ I h=>Constant_bool ⟨.bl b,H,I,rfl,h⟩
theorem Ht{j pos}:PE X (.Constant .none j pos) (tC .non):=λ_ _ _ H _ I h=>R0 ⟨.non,H,I,rfl,h⟩
def Gl(X:Cx)(x:Str):Prop:=X.env.kindOf x=uA .globalImplicit
theorem HX(I:Inv X aS σ H s)(hg:Gl X x)(hm:X.mg x=uA u)(h:Q u s)
  (hd:autoParam ((x==("__debug__" : Str))=false) zA1._auto_1):wpAny (AM X.prog X.w) X.A (eval (.Name x pos) X.env) Q E s :=
 N1 I.ok.kind hg (Calls.loadGlobal_global (by rw[I.ok.glob];exact I.mod.glob.keeps I.bk) hm h) hd
theorem Dt(I:Inv X aS σ H s)(hg:Gl X x)(hm:X.mg x=uB)(hv:FF x=uA u)(h:Q u s)
  (hn:autoParam (x≠"__name__") zA1._auto_1) (hd:autoParam ((x==("__debug__" : Str))=false) zA1._auto_1):wpAny (AM X.prog X.w) X.A (eval (.Name x pos) X.env) Q E s:=by
 obtain⟨mb,h1,h2⟩:=I.mod.blt;exact N1 I.ok.kind hg (Calls.loadGlobal_builtin (by rw[I.ok.glob];exact I.mod.glob.keeps I.bk) hm (by rw[I.ok.blt];exact h1.keeps I.bk) ((h2 x hn).trans hv) h) hd
theorem CJ(hg:Gl X x)(hm:X.mg x=uA u)(r:RelV v u)(hd:autoParam ((x==("__debug__" : Str))=false) zA1._auto_1):PE X (.Name x pos) (tC v) :=
 λ_ _ _ H _ I h=>HX I hg hm ⟨v,H,I,r,h⟩ hd
theorem AEo(hg:Gl X x)(hm:X.mg x=uB)(hv:FF x=uA u)(r:RelV v u)(hn:autoParam (x≠"__name__") zA1._auto_1)(hd:autoParam ((x==("__debug__" : Str))=false) zA1._auto_1):PE X (.Name x pos) (tC v) :=
 λ_ _ _ H _ I h=>Dt I hg hm hv ⟨v,H,I,r,h⟩ hn hd
variable{a b:Expr}{tb:TE}
def PC(X:Cx)(op:U4)(a b:Expr)(t:TE):Prop :=
 ∀(aS:uQ) (s:AA) (σ:St) (H:Hp) (Q:VK),Inv X aS σ H s->t σ H Q ->
  wpAny (AM X.prog X.w) X.A (eval a X.env) (λv s₁=>wpAny (AM X.prog X.w) X.A (eval b X.env) (λu s₂=>wpAny (AM X.prog X.w) X.A (D9 op v u) (EP X aS σ Q) X.xe s₂) X.xe s₁) X.xe s
theorem ACq(b:Expr)(h:op≠.In)(h2:op≠.NotIn):IQ op b=false:=by
 have e1:(op==aw)=false:=by cases op<;>first| rfl| exact uI rfl h
 have e2:(op==ZN)=false:=by cases op<;>first| rfl| exact uI rfl h2
 cases b<;>simp[IQ,e1,e2]
def AHX(ta:TE):TE:=λσ H Q=>ta σ H λx H1=>Q (.bl (decide (x=.non))) H1
def AGm(ta:TE):TE:=λσ H Q=>ta σ H λx H1=>Q (.bl (!decide (x=.non))) H1
theorem RelV.none_iff{x:V}{v:As}(r:RelV x v):(v==CY)=decide (x=.non):=by
 cases x with
 | non=>cases r;rfl
 | bl _=>cases r;rfl
 | int _=>obtain⟨t,rfl⟩:=r;rfl
 | str _=>obtain⟨t,rfl⟩:=r;rfl
 | byt _=>obtain⟨t,rfl⟩:=r;rfl
 | flt _=>obtain⟨t,rfl⟩:=r;rfl
 | ref _=>cases r;rfl
 | ty _=>cases r;rfl
theorem AGA{j b7}(ha:PE X a ta):PC X .Is a (.Constant .none j b7) (AHX ta):=by
 intro aS s σ H Q I h;refine thn (ha aS s σ H _ I h) λv s1 ⟨x,H1,I1,r1,q1⟩=>?_;exact R0 (is_none_gen ⟨.bl _,H1,I1,by rw[r1.none_iff];rfl,q1⟩)
theorem ADh{j b7}(ha:PE X a ta):PC X .IsNot a (.Constant .none j b7) (AGm ta):=by
 intro aS s σ H Q I h;refine thn (ha aS s σ H _ I h) λv s1 ⟨x,H1,I1,r1,q1⟩=>?_;exact R0 (isnot_none_gen ⟨.bl _,H1,I1,by rw[r1.none_iff];rfl,q1⟩)
def tB(t:TE):TT:=λσ H Q=>t σ H λx H1=>∃c,x=.bl c/\Q c H1
theorem Mj{t:TE}(h:PC X op a b t)(h1:IQ op b=false:=by first| exact ACq _ (by decide) (by decide)| rfl):PT X (.Compare a [op] [b] pos) (tB t):=by
 intro aS s σ H Q I hw;refine Qb (thn (h aS s σ H _ I hw) λv s1 h1=>thn h1 λu s2 h2=>thn h2 λc s3 ⟨x,H1,I1,r1,q1⟩=>?_) h1;obtain⟨d,rfl,q⟩:=q1;cases r1;exact G1 ⟨H1,I1,q⟩
theorem Ei{t:TE}(h:PE X e t)(he:autoParam (∀ii,U2 e X.env ii=(do let v <- ii;V6 e.pos;Nd [v] (truthy v))) zA2._auto_1):PT X e (tB t):=by
 intro aS s σ H Q I hw;refine isTrue_plain (thn (h aS s σ H _ I hw) λv s1 ⟨x,H1,I1,r1,q1⟩=>?_) (he _);obtain⟨d,rfl,q⟩:=q1;cases r1;exact G1 ⟨H1,I1,q⟩
variable{tA tB':TT}{rest:uU}
def AHh(t u:TT):TT:=λσ H Q=>t σ H λc H1=>if c=true then u σ H1 Q else Q false H1
def tOr(t u:TT):TT:=λσ H Q=>t σ H λc H1=>if c=true then Q true H1 else u σ H1 Q
def AHZ(t:TT):TT:=λσ H Q=>t σ H λc H1=>Q (!c) H1
theorem Xy(ha:PT X a tA):PW X (.BoolOp .And [a] pos) tA:=by
 intro wh aS s σ H Q I h;refine isTrue_and (thn (ha aS s σ H Q I h) λc s1 e=>?_);cases c with
 | true=>exact isTrue_and_nil e
 | false=>exact e
theorem Gn(ha:PT X a tA):PW X (.BoolOp .Or [a] pos) tA:=by
 intro wh aS s σ H Q I h;refine isTrue_or (thn (ha aS s σ H Q I h) λc s1 e=>?_);cases c with
 | false=>exact isTrue_or_nil e
 | true=>exact e
theorem ACt(ha:PT X a tA)(hb:PW X (.BoolOp .And (b::rest) pos) tB'):PW X (.BoolOp .And (a::b::rest) pos) (AHh tA tB'):=by
 intro wh aS s σ H Q I h;refine isTrue_and (thn (ha aS s σ H _ I h) λc s1 ⟨H1,I1,q1⟩=>?_);cases c with
 | true=>exact hb wh aS s1 σ H1 Q I1 q1
 | false=>exact⟨H1,I1,q1⟩
theorem Ho(ha:PT X a tA)(hb:PW X (.BoolOp .Or (b::rest) pos) tB'):PW X (.BoolOp .Or (a::b::rest) pos) (tOr tA tB'):=by
 intro wh aS s σ H Q I h;refine isTrue_or (thn (ha aS s σ H _ I h) λc s1 ⟨H1,I1,q1⟩=>?_);cases c with
 | true=>exact⟨H1,I1,q1⟩
 | false=>exact hb wh aS s1 σ H1 Q I1 q1
theorem Fg(ha:PT X a tA):PT X (.UnaryOp .Not a pos) (AHZ tA):=by
 intro aS s σ H Q I h;exact isTrue_not (ha aS s σ H (λc H1=>Q (!c) H1) I h)
def AGk(ta tb:TE):TE:=λσ H Q=>ta σ H λx H1=>∃c,x=.bl c/\if c=true then tb σ H1 Q else Q (.bl false) H1
def AHL(ta:TE):TE:=λσ H Q=>ta σ H λx H1=>∃c,x=.bl c/\Q (.bl (!c)) H1
theorem WY{op}{t:TE}(h:PE X a t):PE X (.BoolOp op [a] pos) t:=λaS s σ H Q I hw=>BoolOp_one (h aS s σ H Q I hw)
theorem Qi(ha:PE X a ta)(hb:PE X (.BoolOp .And (b::rest) pos) tb):PE X (.BoolOp .And (a::b::rest) pos) (AGk ta tb):=by
 intro aS s σ H Q I h;refine BoolOp_and (thn (ha aS s σ H _ I h) λv s1 ⟨x,H1,I1,r1,q1⟩=>?_);obtain⟨c,rfl,q1⟩:=q1;cases r1;refine G1 ?_;cases c with
 | true=>exact hb aS s1 σ H1 Q I1 q1
 | false=>exact⟨.bl false,H1,I1,rfl,q1⟩
theorem ABf(ha:PE X a ta):PE X (.UnaryOp .Not a pos) (AHL ta):=by
 intro aS s σ H Q I h;refine UnaryOp_ (thn (ha aS s σ H _ I h) λv s1 ⟨x,H1,I1,r1,q1⟩=>?_);obtain⟨c,rfl,q1⟩:=q1;cases r1;exact not_of (G1 ⟨.bl (!c),H1,I1,rfl,q1⟩)
def tIf(t:TT)(ta tb:TE):TE:=λσ H Q=>t σ H λc H1=>if c=true then ta σ H1 Q else tb σ H1 Q
theorem Ed(hc:PT X c tA)(ha:PE X a ta)(hb:PE X b tb):PE X (.IfExp c a b pos) (tIf tA ta tb):=by
 intro aS s σ H Q I h;refine wpAny_IfExp (thn (hc aS s σ H _ I h) λd s1 ⟨H1,I1,q1⟩=>?_);cases d with
 | true=>exact ha aS s1 σ H1 Q I1 q1
 | false=>exact hb aS s1 σ H1 Q I1 q1
end
def SqL(K:Au)(H:Hp)(a:Addr)(xs:List V):Prop :=
 Rd H a (.lst xs) \/
  ∃(o:Obj) (bg:Array As) (n:Nat),K.lookup a=uA o/\o.cls=.type "list"/\o.dict=uB/\o.data=.seq bg n/\bg.size<=sizeLine/\Vals xs bg.toList
def SqT(K:Au)(H:Hp)(a:Addr)(xs:List V):Prop :=
 Rd H a (.tup xs) \/
  ∃(o:Obj) (bg:Array As) (n:Nat),K.lookup a=uA o/\o.cls=.type "tuple"/\o.data=.seq bg n/\bg.size<=sizeLine/\Vals xs bg.toList
noncomputable def absV:As->Option V
 | .none=>uA .non
 | .bool b=>uA (.bl b)
 | .int i _=>uA (.int i)
 | .str x _=>uA (.str x)
 | .bytes b _=>uA (.byt b)
 | .float b _=>uA (.flt b)
 | .ref a=>uA (.ref a)
 | .type n=>uA (.ty n)
 | _=>uB
theorem RelV.abs{x:V}(r:RelV x u):absV u=uA x:=by
 cases x with
 | non=>cases r;rfl
 | bl _=>cases r;rfl
 | int _=>obtain⟨t,rfl⟩:=r;rfl
 | str _=>obtain⟨t,rfl⟩:=r;rfl
 | byt _=>obtain⟨t,rfl⟩:=r;rfl
 | flt _=>obtain⟨t,rfl⟩:=r;rfl
 | ref _=>cases r;rfl
 | ty _=>cases r;rfl
theorem RelV.inj{x:V}(r:RelV x u)(q:RelV y u):x=y:=BO (r.abs.symm.trans q.abs)
theorem Vals.inj:∀{xs ys:List V}{us:List As},Vals xs us->Vals ys us->xs=ys
 | _,_,_,.nil,.nil=>rfl
 | _,_,_,.cons r t,.cons r' t'=>by rw[r.inj r',Vals.inj t t']
section
variable{ys:List V}
theorem SqL.of(h:H a=uA (.lst xs)):SqL K H a xs:=.inl (.inl h)
def ut:=@SqL.of
theorem SqT.of(h:H a=uA (.tup xs)):SqT K H a xs:=.inl (.inl h)
def uu:=@SqT.of
theorem Inv.list(I:Inv X aS σ H s)(h:SqL X.K H a xs):∃bg:List As,Vals xs bg/\PlainL s.heap a bg.toArray/\xs.length<=sizeLine:=by
 rcases h with h| ⟨o,bg,n,hk,hc,hd,hs,hz,r⟩
 .obtain⟨z,bg,n,r,e⟩:=h.ok I.hok
  exact⟨bg,r,⟨_,n,e,rfl,rfl,rfl⟩,z⟩
 .refine⟨bg.toList,r,⟨o,n,I.kIn a o hk,hc,hd,by simpa using hs⟩,?_⟩
  have e:=r.length;simp only[A2] at e;exact vJ e hz
theorem Inv.tuple(I:Inv X aS σ H s)(h:SqT X.K H a xs):∃bg:List As,Vals xs bg/\Tl s.heap a bg.toArray/\xs.length<=sizeLine:=by
 rcases h with h| ⟨o,bg,n,hk,hc,hs,hz,r⟩
 .obtain⟨z,bg,r,p⟩:=h.ok I.hok
  exact⟨bg,r,p,z⟩
 .refine⟨bg.toList,r,⟨o,I.kIn a o hk,hc,n,by simpa using hs⟩,?_⟩
  have e:=r.length;simp only[A2] at e;exact vJ e hz
theorem Inv.list_inj(I:Inv X aS σ H s)(h:SqL X.K H a xs)(h':SqL X.K H a ys):xs=ys:=by
 obtain⟨bg,r,⟨o,n,e,_,_,d⟩,_⟩:=I.list h;obtain⟨its',r',⟨o',n',e',_,_,d'⟩,_⟩:=I.list h';rw[e] at e';cases e';rw[d] at d';injection d' with d1 _
 have:bg=its':=by simpa using congrArg SH d1
 subst this;exact r.inj r'
theorem Inv.tuple_inj(I:Inv X aS σ H s)(h:SqT X.K H a xs)(h':SqT X.K H a ys):xs=ys:=by
 obtain⟨bg,r,⟨o,e,_,n,d⟩,_⟩:=I.tuple h;obtain⟨its',r',⟨o',e',_,n',d'⟩,_⟩:=I.tuple h';rw[e] at e';cases e';rw[d] at d';injection d' with d1 _
 have:bg=its':=by simpa using congrArg SH d1
 subst this;exact r.inj r'
end
noncomputable abbrev Cx.wish(X:Cx)(E:As->AA->Prop):Cx:={X with xe:=E}
noncomputable abbrev Cx.nox(X:Cx):Cx:=X.wish λ_ _=>False
theorem Cx.Ok.wish(ok:X.Ok)(E:As->AA->Prop):(X.wish E).Ok :=
 ⟨ok.mod,ok.kind,ok.glob,ok.blt,ok.above,ok.inj,ok.has,ok.cab,ok.hd,ok.frames,ok.stk,ok.exf,ok.bs,ok.bsz,ok.noex,ok.exfs,ok.funs,ok.frf⟩
theorem Cx.Ok.unwish(ok:(X.wish E).Ok):X.Ok :=
 ⟨ok.mod,ok.kind,ok.glob,ok.blt,ok.above,ok.inj,ok.has,ok.cab,ok.hd,ok.frames,ok.stk,ok.exf,ok.bs,ok.bsz,ok.noex,ok.exfs,ok.funs,ok.frf⟩
theorem Inv.wish(I:Inv X aS σ H s)(E:As->AA->Prop):Inv (X.wish E) aS σ H s:=⟨I.ok.wish E,I.os,I.bare,I.base,I.loc,I.cell,I.free,I.freeC,I.pin,I.hok,I.len⟩
theorem Inv.unwish(I:Inv (X.wish E) aS σ H s):Inv X aS σ H s:=⟨I.ok.unwish,I.os,I.bare,I.base,I.loc,I.cell,I.free,I.freeC,I.pin,I.hok,I.len⟩
theorem SP.unwish{D:Ends}{f:Flow}(h:SP (X.wish E) aS D f s'):SP X aS D f s':=by
 cases f with
 | next=>obtain⟨σ',H',I,q⟩:=h;exact⟨σ',H',I.unwish,q⟩
 | brk=>obtain⟨σ',H',I,q⟩:=h;exact⟨σ',H',I.unwish,q⟩
 | cont=>obtain⟨σ',H',I,q⟩:=h;exact⟨σ',H',I.unwish,q⟩
 | ret u=>obtain⟨v,σ',H',I,r,q⟩:=h;exact⟨v,σ',H',I.unwish,r,q⟩
theorem PSs.nox{st:List Stmt}{t:TS}(h:PSs X.nox st t):PSs X st t:=λaS s σ H D I hw =>
 C5 (h aS s σ H D (I.wish _) hw) (λ_ _ q=>q.unwish) λ_ _ z=>Ee z
section
variable{st:Stmt}{rest:List Stmt}{t u:TS}
def AHN:TS:=λD σ H=>D.nx σ H
def AHW(t u:TS):TS:=λD σ H=>t {D with nx:=u D} σ H
theorem BP:PSs X [] AHN:=λ_ _ σ H _ I h=>IS ⟨σ,H,I,h⟩
theorem Ae(h1:PS X st t)(h2:PSs X rest u):PSs X (st::rest) (AHW t u):=by
 intro aS s σ H D I h;refine Kb (thn (h1 aS s σ H {D with nx:=u D} I h) λf s1 q=>?_);cases f with
 | next =>
  obtain⟨σ',H',I',q⟩:=q;exact h2 aS s1 σ' H' D I' q
 | ret v=>exact q
 | brk=>exact q
 | cont=>exact q
theorem Ak(h1:PS X st t):PSs X [st] t:=by
 intro aS s σ H D I h;refine Kb (thn (h1 aS s σ H D I h) λf s1 q=>?_);cases f with
 | next=>exact IS q
 | ret v=>exact q
 | brk=>exact q
 | cont=>exact q
theorem Inv.quiet(I:Inv X aS σ H s):interactive X.env=false:=by simp[interactive,I.ok.kind]
def AHE(te:TE):TS:=λD σ H=>te σ H λ_ H1=>D.nx σ H1
theorem Fw(he:PE X e te)(hs:autoParam (K2 e uB pos.line X.env=pure false) zA0._auto_1):PS X (.Expr e pos) (AHE te):=by
 intro aS s σ H D I h;exact V7 (thn (he aS s σ H _ I h) λv s1 ⟨x,H1,I1,r1,q1⟩=>⟨σ,H1,I1,q1⟩) I.quiet hs
def AHQ(te:TE):TS:=λD σ H=>te σ H D.rt
theorem Av(he:PE X e te):PS X (.Return (uA e) pos) (AHQ te):=by
 intro aS s σ H D I h;exact wpAny_Return_some (thn (he aS s σ H _ I h) λv s1 ⟨x,H1,I1,r1,q1⟩=>⟨x,σ,H1,I1,r1,q1⟩)
def AHd(c:TT)(t u:TS):TS:=λD σ H=>c σ H λb H1=>if b=true then t D σ H1 else u D σ H1
theorem Bv{a b:List Stmt}(hc:PT X c tc)(ha:PSs X a t)(hb:PSs X b u):PS X (.If c a b pos) (AHd tc t u):=by
 intro aS s σ H D I h;refine wpAny_If (thn (hc aS s σ H _ I h) λd s1 ⟨H1,I1,q1⟩=>?_);cases d with
 | true=>exact ha aS s1 σ H1 D I1 q1
 | false=>exact hb aS s1 σ H1 D I1 q1
def ADU:TS:=λ_ _ _=>False
theorem Rj:PS X st ADU:=λ_ _ _ _ _ _ h=>h.elim
theorem FQ{sts:List Stmt}:PSs X sts ADU:=λ_ _ _ _ _ _ h=>h.elim
end
abbrev TG:=V->St->Hp->(St->Hp->Prop)->Prop
abbrev TGs:=List V->St->Hp->(St->Hp->Prop)->Prop
def PG(X:Cx)(eI:Expr)(t:TG):Prop :=
 ∀(aS:uQ) (s:AA) (σ:St) (H:Hp) (v:V) (u:As) (Q:St->Hp->Prop),Inv X aS σ H s->RelV v u->t v σ H Q ->
  wpAny (AM X.prog X.w) X.A (SK eI X.env u) (λ_ s'=>∃σ' H',Inv X aS σ' H' s'/\Q σ' H') X.xe s
def PGs(X:Cx)(ts:uU)(t:TGs):Prop :=
 ∀(aS:uQ) (s:AA) (σ:St) (H:Hp) (vs:List V) (us:List As) (Q:St->Hp->Prop),Inv X aS σ H s->Vals vs us->t vs σ H Q ->
  wpAny (AM X.prog X.w) X.A (assignInOrder ((Ki ts X.env).map (·.2)) us) (λ_ s'=>∃σ' H',Inv X aS σ' H' s'/\Q σ' H') X.xe s
abbrev TSet:=V->V->V->Hp->(Hp->Prop)->Prop
def PSet(X:Cx)(t:TSet):Prop :=
 ∀(aS:uQ) (s:AA) (σ:St) (H:Hp) (o i v:V) (ov iv u:As) (Q:Hp->Prop),Inv X aS σ H s->RelV o ov->RelV i iv->RelV v u->t o i v H Q ->
  wpAny (AM X.prog X.w) X.A (V8 ov iv u) (λ_ s'=>∃H',Inv X aS σ H' s'/\Q H') X.xe s
def gName(i:Nat):TG:=λv σ H Q=>Q (σ.set i (uA v)) H
theorem Xn(hN:X.N.Nodup)(hi:X.N[i]?=uA x)(hx:Loc X.env.scope x)(hf:autoParam (X.fn x=true\/X.env.scope.names.lookup x=uA .local) zB1._auto_1):PG X (.Name x pos) (gName i):=by
 intro aS s σ H v u Q I r h;exact TH (Ko I hN hi hx r (λs' I'=>⟨_,H,I',h⟩) hf)
theorem zB0(h:True:=by first| exact IT rfl| exact NO rfl):True:=h
theorem Bu(hN:X.N.Nodup)(hi:autoParam (X.N[i]?=uA x) zA0._auto_1)(hx:autoParam (Loc X.env.scope x) zB0._auto_1)(hf:autoParam (X.fn x=true\/X.env.scope.names.lookup x=uA .local) zB0._auto_1):PG X (.Name x pos) (gName i):=Xn hN hi hx hf
theorem BJ(hN:X.N.Nodup:=by exact uH rfl)(hi:autoParam (X.N[i]?=uA x) zA0._auto_1)(hx:autoParam (Loc X.env.scope x) zB0._auto_1)(hf:autoParam (X.fn x=true\/X.env.scope.names.lookup x=uA .local) zB0._auto_1):PG X (.Name x pos) (gName i):=Xn hN hi hx hf
def gNil:TGs:=λvs σ H Q=>vs=[]/\Q σ H
def gCons(t:TG)(u:TGs):TGs:=λvs σ H Q=>∃v r,vs=v::r/\t v σ H λσ' H'=>u r σ' H' Q
theorem En:PGs X [] gNil:=by
 intro aS s σ H vs us Q I r h;obtain⟨e,h⟩:=h;subst e;cases r;exact assignInOrder_nil ⟨σ,H,I,h⟩
theorem Bt{t:TG}{u:TGs}(h1:PG X e t)(h2:PGs X es u)
  (hs:autoParam ((Ki (e::es) X.env).map (·.2)=SK e X.env::(Ki es X.env).map (·.2)) zA0._auto_1):PGs X (e::es) (gCons t u):=by
 intro aS s σ H vs us Q I r h;obtain⟨v,vr,e1,h⟩:=h;subst e1;cases r with
 | cons r rr =>
  rw[hs];refine assignInOrder_cons (thn (h1 aS s σ H _ _ _ I r h) λ_ s1 ⟨σ1,H1,I1,q1⟩=>?_);exact h2 aS s1 σ1 H1 _ _ Q I1 rr q1
def gTup(K:Au)(n:Nat)(t:TGs):TG:=λv σ H Q=>∃a xs,v=.ref a/\SqT K H a xs/\xs.length=n/\t xs σ H Q
theorem AGK{k:Nat}{t:TGs}(hc:X.calm=true)(h:PGs X es t)
  (hn:autoParam ((Ki es X.env).length=n) zA0._auto_1) (cr:autoParam ((Ki es X.env).findIdx? (·.1)=uB) zA0._auto_1):PG X (.Tuple es k pos) (gTup X.K n t):=by
 intro aS s σ H v u Q I r hw;obtain⟨a,xs,e1,hq,hl,hw⟩:=hw;subst e1;cases r;obtain⟨bg,rv,ht,hz⟩:=I.tuple hq;refine assign_Tuple_tuple (I.ok.hd hc) ht (by simp[hn,<- hl,rv.length]) cr λh' hx=>?_;have I1:=I.kept (t':=s.toks) λb o e=>hx b o (BH (AW e)) e;exact h aS _ σ H xs _ Q I1 (by simpa using rv) hw
def gSub(to ti:TE)(t:TSet):TG:=λv σ H Q=>to σ H λo H1=>ti σ H1 λi H2=>t o i v H2 λH3=>Q σ H3
theorem AFt{o i:Expr}{to ti:TE}{t:TSet}(ho:PE X o to)(hi:PE X i ti)(hs:PSet X t)
  (ha:autoParam (∀v,SK (.Subscript o i pos) X.env v=(do
   let ov <- Nd [v] (eval o X.env)
   let iv <- Nd [v,ov] (eval i X.env)
   V6 pos
   Nd [v,ov,iv] (V8 ov iv v)
   release [v,ov,iv] [])) zA2._auto_1):PG X (.Subscript o i pos) (gSub to ti t):=by
 intro aS s σ H v u Q I r h;rw[ha];refine Ap (D8 (thn (ho aS s σ H _ I h) λov s1 ⟨x,H1,I1,r1,q1⟩=>?_));refine Ap (D8 (thn (hi aS s1 σ H1 _ I1 q1) λiv s2 ⟨y,H2,I2,r2,q2⟩=>?_));refine Ap (R6 (Ap (D8 (thn (hs aS s2 σ H2 x y v ov iv u _ I2 r1 r2 r q2) λ_ s3 ⟨H3,I3,q3⟩=>?_))));exact wpAny_release ⟨σ,H3,I3,q3⟩
def ADZ(te:TE)(g:TG):TS:=λD σ H=>te σ H λx H1=>g x σ H1 D.nx
theorem AAu{g:TG}(he:PE X e te)(hg:PG X tg g)(hs:autoParam (swapsWithSole [tg] e pos.line X.env=pure false) zA0._auto_1)(hw:autoParam (swappedStores [tg] e X.env=pure uB) zA0._auto_1)
  (h1:autoParam ((Ki [tg] X.env).map (·.2)=[SK tg X.env]) zA0._auto_1):PS X (.Assign [tg] e pos) (ADZ te g):=by
 intro aS s σ H D I h;refine wpAny_Assign_stores (thn (he aS s σ H _ I h) λv s1 ⟨x,H1,I1,r1,q1⟩=>?_) hs hw;rw[h1];exact thn (hg aS s1 σ H1 x v _ I1 r1 q1) λ_ s2 q=>q
theorem AGH(hN:X.N.Nodup)(hi:X.N[i]?=uA x)(hx:Loc X.env.scope x)(he:PE X e te)(hs:autoParam (K2 e (uA (.Name x b7)) pos.line X.env=pure false) zA0._auto_1)(hf:autoParam (X.fn x=true\/X.env.scope.names.lookup x=uA .local) zB1._auto_1) :
  PS X (.Assign [.Name x b7] e pos) (ADZ te (gName i)):=by
 intro aS s σ H D I h;refine wpAny_Assign_Name (thn (he aS s σ H _ I h) λv s1 ⟨y,H1,I1,r1,q1⟩=>?_) hs;exact Ko I1 hN hi hx r1 (λs2 I2=>⟨_,H1,I2,q1⟩) hf
theorem Am(hN:X.N.Nodup)(he:PE X e te)(hi:autoParam (X.N[i]?=uA x) zA0._auto_1)(hx:autoParam (Loc X.env.scope x) zB0._auto_1)(hs:autoParam (K2 e (uA (.Name x b7)) pos.line X.env=pure false) zA0._auto_1)(hf:autoParam (X.fn x=true\/X.env.scope.names.lookup x=uA .local) zB0._auto_1) :
  PS X (.Assign [.Name x b7] e pos) (ADZ te (gName i)):=AGH hN hi hx he hs hf
def AGT(c:TT)(tb:TS):TS:=λD σ H=>∃W:Nat->St->Hp->Prop,(∃m,W m σ H)/\∀m σ H,W m σ H ->
 c σ H λb H1=>if b=true then ∃N:St->Hp->Prop,(∀σ' H',N σ' H'->∃m',m'<m/\W m' σ' H')/\tb {D with nx:=N,ct:=N,bk:=D.nx} σ H1 else D.nx σ H1
theorem ACW(hp:PassesOwn (AM X.prog X.w) X.A X.env X.xe)(hc:PT X c tc)(hb:PSs X body tb):PS X (.While c body [] pos) (AGT tc tb):=by
 intro aS s σ H D I h;obtain⟨W,⟨m0,w0⟩,turn⟩:=h;refine wpAny_While (codeAny_whileLoop (λn s'=>∃σ' H',Inv X aS σ' H' s'/\W n σ' H') ?_ m0 ⟨σ,H,I,w0⟩);rintro n s1 ⟨σ1,H1,I1,w1⟩;refine HG hp (thn (hc aS s1 σ1 H1 _ I1 (turn n σ1 H1 w1)) λb s2 ⟨H2,I2,q2⟩=>?_);cases b with
 | true =>
  obtain⟨N,hN,q2⟩:=q2;rw[uE rfl];refine HG hp (thn (hb aS s2 σ1 H2 _ I2 q2) λf s3 q3=>?_);cases f with
  | next =>
   obtain⟨σ3,H3,I3,n3⟩:=q3;obtain⟨m',hm,w3⟩:=hN σ3 H3 n3;exact⟨m',hm,σ3,H3,I3,w3⟩
  | cont =>
   obtain⟨σ3,H3,I3,n3⟩:=q3;obtain⟨m',hm,w3⟩:=hN σ3 H3 n3;exact⟨m',hm,σ3,H3,I3,w3⟩
  | brk=>exact q3
  | ret v=>exact q3
 | false =>
  rw[uD By];exact IS ⟨σ1,H2,I2,q2⟩
structure It where
 go:Nat->Hp->Prop
 yld:Nat->Hp->V->Hp->Prop
 stop:Nat->Hp->Prop
def FpOk(X:Cx)(aS:uQ)(H:Hp)(b:Addr):Prop :=
 H b=uB/\b≠X.env.locals/\b∉X.fs/\(b∈X.ex\/X.s₀.heap.objs.size<=b)/\(∀x c,X.env.cells.lookup x=uA c->c≠b)/\∀p∈X.pn++aS,p.1≠b
theorem Inv.fpOk(I:Inv X aS σ H s)(hb:s.heap.objs.size<=b)(hn:H' b=uB):FpOk X aS H' b:=by
 refine⟨hn,MG (B5 I.lt hb),I.nofs hb,.inr (BY I.sz hb),λx c e z=>?_,λp hp z=>?_⟩
 .obtain⟨v,q⟩:=I.cell x c e
  exact uI (B5 q.lt (by rw[z];exact hb)) (Fh _)
 .exact uI (B5 (AW (I.pin p hp).1) (by rw[z];exact hb)) (Fh _)
structure Turn(P:AJ)(w:AQ)(K:Au)(tg:Expr)(J:It)(fp:uX)(it:Addr)(tn:Nat->Heap->Prop):Prop where
 mem:it∈fp
 obj:∀i h,tn i h->∀b∈fp,∃o,h.get? b=uA o/\∀v,o.data≠.cell v
 keep:∀i h h',tn i h->(∀b∈fp,∀o,h.get? b=uA o->h'.get? b=uA o)->tn i h'
 item:∀(X:Cx),X.prog=P->X.w=w->X.K=K->X.calm=true->∀(i:Nat) (aS:uQ) (s:AA) (σ:St) (H:Hp) (E:As->AA->Prop),Inv X aS σ H s->(∀b∈fp,FpOk X aS H b)->tn i s.heap->J.go i H ->
  wpAny (AM P w) X.A (IU (.ref it)) (λr s1=>∃u,r=uA u /\
   wpAny (AM P w) X.A (MH tg (.ref it) u) (λ_ s2=>∃x H',Inv X aS σ H' s2/\RelV x u/\J.yld i H x H'/\tn (i+1) s2.heap/\∀b∈fp,H' b=uB) E s1) E s
 done:∀(X:Cx),X.prog=P->X.w=w->X.K=K->X.calm=true->∀(i:Nat) (aS:uQ) (s:AA) (σ:St) (H:Hp) (E:As->AA->Prop),Inv X aS σ H s->(∀b∈fp,FpOk X aS H b)->tn i s.heap->J.stop i H ->
  wpAny (AM P w) X.A (IU (.ref it)) (λr s1=>r=uB/\Inv X aS σ H s1) E s
 self:∀(A:BB) (i:Nat) (s:AA) (Q:As->AA->Prop) (E:As->AA->Prop),tn i s.heap->Q (.ref it) s->wpAny (AM P w) A (Qr (.ref it)) Q E s
abbrev TI:=St->Hp->(It->Hp->Prop)->Prop
def PIE(X:Cx)(aS:uQ)(σ:St)(tg:Expr)(R:It->Hp->Prop)(itv:As)(s2:AA):Prop :=
 ∃(it:Addr) (fp:uX) (tn:Nat->Heap->Prop) (J:It) (H':Hp),itv=.ref it/\Inv X aS σ H' s2/\Turn X.prog X.w X.K tg J fp it tn/\tn 0 s2.heap/\(∀b∈fp,FpOk X aS H' b)/\R J H'
def PI(X:Cx)(tg iter:Expr)(wi:TI):Prop :=
 ∀(aS:uQ) (s:AA) (σ:St) (H:Hp) (R:It->Hp->Prop),Inv X aS σ H s->wi σ H R ->
  wpAny (AM X.prog X.w) X.A (eval iter X.env) (λv s1=>wpAny (AM X.prog X.w) X.A (Qr v) (PIE X aS σ tg R) X.xe s1) X.xe s
theorem Xw{M:ME}{n:String}{vs:Array As}{Q:uO}(ho:s.heap.get? it=uA o)(hc:o.cls=.type n)(hd:o.data=.fields vs)
  (hn:["enumerate","zip","dict_itemiterator","dict_reverseitemiterator","odict_iterator","itertools.zip_longest","itertools.pairwise"].contains n=false) (hQ:Q () s):wpAny M A (MH tg (.ref it) u) Q E s:=by
 unfold MH;cases tg<;>first
  | exact AC hQ
  | (cases u<;>first
    | exact AC hQ
    | (
      refine Ap (RA ho ?_);rw[hc,hd];show wpAny M A (if(["enumerate","zip","dict_itemiterator","dict_reverseitemiterator","odict_iterator","itertools.zip_longest","itertools.pairwise"].contains n&&vs[0]? == uA (EM _))=true then _ else _) Q E s;rw[uD (by intro h;rw[hn,V9] at h;cases h)];exact AC hQ))
def Itl(K:Au)(a:Addr):It :=
 ⟨λi H=>∃xs x,SqL K H a xs/\xs[i]?=uA x,λi H x H'=>H'=H/\∀xs,SqL K H a xs->xs[i]?=uA x,λi H=>∃xs,SqL K H a xs/\xs.length<=i⟩
def Itt(K:Au)(a:Addr):It :=
 ⟨λi H=>∃xs x,SqT K H a xs/\xs[i]?=uA x,λi H x H'=>H'=H/\∀xs,SqT K H a xs->xs[i]?=uA x,λi H=>∃xs,SqT K H a xs/\xs.length<=i⟩
def Itr(lo:Int)(n:Nat):It:=⟨λi _=>i<n,λi H x H'=>H'=H/\x=.int (lo+i),λi _=>n<=i⟩
theorem PX(a it:Addr):Turn P w K tg (Itl K a) [it] it (λi h=>h.IsListIter it a i) where
 mem:=by simp
 obj:=λi h st b hb=>by
  have e:b=it:=by simpa using hb
  subst e;obtain⟨o,e,c,d⟩:=st;exact⟨o,e,λv z=>by rw[d] at z;cases z⟩
 keep:=λi h h' st k=>st.at λo e=>k it (by simp) o e
 item:=by
  intro X hP hw hK hc i aS s σ H E I hf st hg;subst hP hw hK;obtain⟨xs,x,hq,hx⟩:=hg;obtain⟨bg,rv,p,hz⟩:=I.list hq;obtain⟨u,hu,ru⟩:=rv.get hx;obtain⟨f0,f1,f2,f3,f4,f5⟩:=hf it (by simp);refine wpAny_pyNext_list_item st p.isList (x:=u) (by simpa using hu) λh' bh sb=>?_;have I1:=I.turned (t':=s.toks) (λb o hb e=>(sb.2 b hb).trans e) f0 f1 f3 f4 f5;obtain⟨o,e,c,d⟩:=id bh;exact⟨u,rfl,Xw (s:={s with heap:=h'}) e c d (by decide) ⟨x,H,I1,ru,⟨rfl,λys hy=>by rw[I.list_inj hy hq];exact hx⟩,bh,λb hb=>(hf b hb).1⟩⟩
 done:=by
  intro X hP hw hK hc i aS s σ H E I hf st hg;subst hP hw hK;obtain⟨xs,hq,hx⟩:=hg;obtain⟨bg,rv,p,hz⟩:=I.list hq;obtain⟨f0,f1,f2,f3,f4,f5⟩:=hf it (by simp);have hl:=rv.length;exact wpAny_pyNext_list_end (I.ok.hd hc) st p.isList (by simp;exact vj hl hx) λh' eb=>⟨rfl,I.turned (t':=s.toks) (λb o hb e=>eb b o hb e) f0 f1 f3 f4 f5⟩
 self:=λ_ _ _ _ _ st h=>wpAny_pyIter_listiter st h
theorem Ld(a it:Addr):Turn P w K tg (Itt K a) [it] it (λi h=>h.IsTupleIter it a i) where
 mem:=by simp
 obj:=λi h st b hb=>by
  have e:b=it:=by simpa using hb
  subst e;obtain⟨o,e,c,d⟩:=st;exact⟨o,e,λv z=>by rw[d] at z;cases z⟩
 keep:=λi h h' st k=>st.at λo e=>k it (by simp) o e
 item:=by
  intro X hP hw hK hc i aS s σ H E I hf st hg;subst hP hw hK;obtain⟨xs,x,hq,hx⟩:=hg;obtain⟨bg,rv,p,hz⟩:=I.tuple hq;obtain⟨u,hu,ru⟩:=rv.get hx;obtain⟨f0,f1,f2,f3,f4,f5⟩:=hf it (by simp);refine wpAny_pyNext_tuple_item st p (x:=u) (by simpa using hu) λh' bh sb=>?_;have I1:=I.turned (t':=s.toks) (λb o hb e=>(sb.2 b hb).trans e) f0 f1 f3 f4 f5;obtain⟨o,e,c,d⟩:=id bh;exact⟨u,rfl,Xw (s:={s with heap:=h'}) e c d (by decide) ⟨x,H,I1,ru,⟨rfl,λys hy=>by rw[I.tuple_inj hy hq];exact hx⟩,bh,λb hb=>(hf b hb).1⟩⟩
 done:=by
  intro X hP hw hK hc i aS s σ H E I hf st hg;subst hP hw hK;obtain⟨xs,hq,hx⟩:=hg;obtain⟨bg,rv,p,hz⟩:=I.tuple hq;obtain⟨f0,f1,f2,f3,f4,f5⟩:=hf it (by simp);have hl:=rv.length;exact wpAny_pyNext_tuple_end (I.ok.hd hc) st p (by simp;exact vj hl hx) λh' eb=>⟨rfl,I.turned (t':=s.toks) (λb o hb e=>eb b o hb e) f0 f1 f3 f4 f5⟩
 self:=λ_ _ _ _ _ st h=>wpAny_pyIter_tupleiter st h
theorem Wz(it:Addr)(lo:Int)(n:Nat):Turn P w K tg (Itr lo n) [it] it (λi h=>IsRangeIter h it (lo+(i:Nat)*1) ((n:Int)-(i:Nat)) 1) where
 mem:=by simp
 obj:=λi h st b hb=>by
  have e:b=it:=by simpa using hb
  subst e;exact⟨_,st,λv z=>by
   have z':=z;cases z'⟩
 keep:=λi h h' st k=>k it (by simp) _ st
 item:=by
  intro X hP hw hK hc i aS s σ H E I hf st hg;subst hP hw hK;obtain⟨f0,f1,f2,f3,f4,f5⟩:=hf it (by simp);have W:=ZO (prog:=X.prog) (w:=X.w) (I.ok.hd hc) it lo 1 n;refine W.item i s _ _ hg st λv h' tk hv bh kk=>?_;obtain⟨t,rfl⟩:=hv;have I1:Inv X aS σ H {s with heap:=h',toks:=tk}:=I.turned (λb o hb e=>kk b o (by simpa using hb) e) f0 f1 f3 f4 f5;refine⟨_,rfl,Xw (s:={s with heap:=h',toks:=tk}) (n:="range_iterator") bh rfl rfl (by decide) ⟨.int (lo+i),H,I1,⟨t,?_⟩,⟨rfl,rfl⟩,bh,λb hb=>(hf b hb).1⟩⟩;rw[T4]
 done:=by
  intro X hP hw hK hc i aS s σ H E I hf st hg;subst hP hw hK;obtain⟨f0,f1,f2,f3,f4,f5⟩:=hf it (by simp);exact PH (I.ok.hd hc) st (by have:n<=i:=hg;exact yq this) λh' eb=>⟨rfl,I.turned (t':=s.toks) (λb o hb e=>eb b o hb e) f0 f1 f3 f4 f5⟩
 self:=λ_ _ _ _ _ st h=>PM st h
def AGp(K:Au)(tl:TE):TI:=λσ H R=>tl σ H λx H1=>∃a,x=.ref a/\(∃xs,SqL K H1 a xs)/\R (Itl K a) H1
def AHg(K:Au)(tl:TE):TI:=λσ H R=>tl σ H λx H1=>∃a,x=.ref a/\(∃xs,SqT K H1 a xs)/\R (Itt K a) H1
theorem Cw{l:Expr}(hl:PE X l tl):PI X tg l (AGp X.K tl):=by
 intro aS s σ H R I h;refine thn (hl aS s σ H _ I h) λv s1 ⟨x,H1,I1,r1,q1⟩=>?_;obtain⟨a,e,⟨xs,hq⟩,q⟩:=q1;subst e;cases r1;obtain⟨bg,rv,p,hz⟩:=I1.list hq;refine Op p.isList ?_;refine⟨s1.heap.objs.size,[s1.heap.objs.size],_,_,H1,rfl,I1.kept (t':=s1.toks) λb o e=>AH _ e,PX a _,⟨_,AT _ rfl,rfl,rfl⟩,λb hb=>?_,q⟩;have e:b=s1.heap.objs.size:=by simpa using hb
 subst e;exact I1.fpOk (AF _) (I1.hok.fresh (AF _))
theorem Kc{l:Expr}(hl:PE X l tl):PI X tg l (AHg X.K tl):=by
 intro aS s σ H R I h;refine thn (hl aS s σ H _ I h) λv s1 ⟨x,H1,I1,r1,q1⟩=>?_;obtain⟨a,e,⟨xs,hq⟩,q⟩:=q1;subst e;cases r1;obtain⟨bg,rv,p,hz⟩:=I1.tuple hq;refine E6 p ?_;refine⟨s1.heap.objs.size,[s1.heap.objs.size],_,_,H1,rfl,I1.kept (t':=s1.toks) λb o e=>AH _ e,Ld a _,⟨_,AT _ rfl,rfl,rfl⟩,λb hb=>?_,q⟩;have e:b=s1.heap.objs.size:=by simpa using hb
 subst e;exact I1.fpOk (AF _) (I1.hok.fresh (AF _))
theorem Ud{R:It->Hp->Prop}{t u v:Tok}(I:Inv X aS σ H s)(h1:-(2 ^ 62)<=lo)(h2:lo<2 ^ 62)(h3:-(2 ^ 62)<=hi)(h4:hi<2 ^ 62)
  (q:R (Itr lo (hi-lo).toNat) H):wpAny (AM X.prog X.w) X.A (Qr (.ref s.heap.objs.size)) (PIE X aS σ tg R) E {s with heap:=s.heap.push {cls:=.type "range",data:=.fields #[.int lo t,.int hi u,.int 1 v]},toks:=tk}:=by
 refine SL (ZT ..) (WI h1 h2 h3 h4) ?_;have I1:Inv X aS σ H {s with heap:=s.heap.push {cls:=.type "range",data:=.fields #[.int lo t,.int hi u,.int 1 v]},toks:=tk}:=I.kept λb o e=>AH _ e;refine⟨(s.heap.push {cls:=.type "range",data:=.fields #[.int lo t,.int hi u,.int 1 v]}).objs.size,[(s.heap.push {cls:=.type "range",data:=.fields #[.int lo t,.int hi u,.int 1 v]}).objs.size],_,_,H,rfl,
  I1.kept (t':=tk) λb o e=>AH _ e,Wz _ lo (hi-lo).toNat,?_,λb hb=>?_,q⟩
 .have e1:lo+((0:Nat):Int)*1=lo:=by simp
  have e2:(((hi-lo).toNat:Nat):Int)-((0:Nat):Int)=Fs lo hi 1:=by rw[R7];split<;>lia
  rw[e1,e2];exact AT _ rfl
 .have e:b=(s.heap.push {cls:=.type "range",data:=.fields #[.int lo t,.int hi u,.int 1 v]}).objs.size:=by simpa using hb
  subst e;exact I1.fpOk (AF _) (I1.hok.fresh (AF _))
def AGt(ta:TA):TI:=λσ H R=>ta σ H λvs H1=>∃j:Int,vs=[.int j]/\-(2 ^ 62)<=j/\j<2 ^ 62/\R (Itr 0 j.toNat) H1
def AHM(ta:TA):TI:=λσ H R=>ta σ H λvs H1=>∃i j:Int,vs=[.int i,.int j]/\(-(2 ^ 62)<=i/\i<2 ^ 62/\-(2 ^ 62)<=j/\j<2 ^ 62)/\R (Itr i (j-i).toNat) H1
theorem DG{a:Expr}{ta:TA}{p:Pos}(hg:Gl X "range")(hm:X.mg "range" = uB)(ha:PA X [a] ta)(hs:autoParam (BQ [a] X.env=[(false,eval a X.env)]) zA0._auto_1):PI X tg (.Call (.Name "range" p) [a] [] pos) (AGt ta):=by
 intro aS s σ H R I h;refine Xt (Dt I hg hm LM (DB (thn (ha pos aS s σ H _ I h) λus s1 ⟨vs,H1,I1,r1,q1⟩=>?_) hs rfl));obtain⟨j,e,q1,q2,q⟩:=q1;subst e;cases r1 with
 | cons r rr =>
  cases rr;obtain⟨t,rfl⟩:=r;exact call_range_1 (Ud I1 (by lia) (by lia) q1 q2 (by simpa using q))
theorem Yr{a b:Expr}{ta:TA}{p:Pos}(hg:Gl X "range")(hm:X.mg "range" = uB)(ha:PA X [a,b] ta)(hs:autoParam (BQ [a,b] X.env=[(false,eval a X.env),(false,eval b X.env)]) zA0._auto_1)(pV:autoParam (BQ [b] X.env=[(false,eval b X.env)]) zA0._auto_1) :
  PI X tg (.Call (.Name "range" p) [a,b] [] pos) (AHM ta):=by
 intro aS s σ H R I h;refine Xt (Dt I hg hm LM (DB (thn (ha pos aS s σ H _ I h) λus s1 ⟨vs,H1,I1,r1,q1⟩=>?_) (by rw[hs,pV]) (by rw[pV];rfl)));obtain⟨i,j,e,⟨q1,q2,q3,q4⟩,q⟩:=q1;subst e;cases r1 with
 | cons r rr =>
  cases rr with
  | cons r' rr =>
   cases rr;obtain⟨t,rfl⟩:=r;obtain⟨t',rfl⟩:=r';exact call_range_2 (Ud I1 q1 q2 q3 q4 q)
def AHY(wi:TI)(g:TG)(tb:TS):TS:=λD σ H=>wi σ H λJ H1=>∃W:Nat->Nat->St->Hp->Prop,(∃m,W 0 m σ H1)/\∀i m σ H,W i m σ H ->
 (J.stop i H/\D.nx σ H)\/(J.go i H/\∃N:St->Hp->Prop,(∀σ' H',N σ' H'->∃m',m'<m/\W (i+1) m' σ' H')/\∀x H',J.yld i H x H'->g x σ H' λσ2 H2=>tb {D with nx:=N,ct:=N,bk:=D.nx} σ2 H2)
noncomputable def pinsAt(fp:uX)(h:Heap):uQ:=fp.filterMap λb=>(h.get? b).map λo=>(b,o)
theorem GD(hb:b∈fp)(e:h.get? b=uA o):(b,o)∈pinsAt fp h:=K3.mpr ⟨b,hb,by rw[e];rfl⟩
theorem ZC{p:Addr×Obj}(hp:p∈pinsAt fp h):p.1∈fp/\h.get? p.1=uA p.2:=by
 obtain⟨b,hb,e⟩:=K3.mp hp;cases q:h.get? b with
 | none=>rw[q] at e;cases e
 | some o =>
  rw[q] at e;have e':=BO e;subst e';exact⟨hb,q⟩
theorem Inv.pinned(I:Inv X aS σ H s)(hf:∀b∈fp,FpOk X aS H b)(ho:∀b∈fp,∃o,s.heap.get? b=uA o/\∀v,o.data≠.cell v):Inv X (aS++pinsAt fp s.heap) σ H s :=
 I.pins_of λp hp=>(B8.mp hp).elim (λz=>I.pin p (BS _ z)) λz=>by
  obtain⟨hb,e⟩:=ZC z;obtain⟨f0,f1,f2,_⟩:=hf p.1 hb;obtain⟨o,e',d⟩:=ho p.1 hb;rw[e] at e';cases e';exact⟨e,f0,f1,f2,d⟩
theorem Inv.unpinned{pl:uQ}(I:Inv X (aS++pl) σ H s):Inv X aS σ H s:=I.pins_of λp hp=>I.pin p (BS _ (DO _ hp))
theorem Dq{iter:Expr}{wi:TI}{g:TG}(hp:PassesOwn (AM X.prog X.w) X.A X.env X.xe)(hc:X.calm=true)(hi:PI X tg iter wi)(hg:PG X tg g)(hb:PSs X body tb)
  (hs:autoParam (∀x,Os iter X.env x=pure x) zA2._auto_1):PS X (.For tg iter body [] pos) (AHY wi g tb):=by
 intro aS s σ H D I h;refine wpAny_For (thn (hi aS s σ H _ I h) λv s1 h1=>thn h1 λitv s2 h2=>?_) hs;obtain⟨it,fp,tn,J,H2,e,I2,T,b6,f2,W,⟨m0,w0⟩,turn⟩:=h2;subst e;have g9:∀{H':Hp},(∀b∈fp,H' b=uB)->∀b∈fp,FpOk X aS H' b:=λhn b hb=>⟨hn b hb,(f2 b hb).2⟩;refine codeAny_forLoop_any (λn s'=>∃i σ' H',Inv X aS σ' H' s'/\tn i s'.heap/\(∀b∈fp,H' b=uB)/\W i n σ' H') ?_ m0 ⟨0,σ,H2,I2,b6,λb hb=>(f2 b hb).1,w0⟩;rintro n s3 ⟨i,σ3,H3,I3,e9,fr3,w3⟩;rcases turn i n σ3 H3 w3 with⟨stop,qn⟩| ⟨go,N,hN,step⟩
 .refine HG hp (thn (T.done X rfl rfl rfl hc i aS s3 σ3 H3 X.xe I3 (g9 fr3) e9 stop) λr s4 ⟨hr,I4⟩=>?_)
  subst hr;exact IS ⟨σ3,H3,I4,qn⟩
 .refine HG hp (thn (T.item X rfl rfl rfl hc i aS s3 σ3 H3 X.xe I3 (g9 fr3) e9 go) λr s4 ⟨u,hr,h4⟩=>?_)
  subst hr;refine HG hp (thn h4 λ_ s5 ⟨x,H5,I5,r5,y5,qQ,fr5⟩=>?_);have I5':=I5.pinned (g9 fr5) (T.obj _ _ qQ);refine HG hp (thn (hg _ s5 σ3 H5 x u _ I5' r5 (step x H5 y5)) λ_ s6 ⟨σ6,H6,I6,q6⟩=>?_);refine HG hp (thn (hb _ s6 σ6 H6 _ I6 q6) λf s7 q7=>?_);have again:∀{σ7:St}{H7:Hp},Inv X (aS++pinsAt fp s5.heap) σ7 H7 s7->N σ7 H7->∃m,m<n/\∃i σ' H',Inv X aS σ' H' s7/\tn i s7.heap/\(∀b∈fp,H' b=uB)/\W i m σ' H':=λ{σ7 H7} I7 n7=>by
   obtain⟨m',hm,w7⟩:=hN σ7 H7 n7;refine⟨m',hm,i+1,σ7,H7,I7.unpinned,T.keep _ _ _ qQ λb hb o e=>(I7.pin (b,o) (BS _ (BS _ (GD hb e)))).1,λb hb=>?_,w7⟩;obtain⟨o,e,d⟩:=T.obj _ _ qQ b hb;exact(I7.pin (b,o) (BS _ (BS _ (GD hb e)))).2.1
  cases f with
  | next=>obtain⟨σ7,H7,I7,n7⟩:=q7;exact again I7 n7
  | cont=>obtain⟨σ7,H7,I7,n7⟩:=q7;exact again I7 n7
  | brk=>obtain⟨σ7,H7,I7,q7⟩:=q7;exact⟨σ7,H7,I7.unpinned,q7⟩
  | ret v=>obtain⟨x7,σ7,H7,I7,r7,q7⟩:=q7;exact⟨x7,σ7,H7,I7.unpinned,r7,q7⟩
theorem FN{g:TG}{D:Ends}(Pv:Nat->St->Hp->Prop)(h0:Pv 0 σ H)(hl:∀i σ H,i<=xs.length->Pv i σ H->SqL K H a xs)
  (hs:∀i x σ H,xs[i]?=uA x->Pv i σ H->g x σ H λσ2 H2=>tb {D with nx:=Pv (i+1),ct:=Pv (i+1),bk:=D.nx} σ2 H2) (hd:∀σ H,Pv xs.length σ H->D.nx σ H) :
  ∃W:Nat->Nat->St->Hp->Prop,(∃m,W 0 m σ H)/\∀i m σ H,W i m σ H ->
   ((Itl K a).stop i H/\D.nx σ H)\/((Itl K a).go i H/\∃N:St->Hp->Prop,(∀σ' H',N σ' H'->∃m',m'<m/\W (i+1) m' σ' H')/\∀x H',(Itl K a).yld i H x H'->g x σ H' λσ2 H2=>tb {D with nx:=N,ct:=N,bk:=D.nx} σ2 H2):=by
 refine⟨λi m σ H=>m=xs.length-i/\i<=xs.length/\Pv i σ H,⟨xs.length,by simp,A7 _,h0⟩,?_⟩;rintro i m σ H ⟨rfl,hi,p⟩;have q:=hl i σ H hi p;by_cases dk:i<xs.length
 .refine .inr ⟨⟨xs,xs[i],q,by simp[dk]⟩,Pv (i+1),λσ' H' p'=>⟨xs.length-(i+1),vN dk,rfl,dk,p'⟩,λx H' y=>?_⟩
  obtain⟨e,y⟩:=y;subst e;exact hs i x σ _ (y xs q) p
 .have e:i=xs.length:=vB hi dk
  subst e;exact .inl ⟨⟨xs,q,AF _⟩,hd σ H p⟩
theorem AEH{g:TG}{D:Ends}(Pv:Nat->St->Hp->Prop)(h0:Pv 0 σ H)(hl:∀i σ H,i<=xs.length->Pv i σ H->SqT K H a xs)
  (hs:∀i x σ H,xs[i]?=uA x->Pv i σ H->g x σ H λσ2 H2=>tb {D with nx:=Pv (i+1),ct:=Pv (i+1),bk:=D.nx} σ2 H2) (hd:∀σ H,Pv xs.length σ H->D.nx σ H) :
  ∃W:Nat->Nat->St->Hp->Prop,(∃m,W 0 m σ H)/\∀i m σ H,W i m σ H ->
   ((Itt K a).stop i H/\D.nx σ H)\/((Itt K a).go i H/\∃N:St->Hp->Prop,(∀σ' H',N σ' H'->∃m',m'<m/\W (i+1) m' σ' H')/\∀x H',(Itt K a).yld i H x H'->g x σ H' λσ2 H2=>tb {D with nx:=N,ct:=N,bk:=D.nx} σ2 H2):=by
 refine⟨λi m σ H=>m=xs.length-i/\i<=xs.length/\Pv i σ H,⟨xs.length,by simp,A7 _,h0⟩,?_⟩;rintro i m σ H ⟨rfl,hi,p⟩;have q:=hl i σ H hi p;by_cases dk:i<xs.length
 .refine .inr ⟨⟨xs,xs[i],q,by simp[dk]⟩,Pv (i+1),λσ' H' p'=>⟨xs.length-(i+1),vN dk,rfl,dk,p'⟩,λx H' y=>?_⟩
  obtain⟨e,y⟩:=y;subst e;exact hs i x σ _ (y xs q) p
 .have e:i=xs.length:=vB hi dk
  subst e;exact .inl ⟨⟨xs,q,AF _⟩,hd σ H p⟩
theorem Hj{g:TG}{D:Ends}(Pv:Nat->St->Hp->Prop)(h0:Pv 0 σ H)
  (hs:∀i σ H,i<n->Pv i σ H->g (.int (lo+i)) σ H λσ2 H2=>tb {D with nx:=Pv (i+1),ct:=Pv (i+1),bk:=D.nx} σ2 H2) (hd:∀σ H,Pv n σ H->D.nx σ H) :
  ∃W:Nat->Nat->St->Hp->Prop,(∃m,W 0 m σ H)/\∀i m σ H,W i m σ H ->
   ((Itr lo n).stop i H/\D.nx σ H)\/((Itr lo n).go i H/\∃N:St->Hp->Prop,(∀σ' H',N σ' H'->∃m',m'<m/\W (i+1) m' σ' H')/\∀x H',(Itr lo n).yld i H x H'->g x σ H' λσ2 H2=>tb {D with nx:=N,ct:=N,bk:=D.nx} σ2 H2):=by
 refine⟨λi m σ H=>m=n-i/\i<=n/\Pv i σ H,⟨n,by simp,A7 _,h0⟩,?_⟩;rintro i m σ H ⟨rfl,hi,p⟩;by_cases dk:i<n
 .refine .inr ⟨dk,Pv (i+1),λσ' H' p'=>⟨n-(i+1),vN dk,rfl,dk,p'⟩,λx H' y=>?_⟩
  obtain⟨e,y⟩:=y;subst e y;exact hs i σ _ dk p
 .have e:i=n:=vB hi dk
  subst e;exact .inl ⟨AF _,hd σ H p⟩
abbrev R2:=V->V->Hp->VK->Prop
def OpR(X:Cx)(f:As->As->Sem As)(r:R2):Prop :=
 ∀(aS:uQ) (s:AA) (σ:St) (H:Hp) (x y:V) (v u:As) (Q:VK),Inv X aS σ H s->RelV x v->RelV y u->r x y H Q ->
  wpAny (AM X.prog X.w) X.A (f v u) (EP X aS σ Q) X.xe s
def UnR(X:Cx)(f:As->Sem As)(r:V->Hp->VK->Prop):Prop :=
 ∀(aS:uQ) (s:AA) (σ:St) (H:Hp) (x:V) (v:As) (Q:VK),Inv X aS σ H s->RelV x v->r x H Q ->
  wpAny (AM X.prog X.w) X.A (f v) (EP X aS σ Q) X.xe s
def CallR(X:Cx)(f:As)(r:List V->Hp->VK->Prop):Prop :=
 ∀(aS:uQ) (s:AA) (σ:St) (H:Hp) (xs:List V) (us:List As) (Q:VK),Inv X aS σ H s->Vals xs us->r xs H Q ->
  wpAny (AM X.prog X.w) X.A (call f us) (EP X aS σ Q) X.xe s
def tOp(r:R2)(ta tb:TE):TE:=λσ H Q=>ta σ H λx H1=>tb σ H1 λy H2=>r x y H2 Q
def tUn(r:V->Hp->VK->Prop)(ta:TE):TE:=λσ H Q=>ta σ H λx H1=>r x H1 Q
def rI(C:Int->Int->Prop)(g:Int->Int->V):R2:=λx y H Q=>E2 λi j=>A4 (x=.int i) (y=.int j) (C i j) (Q (g i j) H)
def rI0(g:Int->Int->V):R2:=λx y H Q=>E2 λi j=>A3 (x=.int i) (y=.int j) (Q (g i j) H)
def rU(g:Int->V):V->Hp->VK->Prop:=λx H Q=>∃i,x=.int i/\Q (g i) H
section
variable{a b:Expr}{tb tc:TE}
theorem binT(ha:PE X a ta)(hb:PE X b tb){R:V->V->Hp->Prop}(I:Inv X aS σ H s)
  (h:ta σ H λx H1=>tb σ H1 λy H2=>R x y H2){f:As->As->Sem As}
  (hf:∀v u s2 x y H2,Inv X aS σ H2 s2->RelV x v->RelV y u->R x y H2->wpAny (AM X.prog X.w) X.A (f v u) Q X.xe s2) :
  wpAny (AM X.prog X.w) X.A (eval a X.env) (λv s₁=>wpAny (AM X.prog X.w) X.A (eval b X.env) (λu s₂=>wpAny (AM X.prog X.w) X.A (f v u) Q X.xe s₂) X.xe s₁) X.xe s:=by
 refine thn (ha aS s σ H _ I h) λv s1 ⟨x,H1,I1,r1,q1⟩=>?_;refine thn (hb aS s1 σ H1 _ I1 q1) λu s2 ⟨y,H2,I2,r2,q2⟩=>?_;exact hf v u s2 x y H2 I2 r1 r2 q2
theorem Aw{op:Operator}{r:R2}(ho:OpR X (Hb op) r)(ha:PE X a ta)(hb:PE X b tb):PE X (.BinOp a op b pos) (tOp r ta tb):=by
 intro aS s σ H Q I h;exact wpAny_BinOp (binT ha hb I h λv u s2 x y H2 I2 rx ry q=>ho aS s2 σ H2 x y v u Q I2 rx ry q)
theorem Rt{op:UnaryOp}{r:V->Hp->VK->Prop}(ho:UnR X (unaryOp op) r)(ha:PE X a ta):PE X (.UnaryOp op a pos) (tUn r ta):=by
 intro aS s σ H Q I h;exact UnaryOp_ (thn (ha aS s σ H _ I h) λv s1 ⟨x,H1,I1,r1,q1⟩=>ho aS s1 σ H1 x v Q I1 r1 q1)
theorem opI{f:As->As->Sem As}{C:Int->Int->Prop}{g:Int->Int->Int}
  (rule:∀(i j:Int) (t u:Tok) (s:AA) (Q:As->AA->Prop) (E:As->AA->Prop),C i j->Q (.int (g i j) s.toks) {s with toks:=s.toks+1}->wpAny (AM X.prog X.w) X.A (f (.int i t) (.int j u)) Q E s) :
  OpR X f (rI C λi j=>.int (g i j)):=by
 intro aS s σ H x y v u Q I rx ry h;obtain⟨i,j,rfl,rfl,hc,q⟩:=h;obtain⟨t,rfl⟩:=rx;obtain⟨t',rfl⟩:=ry;exact rule i j t t' s _ _ hc ⟨.int (g i j),H,I.tok _,⟨_,rfl⟩,q⟩
theorem opI0{f:As->As->Sem As}{g:Int->Int->Int}
  (rule:∀(i j:Int) (t u:Tok) (s:AA) (Q:As->AA->Prop) (E:As->AA->Prop),Q (.int (g i j) s.toks) {s with toks:=s.toks+1}->wpAny (AM X.prog X.w) X.A (f (.int i t) (.int j u)) Q E s) :
  OpR X f (rI0 λi j=>.int (g i j)):=by
 intro aS s σ H x y v u Q I rx ry h;obtain⟨i,j,rfl,rfl,q⟩:=h;obtain⟨t,rfl⟩:=rx;obtain⟨t',rfl⟩:=ry;exact rule i j t t' s _ _ ⟨.int (g i j),H,I.tok _,⟨_,rfl⟩,q⟩
theorem opB0{f:As->As->Sem As}{g:Int->Int->Bool}
  (rule:∀(i j:Int) (t u:Tok) (s:AA) (Q:As->AA->Prop) (E:As->AA->Prop),Q (.bool (g i j)) s->wpAny (AM X.prog X.w) X.A (f (.int i t) (.int j u)) Q E s) :
  OpR X f (rI0 λi j=>.bl (g i j)):=by
 intro aS s σ H x y v u Q I rx ry h;obtain⟨i,j,rfl,rfl,q⟩:=h;obtain⟨t,rfl⟩:=rx;obtain⟨t',rfl⟩:=ry;exact rule i j t t' s _ _ ⟨.bl (g i j),H,I,rfl,q⟩
def CDiv(i j:Int):Prop:=0<j/\j<1073741824
def CPow(i j:Int):Prop:=0<=j/\j<=1000000/\i.natAbs<2 ^ 64
def CMul(i j:Int):Prop:=(-(2 ^ 64)<i/\i<2 ^ 64)\/(-(2 ^ 64)<j/\j<2 ^ 64)
theorem CMul.ok{i j:Int}(h:CMul i j):IntMulOk i j:=by
 rcases h with⟨h1,h2⟩| ⟨h1,h2⟩
 .exact .of_left (intBits_le_64 h1 h2)
 .exact .of_right (intBits_le_64 h1 h2)
theorem Bs:OpR X (Hb .Add) (rI0 λi j=>.int (i+j)):=opI0 λ_ _ _ _ _ _ _ q=>add_int q
theorem Et:OpR X (Hb .Sub) (rI0 λi j=>.int (i-j)):=opI0 λ_ _ _ _ _ _ _ q=>sub_int q
theorem Vb:OpR X (Hb .Mult) (rI CMul λi j=>.int (i*j)):=opI λ_ _ _ _ _ _ _ hc q=>mul_int q hc.ok
theorem GQ:OpR X (Hb .FloorDiv) (rI CDiv λi j=>.int (i / j)):=opI λi j _ _ _ _ _ hc q=>by
 have h1:=hc.1;have h2:=hc.2;exact floordiv_int (wx h1) (by rw[Int.fdiv_eq_ediv_of_nonneg i (vU h1)];exact q) (.inl (PO (by lia)))
theorem Cy:OpR X (Hb .Mod) (rI (λ_ j=>0<j) λi j=>.int (i%j)):=opI λi j _ _ _ _ _ hc q=>by
 have h1:=hc;exact mod_int' (wx hc) (by rw[Int.fmod_eq_emod_of_nonneg i (vU hc)];exact q)
theorem Vz:OpR X (Hb .Pow) (rI CPow λi j=>.int (i ^ j.toNat)):=opI λ_ _ _ _ _ _ _ hc q=>pow_int_small hc.1 hc.2.1 hc.2.2 q
theorem unI{f:As->Sem As}{g:Int->Int}
  (rule:∀(i:Int) (t:Tok) (s:AA) (Q:As->AA->Prop) (E:As->AA->Prop),Q (.int (g i) s.toks) {s with toks:=s.toks+1}->wpAny (AM X.prog X.w) X.A (f (.int i t)) Q E s) :
  UnR X f (rU λi=>.int (g i)):=by
 intro aS s σ H x v Q I rx h;obtain⟨i,rfl,q⟩:=h;obtain⟨t,rfl⟩:=rx;exact rule i t s _ _ ⟨.int (g i),H,I.tok _,⟨_,rfl⟩,q⟩
theorem Ke:UnR X (unaryOp .USub) (rU λi=>.int (-i)):=unI λ_ _ _ _ _ q=>neg_int q
end
noncomputable def scal:V->V->Bool
 | .non,.non=>true| .non,.int _=>true| .int _,.non=>true| .non,.bl _=>true| .bl _,.non=>true| .non,.str _=>true| .str _,.non=>true
 | .int _,.int _=>true| .bl _,.bl _=>true| .str _,.str _=>true| .byt _,.byt _=>true
 | .int _,.str _=>true| .str _,.int _=>true| .bl _,.str _=>true| .str _,.bl _=>true
 | _,_=>false
def rEq:R2:=λx y H Q=>scal x y=true/\Q (.bl (decide (x=y))) H
def rNe:R2:=λx y H Q=>scal x y=true/\Q (.bl (!decide (x=y))) H
theorem Xd{i j:Int}:decide (V.int i=V.int j)=(i==j):=by
 rw[DV];simp
theorem ADQ{i j:Bool}:decide (V.bl i=V.bl j)=(i==j):=by
 rw[DV];simp
theorem Yd{i j:Str}:decide (V.str i=V.str j)=(i==j):=by
 rw[DV];simp
theorem YS{i j:Array UInt8}:decide (V.byt i=V.byt j)=(i.toList==j.toList):=by
 rw[DV];cases i;cases j;simp
section
variable{a b:Expr}{tb tc:TE}
theorem Bd{Q:VK}{k k':Bool}(I:Inv X aS σ H s)(q:Q (.bl k) H)(e:k=k'):EP X aS σ Q (.bool k') s:=by
 subst e;exact⟨.bl k,H,I,rfl,q⟩
theorem Du:OpR X (D9 .Eq) rEq:=by
 intro aS s σ H x y v u Q I rx ry h;obtain⟨hs,q⟩:=h;cases x with
 | non =>
  cases rx;cases y with
  | non=>cases ry;exact XA (Bd I q (by simp))
  | bl j=>cases ry;exact XB (Bd I q (by simp))
  | int j=>obtain⟨t',rfl⟩:=ry;exact X5 (Bd I q (by simp))
  | str j=>obtain⟨t',rfl⟩:=ry;exact X6 (Bd I q (by simp))
  | _=>exact uI hs By
 | bl i =>
  cases rx;cases y with
  | non=>cases ry;exact XG (Bd I q (by simp))
  | bl j=>cases ry;exact eq_bool (Bd I q ADQ)
  | str j=>obtain⟨t',rfl⟩:=ry;exact XI (Bd I q (by simp))
  | _=>exact uI hs By
 | int i =>
  obtain⟨t,rfl⟩:=rx;cases y with
  | non=>cases ry;exact X7 (Bd I q (by simp))
  | int j=>obtain⟨t',rfl⟩:=ry;exact eq_int (Bd I q Xd)
  | str j=>obtain⟨t',rfl⟩:=ry;exact X8 (Bd I q (by simp))
  | _=>exact uI hs By
 | str i =>
  obtain⟨t,rfl⟩:=rx;cases y with
  | non=>cases ry;exact X9 (Bd I q (by simp))
  | bl j=>cases ry;exact XO (Bd I q (by simp))
  | int j=>obtain⟨t',rfl⟩:=ry;exact Ya (Bd I q (by simp))
  | str j=>obtain⟨t',rfl⟩:=ry;exact eq_str (Bd I q Yd)
  | _=>exact uI hs By
 | byt i =>
  obtain⟨t,rfl⟩:=rx;cases y with
  | byt j=>obtain⟨t',rfl⟩:=ry;exact PySem.W.eq_bytes (Bd I q YS)
  | _=>exact uI hs By
 | _=>cases y<;>exact uI hs By
theorem Oe:OpR X (D9 .NotEq) rNe:=by
 intro aS s σ H x y v u Q I rx ry h;obtain⟨hs,q⟩:=h;cases x with
 | non =>
  cases rx;cases y with
  | non=>cases ry;exact XT (Bd I q (by simp))
  | bl j=>cases ry;exact XU (Bd I q (by simp))
  | int j=>obtain⟨t',rfl⟩:=ry;exact Yf (Bd I q (by simp))
  | str j=>obtain⟨t',rfl⟩:=ry;exact YA (Bd I q (by simp))
  | _=>exact uI hs By
 | bl i =>
  cases rx;cases y with
  | non=>cases ry;exact XX (Bd I q (by simp))
  | bl j=>cases ry;exact ne_bool (Bd I q (congrArg not ADQ))
  | str j=>obtain⟨t',rfl⟩:=ry;exact XY (Bd I q (by simp))
  | _=>exact uI hs By
 | int i =>
  obtain⟨t,rfl⟩:=rx;cases y with
  | non=>cases ry;exact YE (Bd I q (by simp))
  | int j=>obtain⟨t',rfl⟩:=ry;exact ne_int (Bd I q (congrArg not Xd))
  | str j=>obtain⟨t',rfl⟩:=ry;exact YI (Bd I q (by simp))
  | _=>exact uI hs By
 | str i =>
  obtain⟨t,rfl⟩:=rx;cases y with
  | non=>cases ry;exact YO (Bd I q (by simp))
  | bl j=>cases ry;exact XZ (Bd I q (by simp))
  | int j=>obtain⟨t',rfl⟩:=ry;exact YR (Bd I q (by simp))
  | str j=>obtain⟨t',rfl⟩:=ry;exact ne_str (Bd I q (congrArg not Yd))
  | _=>exact uI hs By
 | byt i =>
  obtain⟨t,rfl⟩:=rx;cases y with
  | byt j=>obtain⟨t',rfl⟩:=ry;exact PySem.W.ne_bytes (Bd I q (congrArg not YS))
  | _=>exact uI hs By
 | _=>cases y<;>exact uI hs By
theorem Lx:OpR X (D9 .Lt) (rI0 λi j=>.bl (decide (i<j))):=opB0 λ_ _ _ _ _ _ _ q=>lt_int q
theorem Yj:OpR X (D9 .Gt) (rI0 λi j=>.bl (decide (j<i))):=opB0 λ_ _ _ _ _ _ _ q=>gt_int q
theorem AGu:OpR X (D9 .GtE) (rI0 λi j=>.bl (decide (j<=i))):=opB0 λ_ _ _ _ _ _ _ q=>ge_int q
theorem ADR:OpR X (D9 .Is) (λx y H Q=>y=.non/\Q (.bl (decide (x=.non))) H):=by
 intro aS s σ H x y v u Q I rx ry h;obtain⟨rfl,q⟩:=h;cases ry;refine is_none_gen (Bd I q ?_);cases x<;>first
  | (cases rx;rfl)
  | (obtain⟨t,rfl⟩:=rx;rfl)
theorem nomark(b:Expr)(h:autoParam (op≠.In) zA1._auto_1)(h2:autoParam (op≠.NotIn) zA1._auto_1):IQ op b=false:=by
 have e1:(op==aw)=false:=by cases op<;>first| rfl| exact uI rfl h
 have e2:(op==ZN)=false:=by cases op<;>first| rfl| exact uI rfl h2
 cases b<;>simp[IQ,e1,e2]
theorem zB2(h:True:=by exact nomark _):True:=h
theorem Px{r:R2}(ho:OpR X (D9 op) r)(ha:PE X a ta)(hb:PE X b tb)(hm:autoParam (IQ op b=false) zB2._auto_1):PE X (.Compare a [op] [b] pos) (tOp r ta tb):=by
 intro aS s σ H Q I h;exact wpAny_Compare1 (binT ha hb I h λv u s2 x y H2 I2 rx ry q=>ho aS s2 σ H2 x y v u Q I2 rx ry q) hm
def AHG(t:TE):TT:=λσ H Q=>t σ H λx H'=>∃k,x=.bl k/\Q k H'
theorem Ar{r:R2}(ho:OpR X (D9 op) r)(ha:PE X a ta)(hb:PE X b tb)(hm:autoParam (IQ op b=false) zB2._auto_1):PT X (.Compare a [op] [b] pos) (AHG (tOp r ta tb)):=by
 intro aS s σ H Q I h;refine Qb (thn (ha aS s σ H _ I h) λv s1 ⟨x,H1,I1,r1,q1⟩=>thn (hb aS s1 σ H1 _ I1 q1) λu s2 ⟨y,H2,I2,r2,q2⟩ =>
  thn (ho aS s2 σ H2 x y v u _ I2 r1 r2 q2) λc s3 ⟨z,H3,I3,r3,k,e,q3⟩=>?_) hm
 subst e;cases r3;exact G1 ⟨H3,I3,q3⟩
theorem line63:(sizeLine:Nat)<2 ^ 63:=by rw[FY];decide
theorem vals1{x:V}(r:Vals [x] us):∃u,us=[u]/\RelV x u:=by
 cases r with
 | cons r1 r2=>cases r2;exact⟨_,rfl,r1⟩
theorem vals2{x:V}(r:Vals [x,y] us):∃u w',us=[u,w']/\RelV x u/\RelV y w':=by
 cases r with
 | cons r1 r2 =>
  cases r2 with
  | cons r3 r4=>cases r4;exact⟨_,_,rfl,r1,r3⟩
theorem ZG(hc:X.calm=true):CallR X (.builtin "max") (λxs H Q=>∃i j,xs=[.int i,.int j]/\Q (.int (if j>i then j else i)) H):=by
 intro aS s σ H xs us Q I r h;obtain⟨i,j,rfl,q⟩:=h;obtain⟨u,w',rfl,⟨t,rfl⟩,⟨t',rfl⟩⟩:=vals2 r;refine max_two_ints (I.ok.hd hc) λh' tk k=>⟨_,H,I.kept k,?_,q⟩;by_cases hj:j>i
 .rw[uE hj,uE hj];exact⟨_,rfl⟩
 .rw[uD hj,uD hj];exact⟨_,rfl⟩
theorem JK(hc:X.calm=true):CallR X (.builtin "min") (λxs H Q=>∃i j,xs=[.int i,.int j]/\Q (.int (if j<i then j else i)) H):=by
 intro aS s σ H xs us Q I r h;obtain⟨i,j,rfl,q⟩:=h;obtain⟨u,w',rfl,⟨t,rfl⟩,⟨t',rfl⟩⟩:=vals2 r;refine min_two_ints (I.ok.hd hc) λh' tk k=>⟨_,H,I.kept k,?_,q⟩;by_cases hj:j<i
 .rw[uE hj,uE hj];exact⟨_,rfl⟩
 .rw[uD hj,uD hj];exact⟨_,rfl⟩
end
structure ObjM(h:Heap)(x dx C:Addr)(mA:Str->Option As):Prop where
 obj:h.get? x=uA (F0 C dx)
 ns:h.Ns1 dx mA
 ne:dx≠x
set_option tactic.hygienic true in
theorem Ze(n:h.Ns1 dx mA):∃od,h.get? dx=uA od/\∀name,Nl name od=uA (mA name):=by
 obtain⟨o,es,ep,ho,hd,hk,_,hm⟩:=n;refine⟨o,ho,λname=>?_⟩;have e:=hm name;unfold nsFind findBy at e;rw[<- Array.find?_toList] at e;unfold Nl;rw[hd];dsimp only;split
 .rename_i y q
  rw[q] at e;exact congrArg uA e
 .rename_i q
  rw[q] at e;have a:es.toList.any (·.refKey)=false:=by
   rw[List.any_eq_false];intro y hy;obtain⟨z,t,hkey⟩:=hk y (Array.mem_toList_iff.mp hy);simp[DictEntry.refKey,hkey]
  have a':¬ es.toList.any (·.refKey)=true:=by rw[a];exact By
  rw[uD a'];exact congrArg uA e
theorem ObjM.look{x:Addr}(I:ObjM h x dx C mA):∃od,PySem.W.InstAt h x (F0 C dx) C (uA od)/\∀name,Nl name od=uA (mA name) :=
 let ⟨od,ho,hl⟩:=Ze I.ns
 ⟨od,⟨I.obj,rfl,rfl,ho⟩,hl⟩
section
variable{x:Addr}{v:As}
theorem get_map(X:K.In s.heap)(I:ObjM s.heap x dx C mA)(hg:Kj K C name=true)(hh:LN K C=true)
  (ha:C7 K (.ref C) name=uA uB) (hv:mA name=uA v) (ow:UF v=true) (h:Q v {s with toks:=s.toks+1}) :
  wpAny (AM prog w) A (getAttr (.ref x) name kU) Q E s:=by
 obtain⟨od,J,hl⟩:=I.look;exact PySem.W.get_value X J (M8 hg).1 (PySem.W.findObj_own hh ha rfl (by rw[hl,hv])) ow h
theorem AAi{pl:Sem Bool}{Q:As×List As->AA->Prop}(X:K.In s.heap)(I:ObjM s.heap x dx C mA)(hg:Kj K C name=true)
  (hf:C7 K (.ref C) name=uA (uA (.ref f))) (ht:ML K (.ref f)=true) (hv:mA name=uB) (h:Q (.ref f,[.ref x]) s) :
  wpAny (AM prog w) A (SO (.ref x) name pl) Q E s:=by
 obtain⟨od,J,hl⟩:=I.look;exact PySem.W.method_fn X J (M8 hg).1 (M8 hg).2 hf (beq_iff_eq.mp ht) (by show(Nl name od).map (·.isSome)=uA false;rw[hl,hv];rfl) h
theorem ADi{ns:uT}{Q:uO}(X:K.In s.heap)(I:ObjM s.heap x dx C mA)
  (hs:C7 K (.ref C) "__setattr__" = uA (uA (.builtin "object.__setattr__"))) (hp:Oy K C=true) (ht:Pe K C name=uA uB) (hh:LN K C=true)
  (hw:SF mA ns) (hsz:ns.length<=sizeLine)
  (h:∀h',ObjM h' x dx C (λy=>if y=name then uA v else mA y)->EH dx s.heap h'->Q () {s with heap:=h',toks:=s.toks+2}) :
  wpAny (AM prog w) A (setAttr (.ref x) name v) Q E s:=by
 obtain⟨od,J,hl⟩:=I.look;refine PySem.W.set_plain X J hs (PySem.W.osa_open (s:={s with toks:=s.toks+1}) (r:=uB) X J hp ht λb=>?_);obtain⟨cd,hc,eW⟩:=PySem.W.any_some hh;have hx:=I.obj;refine Ap (AC (Ap (Ap (QA hx (Ap (Z7 (s:={s with toks:=s.toks+1}) (PySem.W.looks_clsIn X hc) ?_))))));rw[eW];refine AC (a:=uA dx) (Ap (AC (Ap ?_)));refine wpAny_nsSet1 (s:={s with toks:=s.toks+1}) I.ns λh' hn2 pV=>?_;obtain⟨oD,esD,epD,hoD,hdD,hcD⟩:=hn2.count (am name v hw);refine Ap (wpAny_lookBehind hoD (by rw[hdD];exact pastItsLine_dict (BY hcD (by rw[D0];exact wE hsz))) ?_);exact AC (h _ ⟨(pV.2 _ (CF I.ne)).trans I.obj,hn2,I.ne⟩ pV)
theorem Ul{kw:List (Str×As)}(X:K.In s.heap)(hm:MM K C=true)
  (hi:C7 K (.ref C) "__init__" = uA (uA (.ref f))) (hf:QH K (.ref f)=uA (.type "function"))
  (h:codeAny (AM prog w) (A.under (.builtin "type.__call__" ⟨.ref C::vs,kw⟩)) (.call (.ref f) ⟨.ref (s.heap.objs.size+1)::vs,kw⟩) (PySem.W.InitBack (s.heap.objs.size+1) R)
   {s with heap:=(s.heap.push ET).push (F0 C s.heap.objs.size)}) :
  codeAny (AM prog w) A (.call (.ref C) ⟨vs,kw⟩) R s:=by
 obtain⟨hh,g,d,t,os⟩:=s;exact PySem.W.make_core (PySem.W.makes_of X hm) (PySem.W.looks_findIn X hi) (λself=>PySem.W.bind_fn X self hf) (.inl rfl) h
end
noncomputable def putF(f:Str)(v:V):List (Str×V)->List (Str×V)
 | []=>[(f,v)]
 | (g,x)::r=>if g=f then(g,v)::r else(g,x)::putF f v r
theorem Aj(f g:Str)(v:V):∀fs:List (Str×V),(putF f v fs).lookup g=if g=f then uA v else fs.lookup g
 | []=>by
  show FH g [(f,v)]=_;by_cases h:g=f
  .have hb:(g==f)=true:=beq_iff_eq.mpr h
   simp only[FH,hb,uE h]
  .have hb:=beq_eq_false_iff_ne.mpr h
   simp only[FH,hb,uD h]
 | (k,x)::r=>by
  have ih:=Aj f g v r;rw[show putF f v ((k,x)::r)=(if k=f then(k,v)::r else(k,x)::putF f v r) from rfl];by_cases hk:k=f
  .rw[uE hk]
   by_cases h:g=k
   .have hb:=beq_iff_eq.mpr h
    simp only[FH,hb,uE (h.trans hk)]
   .have hb:=beq_eq_false_iff_ne.mpr h
    simp only[FH,hb,uD (λe:g=f=>h (e.trans hk.symm))]
  .rw[uD hk]
   by_cases h:g=k
   .have hb:=beq_iff_eq.mpr h
    simp only[FH,hb,uD (λe:g=f=>hk (h.symm.trans e))]
   .have hb:=beq_eq_false_iff_ne.mpr h
    simp only[FH,hb];exact ih
theorem Jf(f:Str)(v:V):∀fs:List (Str×V),f∈(putF f v fs).map (·.1)/\∀g,g∈fs.map (·.1)->g∈(putF f v fs).map (·.1)
 | []=>⟨by simp[putF],λg h=>by simp at h⟩
 | (k,x)::r=>by
  obtain⟨i1,i2⟩:=Jf f v r;rw[show putF f v ((k,x)::r)=(if k=f then(k,v)::r else(k,x)::putF f v r) from rfl];by_cases hk:k=f
  .rw[uE hk]
   subst hk;exact⟨by simp,λg h=>by simpa using h⟩
  .rw[uD hk]
   refine⟨?_,λg h=>?_⟩
   .rw[BU]
    exact AL _ i1
   .rw[BU] at h ⊢
    rcases AS.mp h with e| e
    .exact AS.mpr (.inl e)
    .exact AL _ (i2 g e)
theorem Jo(f:Str)(v:V):∀fs:List (Str×V),(putF f v fs).length<=fs.length+1
 | []=>by simp[putF]
 | (k,x)::r=>by
  have ih:=Jo f v r;rw[show putF f v ((k,x)::r)=(if k=f then(k,v)::r else(k,x)::putF f v r) from rfl];by_cases hk:k=f
  .rw[uE hk,D0,D0];exact uS
  .rw[uD hk,D0,D0];exact wE ih
theorem ug{o:Option As}(r:RelO (uA v) o):∃u,o=uA u/\RelV v u:=by
 cases o with
 | none=>exact r.elim
 | some u=>exact⟨u,rfl,r⟩
theorem ui{o:Option As}(r:RelO uB o):o=uB:=by
 cases o with
 | none=>rfl
 | some u=>exact r.elim
theorem ZX(r:RelV v u):UF u=true:=by
 cases v with
 | non=>cases r;rfl
 | bl b=>cases r;rfl
 | int i=>obtain⟨t,e⟩:=r;cases e;rfl
 | str x=>obtain⟨t,e⟩:=r;cases e;rfl
 | byt b=>obtain⟨t,e⟩:=r;cases e;rfl
 | flt b=>obtain⟨t,e⟩:=r;cases e;rfl
 | ref a=>cases r;rfl
 | ty n=>cases r;rfl
section
variable{fs fs':List (Str×V)}
theorem Qo(hok:HOk P w H h)(e:H a=uA (.ins C dx fs)):∃mA,ObjM h a dx C mA/\(∀f,RelO (fs.lookup f) (mA f))/\SF mA (fs.map (·.1))/\fs.length<=1000/\H dx=uA (.own a):=by
 obtain⟨d,z,ne,ob,mA,n,r,q⟩:=(hok a _ e);exact⟨mA,⟨ob,n,ne⟩,r,q,z,d⟩
end
structure Cls(K:Au)(C:Addr):Prop where
 pg:Kj K C SR=true
 hd:LN K C=true
 po:Oy K C=true
 sa:C7 K (.ref C) "__setattr__" = uA (uA (.builtin "object.__setattr__"))
theorem Cls.get(c:Cls K C)(f:Str):Kj K C f=true:=c.pg
def NoAttr(K:Au)(C:Addr)(f:Str):Prop:=C7 K (.ref C) f=uA uB
theorem NoAttr.taker{f:Str}(n:NoAttr K C f):Pe K C f=uA uB:=by
 unfold Pe;rw[show C7 K (.ref C) f=uA uB from n];rfl
structure Meth(K:Au)(C:Addr)(m:Str)(f:Addr):Prop where
 at_:C7 K (.ref C) m=uA (uA (.ref f))
 fn:ML K (.ref f)=true
 kp:DU K (.ref f)=true
section
variable{fs:List (Str×V)}{f:Str}
theorem Vy{b:Bool}(I:Inv X aS σ H s)(e:H a=uA (.ins C dx fs))(c:Cls X.K C)(n:NoAttr X.K C f)(l:fs.lookup f=uA v)
  (h:∀u s',Inv X aS σ H s'->RelV v u->Q u s'):wpAny (AM X.prog X.w) A (getAttr (.ref a) f b) Q E s:=by
 obtain⟨mA,O,r,_,_,_⟩:=Qo I.hok e;obtain⟨u,hu,ru⟩:=ug (v:=v) (o:=mA f) (by rw[<- l];exact r f);exact get_map I.kIn O (c.get f) c.hd n hu (ZX ru) (h u _ (I.tok _) ru)
theorem Kr{m:Str}{g:Addr}{pl:Sem Bool}{Q:As×List As->AA->Prop}(I:Inv X aS σ H s)(e:H a=uA (.ins C dx fs))(c:Cls X.K C)(k:Meth X.K C m g)(l:fs.lookup m=uB)
  (h:Q (.ref g,[.ref a]) s):wpAny (AM X.prog X.w) A (SO (.ref a) m pl) Q E s:=by
 obtain⟨mA,O,r,_,_,_⟩:=Qo I.hok e;have hn:=ui (by rw[<- l];exact r m);exact AAi I.kIn O (c.get m) k.at_ k.fn hn h
theorem Wt{Q:uO}(I:Inv X aS σ H s)(e:H a=uA (.ins C dx fs))(c:Cls X.K C)(n:NoAttr X.K C f)(hl:fs.length<1000)(ry:RelV y u)
  (h:∀s',Inv X aS σ (upd H a (.ins C dx (putF f y fs))) s'->Q () s'):wpAny (AM X.prog X.w) A (setAttr (.ref a) f u) Q E s:=by
 obtain⟨mA,O,r,wi,_,ho⟩:=Qo I.hok e;have hz:(fs.map (·.1)).length<=sizeLine:=by rw[AB,FY];lia
 refine ADi I.kIn O c.sa c.po n.taker c.hd wi hz λh' O' sb=>h _ ?_;have hd:∃o,h'.get? dx=uA o:=let ⟨o,_,_,e',_⟩:=O'.ns;⟨o,e'⟩
 refine I.write (x:=a) (e:=dx) (by rw[e];exact HZ) (.inr ho) (λb q hb z=>(sb.2 b hb).trans z) hd ?_;refine⟨by rw[Ah O.ne];exact ho,?_,O.ne,O'.obj,_,O'.ns,λg=>?_,λg hg=>?_⟩
 .have:=Jo f y fs;exact wQ this hl
 .rw[Aj]
  by_cases q:g=f
  .rw[uE q,uE q];exact ry
  .rw[uD q,uD q];exact r g
 .by_cases q:g=f
  .rw[q];exact(Jf f y fs).1
  .refine(Jf f y fs).2 g (wi g λz=>hg ?_)
   show(if g=f then uA u else mA g)=uB;rw[uD q];exact z
theorem Inv.made(I:Inv X aS σ H s):Inv X aS σ (upd (upd H s.heap.objs.size (.own (s.heap.objs.size+1))) (s.heap.objs.size+1) (.ins C s.heap.objs.size []))
  {s with heap:=(s.heap.push ET).push (F0 C s.heap.objs.size)}:=by
 have e1:(s.heap.push ET).get? s.heap.objs.size=uA ET:=AT s.heap rfl;have e2:((s.heap.push ET).push (F0 C s.heap.objs.size)).get? (s.heap.objs.size+1)=uA (F0 C s.heap.objs.size):=by
  have:=AT (s.heap.push ET) (o:=F0 C s.heap.objs.size) rfl
  rwa [Do] at this
 have e3:(s.heap.push ET).Ns s.heap.objs.size (λ_=>uB):=⟨ET,#[],_,e1,rfl,(λe he=>uI he (by simp)),λ_=>rfl⟩;have I1:=I.laid (a:=s.heap.objs.size) (o:=.own (s.heap.objs.size+1)) (h':=s.heap.push ET) (t':=s.toks) (λb u q=>AH _ q) (AF _) ⟨_,e1⟩;refine I1.laid (a:=s.heap.objs.size+1) (o:=.ins C s.heap.objs.size []) (t':=s.toks) (λb u q=>AH _ q) (J3 (Do _ _)) ?_;have ne:s.heap.objs.size≠s.heap.objs.size+1:=BH (E7 _);refine⟨by rw[Ah ne,Ab],A7 _,ne,e2,λ_=>uB,(Heap.Ns1.of_empty e3).at λo q=>AH _ q,λ_=>HZ,λy hy=>uI rfl hy⟩
theorem ADt{env:Env}{f:Str}(hb:N2 e f env (eval e env)=eval e env)
  (h:wpAny (AM prog w) A (eval e env) (λo s₁=>wpAny (AM prog w) A (getAttr o f true) Q E s₁) E s):wpAny (AM prog w) A (eval (.Attribute e f pos) env) Q E s :=
 Attribute_any_ h (by rw[arm_eval_Attribute,hb])
end
def AHi(K:Au)(ta:TE)(f:Str):TE:=λσ H Q=>ta σ H λx H1=>E5 λa C dx fs v=>A6 (x=.ref a) (H1 a=uA (.ins C dx fs)) (Cls K C) (NoAttr K C f) (fs.lookup f=uA v) (Q v H1)
def AHe(K:Au)(ta tv:TE)(f:Str):TS:=λD σ H=>tv σ H λy H1=>ta σ H1 λx H2=>∃a C dx fs,x=.ref a/\H2 a=uA (.ins C dx fs)/\Cls K C/\NoAttr K C f/\fs.length<1000 /\
 D.nx σ (upd H2 a (.ins C dx (putF f y fs)))
section
variable{o:Expr}{f:Str}{tv:TE}
theorem Br(he:PE X e ta)(hb:N2 e f X.env (eval e X.env)=eval e X.env):PE X (.Attribute e f pos) (AHi X.K ta f):=by
 intro aS s σ H Q I h;refine ADt hb (thn (he aS s σ H _ I h) λu s1 ⟨x,H1,I1,rx,a,C,dx,fs,v,ex,ea,c,n,l,q⟩=>?_);subst ex;obtain rfl:u=AV a:=rx;exact Vy I1 ea c n l λu' s2 I2 ru=>⟨v,H1,I2,ru,q⟩
theorem DP(ha:PE X o ta)(hv:PE X bq tv)(hs:K2 bq (uA (.Attribute o f b7)) pos.line X.env=pure false):PS X (.Assign [.Attribute o f b7] bq pos) (AHe X.K ta tv f):=by
 intro aS s σ H D I h;refine plainObj_wpAny_Assign_Attribute (thn (hv aS s σ H _ I h) λu s1 ⟨y,H1,I1,ry,q⟩=>thn (ha aS s1 σ H1 _ I1 q) λov s2 ⟨x,H2,I2,rx,a,C,dx,fs,ex,ea,c,n,l,q2⟩=>?_) hs;subst ex;obtain rfl:ov=AV a:=rx;exact Wt I2 ea c n l ry λs3 I3=>⟨σ,_,I3,q2⟩
end
structure Room(k:Nat)(A:BB):Prop where
 hd:A.handled=uB
 dp:A.depth+3*k+5<We
 un:A.units+16*k+200<C0
 gd:A.guards=uA []
theorem Room.mono{k:Nat}(r:Room k A)(h:j<=k):Room j A:=⟨r.hd,by have:=r.dp;lia,by have:=r.un;lia,r.gd⟩
theorem Room.deeper{k:Nat}(r:Room (k+1) A)(env:Env):Room k (A.deeper env) :=
 ⟨r.hd,by have:=r.dp;show A.depth+1+3*k+5<_;exact ya this,by have:=r.un;show A.units+3+16*k+200<_;lia,r.gd⟩
theorem VN{kw:List (Str×As)}:(A.under (.builtin "type.__call__" ⟨.ref C::us,kw⟩)).depth=A.depth+1:=by
 first| rfl| simp[OS,Code.weight,Code.isCreation,Code.isGuard,Code.isCaller,ZU,SS,guardIds]
theorem Us{kw:List (Str×As)}:(A.under (.builtin "type.__call__" ⟨.ref C::us,kw⟩)).units=A.units+1:=by
 first| rfl| simp[OS,Code.cUnits,ZU,SS]
theorem Ru{kw:List (Str×As)}(hg:A.guards=uA []):(A.under (.builtin "type.__call__" ⟨.ref C::us,kw⟩)).guards=uA []:=by
 have h:(Code.builtin "type.__call__" ⟨.ref C::us,kw⟩).isGuard=false:=by
  show guardIds.contains "type.__call__" = false;decide+kernel
 simp[OS,Code.guards,h,pushGuards,hg]
theorem Room.make{k:Nat}(r:Room (k+1) A)(C:Addr)(us:List As)(kw:List (Str×As)):Room k (A.under (.builtin "type.__call__" ⟨.ref C::us,kw⟩)) :=
 ⟨r.hd,by have:=r.dp;rw[VN];exact ya this,by have:=r.un;rw[Us];lia,Ru r.gd⟩
theorem Room.depth{k:Nat}(r:Room k A):A.depth<We:=by have:=r.dp;lia
theorem Room.units{k:Nat}(r:Room k A):A.units+64<C0:=by have:=r.un;lia
def ADr:TA:=λ_ H Q=>Q [] H
def Ua(ta:TE)(tr:TA):TA:=λσ H Q=>ta σ H λx H1=>tr σ H1 λxs H2=>Q (x::xs) H2
section
variable{t:TA}
theorem Ad:PA X [] ADr:=λ_ _ _ _ H Q I h=>HQ ⟨[],H,I,.nil,h⟩
theorem Aa(ha:PE X e te)(hr:PA X es t)(hs:autoParam (BQ (e::es) X.env=(false,eval e X.env)::BQ es X.env) zA0._auto_1):PA X (e::es) (Ua te t):=by
 intro pos aS s σ H Q I h;rw[hs];refine FR (thn (ha aS s σ H _ I h) λu s1 ⟨x,H1,I1,r1,q1⟩=>?_);exact thn (hr pos aS s1 σ H1 _ I1 q1) λus s2 ⟨xs,H2,I2,r2,q2⟩=>⟨x::xs,H2,I2,.cons r1 r2,q2⟩
def AHa(t:TA):TE:=λσ H Q=>t σ H λxs H1=>xs.length<=sizeLine/\∀p,H1 p=none->Q (.ref p) (upd H1 p (.tup xs))
def AHT(t:TA):TE:=λσ H Q=>t σ H λxs H1=>xs.length<=sizeLine/\∀p,H1 p=none->Q (.ref p) (upd H1 p (.lst xs))
theorem Bw{x1}(h:PA X es t):PE X (.Tuple es x1 pos) (AHa t):=by
 intro aS s σ H Q I hq;refine wpAny_Tuple_spliced (thn (h pos aS s σ H _ I hq) λus s1 ⟨xs,H1,I1,r,z,q⟩=>⟨by rw[<- r.length];exact z,?_⟩);have hf:=I1.hok.fresh (AF _);refine⟨.ref s1.heap.objs.size,upd H1 s1.heap.objs.size (.tup xs),I1.laid (t':=s1.toks) (λb u e=>AH _ e) (AF _) ?_,rfl,q _ hf⟩;exact⟨z,us,r,⟨_,AT _ rfl,rfl,_,rfl⟩⟩
theorem Cv(h:PA X es t):PE X (.List es pos) (AHT t):=by
 intro aS s σ H Q I hq;refine wpAny_List_spliced (thn (h pos aS s σ H _ I hq) λus s1 ⟨xs,H1,I1,r,z,q⟩=>⟨by rw[<- r.length];exact z,?_⟩);have hf:=I1.hok.fresh (AF _);refine⟨.ref s1.heap.objs.size,upd H1 s1.heap.objs.size (.lst xs),I1.laid (t':=s1.toks) (λb u e=>AH _ e) (AF _) ?_,rfl,q _ hf⟩;exact⟨z,us,0,r,AT _ rfl⟩
end
abbrev Sp:=List V->Hp->VK->XK->Prop
variable{sp:L2.Sp}
abbrev CXT:=List Env->Hp->AA->XK->As->AA->Prop
structure Env0(P:AJ)(w:AQ)(K:Au)(mg:Str->Option As)(base:Heap)(A:BB)(outer:List Env)(s:AA)(H:Hp):Prop where
 frames:A.frames=uA outer
 mod:Mod K mg base
 bs:∀b o,base.get? b=uA o->s.heap.get? b=uA o/\H b=uB
 bsz:base.objs.size<=s.heap.objs.size
 funs:s.heap.FunFrames base outer
 frf:∀b∈frs outer,H b=uB
 hok:HOk P w H s.heap
 bare:Lu s.gens
def CE(outer:List Env)(P:AJ)(w:AQ)(H:Hp)(s:AA)(Q:VK)(u:As)(s':AA):Prop :=
 ∃v H',s'.os=s.os/\Lu s'.gens/\Un (frs outer) [] H H' s.heap s'.heap/\HOk P w H' s'.heap/\RelV v u/\Q v H'
def CR(CX:CXT)(outer:List Env)(P:AJ)(w:AQ)(H:Hp)(s:AA)(Q:VK)(E:XK)(r:QE)(s':AA):Prop :=
 match r with
 | .ok (.ret u)=>CE outer P w H s Q u s'
 | .ok _=>False
 | .error e=>CX outer H s E e s'
structure FnOk(P:AJ)(w:AQ)(K:Au)(mg:Str->Option As)(base:Heap)(CX:CXT)(k:Nat)(f:Addr)(fd:BA)(ps:uT)(sp:Sp):Prop where
 len:∀vs H Q E,sp vs H Q E->vs.length=ps.length
 run:∀(A:BB) (outer:List Env) (s:AA) (H:Hp) (args:Args) (us:List As) (vs:List V) (Q:VK) (E:XK),Room k A->Env0 P w K mg base A outer s H->QI s fd args (ps.zip us)->Vals vs us->sp vs H Q E ->
  codeAny (AM P w) A (.call (.ref f) args) (CR CX outer P w H s Q E) s
theorem Env0.make{outer:List Env}(e:Env0 P w K mg base A outer s H)(C:Addr)(us:List As)(kw:List (Str×As)) :
  Env0 P w K mg base (A.under (.builtin "type.__call__" ⟨.ref C::us,kw⟩)) outer s H:=⟨by first| exact e.frames| (simpa [OS,Code.envs,SS,pushEnvs] using e.frames),e.mod,e.bs,e.bsz,e.funs,e.frf,e.hok,e.bare⟩
theorem Inv.env0(I:Inv X aS σ H s):Env0 X.prog X.w X.K X.mg X.base X.A X.stack s H :=
 ⟨I.ok.frames,I.ok.mod,I.bs,BY I.ok.bsz I.sz,I.stack,I.stkFree,I.hok,I.bare⟩
theorem Inv.after{Q:VK}(I:Inv X aS σ H s)(h:CE X.stack X.prog X.w H s Q u s'):EP X aS σ Q u s':=by
 obtain⟨v,H',os,bare,un,hok,r,q⟩:=h;obtain⟨hh,g,d,t,os'⟩:=s';obtain rfl:os'=s.os:=os;exact⟨v,H',I.call (h':=hh) (g':=g) (d':=d) (t':=t) (ch:=[]) un hok bare (λb z=>uI z (by simp)),r,q⟩
def AAt(sp:Sp)(eA:List V)(E:XK)(t:TA):TE:=λσ H Q=>t σ H λvs H1=>sp (vs++eA) H1 Q E
def AFS(C:Addr)(m:Str)(sp:Sp)(eA:List V)(E:XK)(ta:TE)(t:TA):TE:=λσ H Q=>ta σ H λx H1=>∃a dx fs,x=.ref a/\H1 a=uA (.ins C dx fs)/\fs.lookup m=uB /\
 t σ H1 λvs H2=>sp (x::(vs++eA)) H2 Q E
def ACN(C:Addr)(sp:Sp)(eA:List V)(E:XK)(t:TA):TE:=λσ H Q=>t σ H λvs H1=>∀x dx,H1 x=none->H1 dx=none->dx≠x ->
 sp (.ref x::(vs++eA)) (upd (upd H1 dx (.own x)) x (.ins C dx [])) (λv H2=>v=.non/\Q (.ref x) H2) E
def Binds(K:Au)(fd:BA)(ps:uT)(ds:List As):Prop :=
 ∀(s:AA) (us:List As),K.In s.heap->(us++ds).length=ps.length->QI s fd ⟨us,[]⟩ (ps.zip (us++ds))
theorem Binds.all(h:∀us:List As,us.length=ps.length->UH fd ⟨us,[]⟩=pure (ps.zip us)):Binds K fd ps []:=λs us _ hl=>by
 rw[B3] at hl ⊢;exact .of_eq (h us hl)
def Passes(CX:CXT)(X:Cx)(E:XK):Prop:=∀(aS:uQ) (σ:St) (H:Hp) (s:AA) (e:As) (s':AA),Inv X aS σ H s->CX X.stack H s E e s'->X.xe e s'
section
variable{CX:CXT}{k:Nat}{eA:List V}{E:XK}{m:Str}{p:Pos}{o:Expr}{t:TA}
theorem Vl{Q:VK}{vs:List V}(F:FnOk X.prog X.w X.K X.mg X.base CX k f fd ps sp)(hr:Room k X.A)(hb:Binds X.K fd ps ds)(hd:Vals eA ds)(hx:Passes CX X E)
  (I:Inv X aS σ H s) (r:Vals vs us) (h:sp (vs++eA) H Q E):wpAny (AM X.prog X.w) X.A (call (.ref f) us) (EP X aS σ Q) X.xe s:=by
 have r2:=r.append hd;have hl:(us++ds).length=ps.length:=by rw[<- r2.length];exact F.len _ _ _ _ h
 refine RC (E8 (F.run X.A X.stack s H ⟨us,[]⟩ (us++ds) (vs++eA) Q E hr I.env0 (hb s us I.kIn hl) r2 h) λr s' hq=>?_);cases r with
 | error e=>exact hx aS σ H s e s' I hq
 | ok fl =>
  cases fl with
  | ret u=>exact I.after hq
  | next=>exact Ee hq
  | brk=>exact Ee hq
  | cont=>exact Ee hq
theorem Ie(F:FnOk X.prog X.w X.K X.mg X.base CX k f fd ps sp)(hr:Room k X.A)(hg:Gl X x)(hm:X.mg x=uA (.ref f))(hk:DU X.K (.ref f)=true)(hb:Binds X.K fd ps ds)(hd:Vals eA ds)(hx:Passes CX X E)
  (ha:PA X (e::es) t) (gv:autoParam ((x==("__debug__" : Str))=false) zA1._auto_1) (he:autoParam (BQ (e::es) X.env=(false,eval e X.env)::BQ es X.env) zA0._auto_1) (fk:autoParam ((FG pos (BQ es X.env)).any (·.1)=false) zA0._auto_1) :
  PE X (.Call (.Name x p) (e::es) [] pos) (AAt sp eA E t):=by
 intro aS s σ H Q I h;refine EN (HX I hg hm ?_ gv);refine K4 (h₀:=X.base) I.ok.mod.kin hk (thn (ha pos aS s σ H _ I h) λus s1 ⟨vs,H1,I1,r,q⟩=>⟨I1.kIn,?_⟩) he fk;exact Vl F hr hb hd hx I1 r q
theorem DX{pl:Sem Bool}(he:PE X o ta)(c:Cls X.K C)(hm:Meth X.K C m f)(F:FnOk X.prog X.w X.K X.mg X.base CX k f fd ps sp)(hr:Room k X.A)(hb:Binds X.K fd ps ds)(hd:Vals eA ds)(hx:Passes CX X E)(ha:PA X (e::es) t)
  (cr:autoParam (BQ (e::es) X.env=(false,eval e X.env)::BQ es X.env) zA0._auto_1) (fk:autoParam ((FG pos (BQ es X.env)).any (·.1)=false) zA0._auto_1)
  (ht:autoParam (eval (.Call (.Attribute o m c8) (e::es) [] pos) X.env=(do
   let ov <- eval o X.env
   V6 c8.atName
   let (f,first) <- Nd [ov] (SO ov m pl)
   callWith pos f first (FG pos (BQ (e::es) X.env)) (UI pos (PQ [] X.env)))) zA0._auto_1) :
  PE X (.Call (.Attribute o m c8) (e::es) [] pos) (AFS C m sp eA E ta t):=by
 intro aS s σ H Q I h;refine QN (pl:=pl) (thn (he aS s σ H _ I h) λu s1 ⟨x,H1,I1,rx,a,dx,fs,ex,ea,l,q⟩=>?_) ht;subst ex;obtain rfl:u=AV a:=rx;refine Kr I1 ea c hm l ?_;refine K4 (first:=[.ref a]) (h₀:=X.base) I.ok.mod.kin hm.kp (thn (ha pos aS s1 σ H1 _ I1 q) λus s2 ⟨vs,H2,I2,r,q2⟩=>⟨I2.kIn,?_⟩) cr fk;exact Vl (us:=.ref a::us) (vs:=.ref a::vs) F hr hb hd hx I2 (.cons rfl r) q2
theorem Cm{pl:Sem Bool}(he:PE X o ta)(c:Cls X.K C)(hm:Meth X.K C m f)(F:FnOk X.prog X.w X.K X.mg X.base CX k f fd ps sp)(hr:Room k X.A)(hb:Binds X.K fd ps ds)(hd:Vals eA ds)(hx:Passes CX X E)
  (ht:autoParam (eval (.Call (.Attribute o m c8) [] [] pos) X.env=(do
   let ov <- eval o X.env
   V6 c8.atName
   let (f,first) <- Nd [ov] (SO ov m pl)
   callWith pos f first (FG pos (BQ [] X.env)) (UI pos (PQ [] X.env)))) zA0._auto_1) :
  PE X (.Call (.Attribute o m c8) [] [] pos) (AFS C m sp eA E ta ADr):=by
 intro aS s σ H Q I h;refine QN (pl:=pl) (thn (he aS s σ H _ I h) λu s1 ⟨x,H1,I1,rx,a,dx,fs,ex,ea,l,q⟩=>?_) ht;subst ex;obtain rfl:u=AV a:=rx;refine Kr I1 ea c hm l ?_;exact PySem.W.callWith_K0 (first:=[.ref a]) I1.kIn hm.kp (Vl (us:=[.ref a]) (vs:=[.ref a]) F hr hb hd hx I1 (.cons rfl .nil) q)
structure Mk(K:Au)(C f:Addr):Prop where
 makes:MM K C=true
 init:C7 K (.ref C) "__init__" = uA (uA (.ref f))
 fn:ML K (.ref f)=true
 kp:DU K (.ref C)=true
theorem AAj{Q:VK}{vs:List V}(M:Mk X.K C f)(F:FnOk X.prog X.w X.K X.mg X.base CX k f fd ps sp)(hr:Room (k+1) X.A)(hb:Binds X.K fd ps ds)(hd:Vals eA ds)
  (hx:Passes CX X E) (I:Inv X aS σ H s) (r:Vals vs us)
  (h:∀x dx,H x=none->H dx=none->dx≠x->sp (.ref x::(vs++eA)) (upd (upd H dx (.own x)) x (.ins C dx [])) (λv H2=>v=.non/\Q (.ref x) H2) E) :
  wpAny (AM X.prog X.w) X.A (call (.ref C) us) (EP X aS σ Q) X.xe s:=by
 have hq:=h (s.heap.objs.size+1) s.heap.objs.size (I.hok.fresh (LZ _)) (I.hok.fresh (AF _)) (BH (E7 _));have I2:=Inv.made (C:=C) I;have r2:Vals (V.ref (s.heap.objs.size+1)::(vs++eA)) (AV (s.heap.objs.size+1)::(us++ds)):=.cons rfl (r.append hd);have hl:(AV (s.heap.objs.size+1)::us++ds).length=ps.length:=by
  have e:=r2.length;rw[F.len _ _ _ _ hq] at e;exact e.symm
 refine RC (Ul (f:=f) I.kIn M.makes M.init (beq_iff_eq.mp M.fn) (E8 (F.run _ X.stack _ _ ⟨AV (s.heap.objs.size+1)::us,[]⟩ (AV (s.heap.objs.size+1)::(us++ds)) _ _ E (hr.make C us [])
  (I2.env0.make C us []) (hb _ (AV (s.heap.objs.size+1)::us) I2.kIn hl) r2 hq) λr s' fb=>?_))
 cases r with
 | error e=>exact hx aS σ _ _ e s' I2 fb
 | ok fl =>
  cases fl with
  | ret u =>
   obtain⟨v,H',I3,rv,ev,q3⟩:=I2.after fb;subst ev;exact⟨rv,⟨V.ref (s.heap.objs.size+1),H',I3,rfl,q3⟩⟩
  | next=>exact Ee fb
  | brk=>exact Ee fb
  | cont=>exact Ee fb
theorem GF(M:Mk X.K C f)(F:FnOk X.prog X.w X.K X.mg X.base CX k f fd ps sp)(hr:Room (k+1) X.A)(hg:Gl X x)(hm:X.mg x=uA (.ref C))(hb:Binds X.K fd ps ds)(hd:Vals eA ds)(hx:Passes CX X E)
  (ha:PA X (e::es) t) (gv:autoParam ((x==("__debug__" : Str))=false) zA1._auto_1) (he:autoParam (BQ (e::es) X.env=(false,eval e X.env)::BQ es X.env) zA0._auto_1) (fk:autoParam ((FG pos (BQ es X.env)).any (·.1)=false) zA0._auto_1) :
  PE X (.Call (.Name x p) (e::es) [] pos) (ACN C sp eA E t):=by
 intro aS s σ H Q I h;refine EN (HX I hg hm ?_ gv);refine K4 (h₀:=X.base) I.ok.mod.kin M.kp (thn (ha pos aS s σ H _ I h) λus s1 ⟨vs,H1,I1,r,q⟩=>⟨I1.kIn,?_⟩) he fk;exact AAj M F hr hb hd hx I1 r q
end
structure FnScope(N P:uT)(sc:FL):Prop where
 kind:sc.kind=.function
 co:sc.isCoroutine=false
 gen:sc.isGenerator=false
 nd:N.Nodup
 pre:N.take P.length=P
 par:∀x∈P,sc.names.lookup x=uA .local\/sc.names.lookup x=uA .cell
 nofree:∀y∈sc.names,y.2≠.free
noncomputable abbrev zl0:uT:=["points","ties"]
noncomputable abbrev zl1:uT:=["many","tie"]
noncomputable abbrev zl2:uT:=["self","many","ties"]
abbrev zl3:uT:=["self"]
noncomputable abbrev zl4:uT:=["self","point"]
noncomputable abbrev zl5:uT:=["web","number"]
noncomputable abbrev zl6:uT:=["self","n","rows","head"]
noncomputable abbrev zl7:uT:=["places","row"]
noncomputable abbrev zl8:uT:=["self","web","rule"]
noncomputable abbrev zl9:uT:=["heads","head"]
noncomputable abbrev zl10:uT:=["heads","tie"]
noncomputable abbrev zl11:uT:=["pair","old","new"]
noncomputable abbrev zl12:uT:=["apart","old","new"]
noncomputable abbrev zl13:uT:=["apart","point","rest"]
noncomputable abbrev zl14:uT:=["self","web","state"]
noncomputable abbrev zl15:uT:=["self","web"]
noncomputable abbrev zl16:uT:=["_law_script","_law_k"]
abbrev zl17:uT:=["_law_cell"]
noncomputable abbrev zl18:uT:=["self","low","high"]
noncomputable abbrev zl19:uT:=["many","ties"]
noncomputable abbrev zl20:uT:=["rows","top"]
noncomputable abbrev zl21:uT:=["n","rows","top"]
noncomputable abbrev zl22:uT:=["self","number","reached"]
noncomputable abbrev zl23:uT:=["heads","one","other"]
noncomputable abbrev zl24:uT:=["state","point"]
noncomputable abbrev zl25:uT:=["self","web","state","number"]
noncomputable abbrev zl26:uT:=["self","web","state","point"]
noncomputable abbrev zl27:uT:=["web","rule"]
noncomputable abbrev zl28:uT:=["_law_cell","_law_k"]
noncomputable abbrev zl29:uT:=["sieve","some"]
noncomputable abbrev zl30:uT:=["_law_many","_law_ties_here","_law_some"]
noncomputable abbrev zl31:uT:=["_law_low","_law_high"]
noncomputable abbrev zl32:uT:=["_law_script","_law_at","_law_many"]
noncomputable abbrev zl33:uT:=["_law_sieve","_law_many","_law_ties_here"]
theorem fscp{N P:uT}(h:(sc.kind=.function/\sc.isCoroutine=false)/\sc.isGenerator=false/\N.Nodup/\N.take P.length=P/\(∀x∈P,sc.names.lookup x=uA .local\/sc.names.lookup x=uA .cell)/\∀y∈sc.names,y.2≠.free):FnScope N P sc :=
 ⟨h.1.1,h.1.2,h.2.1,h.2.2.1,h.2.2.2.1,h.2.2.2.2.1,h.2.2.2.2.2⟩
theorem Nk{kindOf:Str->Option IA}{x:Str}:∀{binds:List (Str×As)}{m:Str->Option As},(∀v,(x,v)∉binds)->RE kindOf binds m x=m x
 | [],_,_=>rfl
 | (n,v)::r,m,h=>by
  unfold RE;rw[Nk λw hw=>h w (AL _ hw)];split
  .have:x≠n:=by rintro rfl;exact h v AI
   simp[this]
  .rfl
theorem Nh{kindOf:Str->Option IA}{x:Str}:∀{binds:List (Str×As)}{m:Str->Option As},(∀v,(x,v)∉binds)->RF kindOf binds m x=m x
 | [],_,_=>rfl
 | (n,v)::r,m,h=>by
  unfold RF;rw[Nh λw hw=>h w (AL _ hw)];split
  .rfl
  .have:x≠n:=by rintro rfl;exact h v AI
   simp[this]
theorem PL{kindOf:Str->Option IA}{x:Str}{v:As}:∀{P:uT}{vs:List As}{i:Nat}{m:Str->Option As},P.Nodup->P[i]?=uA x->vs[i]?=uA v->kindOf x=uA .local ->
  RE kindOf (P.zip vs) m x=uA v
 | [],_,_,_,_,h,_,_=>by simp at h
 | _::_,[],_,_,_,_,h,_=>by simp at h
 | p::P,w::vs,0,m,nd,h1,h2,hk=>by
  simp at h1 h2;subst h1;subst h2;show RE kindOf ((p,w)::P.zip vs) m p=_;unfold RE;rw[Nk λv hv=>(DE.mp nd).1 (Pf hv).1,uE hk];simp
 | p::P,w::vs,i+1,m,nd,h1,h2,hk=>by
  show RE kindOf ((p,w)::P.zip vs) m x=_;unfold RE;exact PL (i:=i) (DE.mp nd).2 (by simpa using h1) (by simpa using h2) hk
theorem Nm{kindOf:Str->Option IA}{x:Str}{v:As}:∀{P:uT}{vs:List As}{i:Nat}{m:Str->Option As},P.Nodup->P[i]?=uA x->vs[i]?=uA v->kindOf x≠uA .local ->
  RF kindOf (P.zip vs) m x=uA v
 | [],_,_,_,_,h,_,_=>by simp at h
 | _::_,[],_,_,_,_,h,_=>by simp at h
 | p::P,w::vs,0,m,nd,h1,h2,hk=>by
  simp at h1 h2;subst h1;subst h2;show RF kindOf ((p,w)::P.zip vs) m p=_;unfold RF;rw[Nh λv hv=>(DE.mp nd).1 (Pf hv).1,uD hk];simp
 | p::P,w::vs,i+1,m,nd,h1,h2,hk=>by
  show RF kindOf ((p,w)::P.zip vs) m x=_;unfold RF;exact Nm (i:=i) (DE.mp nd).2 (by simpa using h1) (by simpa using h2) hk
noncomputable def start(N:uT)(vs:List V):St:=vs.map uA++Cb (N.length-vs.length) uB
noncomputable def cxOf(CX:CXT)(P:AJ)(w:AQ)(K:Au)(mg:Str->Option As)(base:Heap)(N:uT)(qual:Str)(scope:FL)(f:Addr)(cd:As)(A:BB)(outer:List Env)(s:AA)(H:Hp)(E:XK):Cx where
 prog:=P
 w:=w
 K:=K
 mg:=mg
 base:=base
 A:=A.deeper (MO qual scope s.heap.objs.size f cd)
 N:=N
 s₀:=s
 H₀:=H
 env:=MO qual scope s.heap.objs.size f cd
 outer:=outer
 stack:=MO qual scope s.heap.objs.size f cd::outer
 ex:=[]
 calm:=true
 fn:=λ_=>true
 pn:=[]
 xe:=λe s'=>wpAny (AM P w) (A.deeper (MO qual scope s.heap.objs.size f cd)) (Wl (MO qual scope s.heap.objs.size f cd) e) (λ_ pK=>CX outer H s E e pK) (λe' pK=>CX outer H s E e' pK) s'
theorem Tz(h:sc.names.lookup x=uA .cell):∃c,(WN n sc.names []).lookup x=uA c:=by
 have q:=PU sc.names n [] (.inl h);exact F4.mp q
theorem Zf{CX:CXT}{N:uT}{outer:List Env}{E:XK}{vs:List V}
  (S:FnScope N ps scope) (hd:A.handled=uB) (e0:Env0 P w K mg base A outer s H) (hl:vs.length=ps.length) (r:Vals vs us)
  (x:InCallC s s.heap.objs.size (RE (MO qual scope s.heap.objs.size f cd).kindOf (ps.zip us) λ_=>uB) (WN (s.heap.objs.size+1) scope.names []) (RF (MO qual scope s.heap.objs.size f cd).kindOf (ps.zip us) λ_=>uB) s1) :
  Inv (cxOf CX P w K mg base N qual scope f cd A outer s H E) [] (start N vs) H s1:=by
 have fk:ps.length<=N.length:=by have:=congrArg DI S.pre;rw[B7] at this;lia
 obtain⟨h1,tk,rfl,hk⟩:=x.done;have rF:∀b:Addr,b∉(cxOf CX P w K mg base N qual scope f cd A outer s H E).ex:=λb z=>uI (show b∈([]:uX) from z) (by simp);refine⟨⟨e0.mod,S.kind,rfl,rfl,AF _,λy z c h1 h2=>?_,λy hy=>?_,λy c _ h=>?_,λ_=>hd,Around.frames_deeper e0.frames,.inr ⟨rfl,rfl⟩,λb z=>uI z (rF b),e0.bs,e0.bsz,λb _ _=>rF b,λb z=>uI z (rF b),e0.funs,e0.frf⟩,
  rfl,e0.bare,Un.kept hk,⟨_,x.toInCall.ns,λi y v h1 h2 h3=>?_⟩,λy c h=>⟨_,x.cell y c h⟩,e0.hok.fresh (AF _),λy c h=>?_,λp hp=>uI (show p∈([]:uQ) from hp) (by simp),e0.hok.kept hk,?_⟩
 .exact name_of_addr x.apart (G6 h1) (G6 h2)
 .have hy:=hy
  rcases hy with hy| hy
  .exact Tz hy
  .exact uI rfl (S.nofree _ (G6 hy))
 .exact C3 (x.above y c (G6 h))
 .have hi:i<vs.length:=by
   unfold start at h2;by_cases hi:i<vs.length
   .exact hi
   .rw[CB (by simpa using hi)] at h2
    rw[LH] at h2;split at h2<;>cases h2
  have ha:vs[i]?=uA v:=by
   unfold start at h2;rw[BC (by simpa using hi),AY] at h2;cases e:vs[i]? with
   | none=>rw[e] at h2;cases h2
   | some a=>rw[e] at h2;cases h2;rfl
  obtain⟨u,hu,rv⟩:=r.get ha;have hp:ps[i]?=uA y:=by
   rw[<- S.pre,F5 (uM hi hl)];exact h1
  have ndP:ps.Nodup:=by rw[<- S.pre];exact S.nd.sublist (J0 _ _)
  refine⟨u,rv,?_⟩;rcases S.par y (BI hp) with k| k
  .exact .inl ⟨k,PL ndP hp hu k⟩
  .obtain⟨c,e⟩:=Tz (n:=s.heap.objs.size+1) k
   refine .inr ⟨.inl k,c,e,?_⟩;have q:=x.cell y c e;rw[Nm ndP hp hu (by show scope.names.lookup y≠_;rw[k];decide)] at q;exact q
 .exact e0.hok.fresh (C3 (x.above y c (G6 h)))
 .unfold start
  show _=N.length;rw[BN,AB,Mn];lia
theorem AFR{CX:CXT}{k:Nat}{params:Arguments}{dV kV:As}{N:uT} (lk:K.lookup f=uA ⟨oc,od,.func (E9 name qual params body scope dV kV ck pm an bE ct),io⟩) (js:Iy K bE qual=true) (S:FnScope N ps scope)
  (len:∀vs H Q E,sp vs H Q E->vs.length=ps.length)
  (gm:∀(A:BB) (outer:List Env) (s:AA) (H:Hp) (vs:List V) (Q:VK) (E:XK),Room k (A.deeper (MO qual scope s.heap.objs.size f bE))->sp vs H Q E ->
   ∃t,PSs (cxOf CX P w K mg base N qual scope f bE A outer s H E) body t/\t {nx:=λ_ H'=>Q .non H',rt:=Q} (start N vs) H) :
  FnOk P w K mg base CX (k+1) f (E9 name qual params body scope dV kV ck pm an bE ct) ps sp:=by
 refine⟨len,λA outer s H args us vs Q E hr e0 hb r iP=>?_⟩;have hl:=len _ _ _ _ iP;have KX:=e0.mod.kin.keeps λb o e=>(e0.bs b o e).1;have lim:=e0.mod.nolimit.keeps λb o e=>(e0.bs b o e).1;have tX:∀y∈ps.zip us,scope.names.lookup y.1=uA .local\/(scope.names.lookup y.1=uA .cell/\((WN (s.heap.objs.size+1) scope.names []).lookup y.1).isSome=true):=λ⟨n,v⟩ hy=>by
  rcases S.par n (Pf hy).1 with q| q
  .exact .inl q
  .exact .inr ⟨q,PU _ _ _ (.inl q)⟩
 refine codeAny_call_function hr.depth (KX _ _ lk) rfl S.co S.gen rfl (PySem.W.codeRec_of KX js) (hb _ _ _ _ ?_);refine wpAny_newFunctionEnv_cells S.kind tX λenv he s1 x=>?_;subst he;refine⟨lim.keeps x.toInCall.keep,codeAny_func ?_⟩;obtain⟨t,ht,hq⟩:=gm A outer s H vs Q E (hr.deeper _) iP;have I:Inv (cxOf CX P w K mg base N qual scope f bE A outer s H E) [] (start N vs) H s1:=Zf S hr.hd e0 hl r x;refine C5 (ht [] s1 (start N vs) H _ I hq) (λfl s' hs=>?_) λe s' hs=>hs;have fin:∀{σ':St}{H':Hp}{v:V}{u:As},Inv (cxOf CX P w K mg base N qual scope f bE A outer s H E) [] σ' H' s'->RelV v u->Q v H'->CE outer P w H s Q u s' :=
  λ{σ' H' v u} J rv q=>⟨v,H',J.os,J.bare,J.base,J.hok,rv,q⟩
 cases fl with
 | ret u =>
  obtain⟨v,σ',H',J,rv,q⟩:=hs;exact fin J rv q
 | next =>
  obtain⟨σ',H',J,q⟩:=hs;exact fin (v:=V.non) (u:=CY) J rfl q
 | brk =>
  obtain⟨_,_,_,q⟩:=hs;exact Ee q
 | cont =>
  obtain⟨_,_,_,q⟩:=hs;exact Ee q
section
variable{p:Pos}{t:TA}{id:String}{r:List V->Hp->VK->Prop}
def tCB(r:List V->Hp->VK->Prop)(t:TA):TE:=λσ H Q=>t σ H λvs H1=>r vs H1 Q
theorem BK(hc:CallR X (.builtin id) r)(hg:Gl X x)(hm:X.mg x=uB)(hv:FF x=uA (.builtin id))(ha:PA X (e::es) t)(hn:autoParam (x≠"__name__") zA1._auto_1)(gv:autoParam ((x==("__debug__" : Str))=false) zA1._auto_1)
  (he:autoParam (BQ (e::es) X.env=(false,eval e X.env)::BQ es X.env) zA0._auto_1) (fk:autoParam ((FG pos (BQ es X.env)).any (·.1)=false) zA0._auto_1):PE X (.Call (.Name x p) (e::es) [] pos) (tCB r t):=by
 intro aS s σ H Q I h;refine EN (Dt I hg hm hv ?_ hn gv);exact IX (thn (ha pos aS s σ H _ I h) λus s1 ⟨vs,H1,I1,r1,q1⟩=>hc aS s1 σ H1 vs us Q I1 r1 q1) he fk
theorem BL(hc:CallR X (.type T) r)(hg:Gl X x)(hm:X.mg x=uB)(hv:FF x=uA (.type T))(ha:PA X (e::es) t)(hn:autoParam (x≠"__name__") zA1._auto_1)(gv:autoParam ((x==("__debug__" : Str))=false) zA1._auto_1)
  (he:autoParam (BQ (e::es) X.env=(false,eval e X.env)::BQ es X.env) zA0._auto_1) (fk:autoParam ((FG pos (BQ es X.env)).any (·.1)=false) zA0._auto_1):PE X (.Call (.Name x p) (e::es) [] pos) (tCB r t):=by
 intro aS s σ H Q I h;refine EN (Dt I hg hm hv ?_ hn gv);exact DB (thn (ha pos aS s σ H _ I h) λus s1 ⟨vs,H1,I1,r1,q1⟩=>hc aS s1 σ H1 vs us Q I1 r1 q1) he fk
end
end L2
variable{xs ys:List L2.V}{H H' H1 H2 H0:L2.Hp}{X:L2.Cx}{σ τ:L2.St}{v y:L2.V}{ta te to tl tv td ty:L2.TE}{tb:L2.TS}{tc:L2.TT}{r:L2.V->List L2.V->L2.Hp->L2.VK->Prop}{sp:L2.Sp}{J:L2.It}{bb:List (List L2.Key×L2.V)}{oB:List (L2.TE×L2.TE)}
namespace HT
open PySem PyProof.Rows
noncomputable def lexLt:uJ->uJ->Bool
 | [],[]=>false
 | [],_::_=>true
 | _::_,[]=>false
 | x::xs,y::ys=>if x=y then lexLt xs ys else decide (x<y)
theorem Cd(x y:Int)(xs ys:uJ):lexLt (x::xs) (y::ys)=if x=y then lexLt xs ys else decide (x<y):=rfl
theorem Mt:lexLt [] []=false:=rfl
theorem Mf(y:Int)(ys:uJ):lexLt [] (y::ys)=true:=rfl
theorem Lg(x:Int)(xs:uJ):lexLt (x::xs) []=false:=rfl
theorem ABQ(A:BB)(s:AA)(a:Int)(t:Tok)(c:Int)(u:Tok):∃e,MQ A s (.int a t) (.int c u) e/\(e=true↔a=c) :=
 ⟨(a==c),NR a t c u,by simp⟩
theorem ABm(A:BB)(s:AA)(a:Int)(t:Tok)(c:Int)(u:Tok)(prog:AJ)(w:AQ)(E:As->AA->Prop)(Q:As->AA->Prop)(h:Q (.bool (decide (a<c))) s) :
  wpAny (AM prog w) A (richCompare .Lt (.int a t) (.int c u)) Q E s :=
 (aa h:wpAny (AM prog w) A (D9 .Lt (.int a t) (.int c u)) Q E s)
section
open PySem.SeqAt
open PySem.AutoSeq1 (wpAny_loadPart')
open PySem.MeetsSeq PySem.MeetsSeq2 PySem.MeetsSeq3
theorem Hq(l b:Addr)(items cf:Array As)(n n2:Nat)(dd kA:Option Addr)(sl kD:Array (Option As))(ns ms:uJ)(hi:FS items.toList ns)(hj:FS cf.toList ms) :
  Meets (Builtin.«tuple.__lt__» ⟨[.ref l,.ref b],[]⟩)
   (λ_ R s=>s.heap.get? l=uA {cls:=.type "tuple",dict:=dd,data:=.seq items n,slots:=sl}/\s.heap.get? b=uA {cls:=.type "tuple",dict:=kA,data:=.seq cf n2,slots:=kD} /\
    R (.ok (.ret (.bool (lexLt ns ms)))) s) :=
 .of_wp λprog w A R s h=>by
  obtain⟨hp,g,d,tk,os⟩:=s;obtain⟨hl,hb,h⟩:=h;have f2:=AutoSeq1.sub_tuple_tuple;have z1:items.size=ns.length:=by rw[<- hi.length];simp
  have z2:cf.size=ms.length:=by rw[<- hj.length];simp
  wp_walk using wpAny_loadPart' hl,wpAny_loadPart' hb,Hc _ (λrest b s'=>b.1=uB/\s'=⟨hp,g,d,tk,os⟩/\∃(vs ws:List As) (kM qK:uJ),rest=vs.zip ws /\
   FS vs kM/\FS ws qK/\kM.length+cf.size=qK.length+items.size/\R (.ok (.ret (.bool (lexLt kM qK)))) ⟨hp,g,d,tk,os⟩) _
  case turn =>
   rintro⟨y,x⟩ rest b s' ⟨rm,rfl,vs,ws,kM,qK,hz,sO,hwi,bv,hR⟩;cases sO with
   | nil=>rw[List.zip_nil_left] at hz;cases hz
   | cons a t hvi' =>
    cases hwi with
    | nil=>rw[List.zip_nil_right] at hz;cases hz
    | cons c u hwi' =>
     rw[SU] at hz;injection hz with hyx hrest
     injection hyx with hy hx
     subst hy hx;rw[Cd] at hR;simp only[D0] at bv;obtain⟨e,he,rH⟩:=ABQ A.in1 ⟨hp,g,d,tk,os⟩ a t c u;refine Ap (he prog w _ _ ?_);cases e with
     | true =>
      rw[uE (rH.mp rfl)] at hR
      wp_walk
      exact⟨rfl,rfl,_,_,_,_,hrest,hvi',hwi',by lia,hR⟩
     | false =>
      rw[uD (λq=>uI (rH.mpr q) By)] at hR;have hri:=ABm A.in1 ⟨hp,g,d,tk,os⟩ a t c u prog w
      wp_walk using hri
      exact⟨_,rfl,by simpa using hR⟩
  case fin =>
   rintro⟨b1,b2⟩ s' ⟨rm,rfl,vs,ws,kM,qK,hz,sO,hwi,bv,hR⟩;simp only at rm;subst rm;have hv:lexLt kM qK=decide (items.size<cf.size):=by
    cases sO with
    | nil =>
     cases hwi with
     | nil =>
      rw[Mt];exact(uG (by lia)).symm
     | cons c u hw =>
      simp only[IY,D0] at bv;rw[Mf];exact(uF (by lia)).symm
    | cons a t hv =>
     cases hwi with
     | nil =>
      simp only[IY,D0] at bv;rw[Lg];exact(uG (by lia)).symm
     | cons c u hw =>
      rw[SU] at hz;cases hz
   rw[hv] at hR
   wp_walk
   exact⟨_,rfl,by simpa [UY] using hR⟩
  case h =>
   exact⟨rfl,rfl,items.toList,cf.toList,ns,ms,rfl,hi,hj,by lia,h⟩
end
theorem Ut{cf:Array As}(hl:Tl s.heap l items)(hb:Tl s.heap b cf)(hi:FS items.toList ns)(hj:FS cf.toList ms)
  (hu:A.units<C0) (h:Q (.bool (lexLt ns ms)) s):wpAny (AM prog w) A (D9 .Lt (.ref l) (.ref b)) Q E s:=by
 obtain⟨⟨cls,dd,data,sl⟩,ho,hc,n,hd⟩:=id hl;obtain⟨⟨nv,kA,X0,kD⟩,fF,gL,n2,gE⟩:=id hb;simp only at hc hd gL gE;subst hc hd gL gE;exact richCompare_meets_room (op:=.Lt) ⟨_,ho,rfl⟩ ⟨_,fF,rfl⟩ Mo PV (O5 _ _) (Hq l b items cf n n2 dd kA sl kD ns ms hi hj)
  ⟨ho,fF,show U0 (lexLt ns ms)≠RH/\Q (.bool (lexLt ns ms)) s from⟨(λx=>nomatch x),h⟩⟩ hu
theorem ADk{t:Addr}{ws:List As}(ht:Tl s.heap t vs.toArray)(hb:Tl s.heap b ws.toArray)(hv:vs≠[])
  (h1:ws=[]->Q (.ref t) s) (h2:ws≠[]->Q (.ref s.heap.objs.size) {s with heap:=s.heap.push {cls:=.type "tuple",data:=.seq (vs++ws).toArray}})
  (hsz:vs.length+ws.length<=sizeLine):wpAny (AM prog w) A (Hb .Add (.ref t) (.ref b)) Q E s:=by
 obtain⟨⟨cls,dd,data,sl⟩,ho,hc,n,hd⟩:=id ht;obtain⟨⟨nv,kA,X0,kD⟩,fF,gL,n2,gE⟩:=id hb;simp only at hc hd gL gE;subst hc hd gL gE;have e:vs.toArray++ws.toArray=(vs++ws).toArray:=by simp
 by_cases hw:ws=[]
 .exact OT ⟨_,ho,rfl⟩ ⟨_,fF,rfl⟩ OU R8 L6 LI (K5 _ _)
   (tuple_addW1 t b vs.toArray ws.toArray n n2 dd kA sl kD (by simpa using hv) (by simp[hw])) ⟨ho,fF,h1 hw⟩
 .refine OT ⟨_,ho,rfl⟩ ⟨_,fF,rfl⟩ OU R8 L6 LI (K5 _ _)
   (tuple_addW2 t b vs.toArray ws.toArray n n2 dd kA sl kD (by simpa using hv) (by simpa using hw) (by rw[A8,A8];exact hsz)) ⟨ho,fF,?_⟩
  rw[e];exact h2 hw
end HT
namespace L2
open PySem PySem.Spec PyProof.Rows
abbrev TO:=St->Hp->(Option Int->Hp->Prop)->Prop
theorem intsAre_of:∀{us:List As},Vals (ns.map V.int) us->FS us ns:=by
 induction ns with
 | nil=>intro us r;rw[MS] at r;cases r;exact .nil
 | cons n ns ih =>
  intro us r;rw[BU] at r;cases r with
  | cons r1 r2 =>
   obtain⟨t,e⟩:=r1;subst e;exact .cons n t (ih r2)
section
variable{lo hi:Option Expr}{tl th:TO}
def rCatT(K:Au):R2:=λx y H Q=>∃a b xs ys,x=.ref a/\y=.ref b/\SqT K H a xs/\SqT K H b ys/\xs≠[]/\xs.length+ys.length<=sizeLine /\
 (ys=[]->Q (.ref a) H)/\(ys≠[]->∀p,H p=none->Q (.ref p) (upd H p (.tup (xs++ys))))
theorem Vals.nil_iff(r:Vals xs us):us=[]↔xs=[]:=by
 cases r with
 | nil=>simp
 | cons _ _=>simp
theorem AEW:OpR X (Hb .Add) (rCatT X.K):=by
 intro aS s σ H x y v u Q I rx ry h;obtain⟨a,b,xs,ys,rfl,rfl,ha,hb,hx,hz,q1,q2⟩:=h;cases rx;cases ry;obtain⟨bg,r1,p1,_⟩:=I.tuple ha;obtain⟨gX,r2,p2,_⟩:=I.tuple hb;refine HT.ADk p1 p2 (λz=>hx (r1.nil_iff.mp z)) (λz=>⟨.ref a,H,I,rfl,q1 (r2.nil_iff.mp z)⟩) (λz=>?_) (by rw[<- r1.length,<- r2.length];exact hz);refine⟨.ref s.heap.objs.size,_,I.laid (t':=s.toks) (o:=.tup (xs++ys)) (λb ob q=>AH _ q) (AF _) ?_,rfl,q2 (λw=>z (r2.nil_iff.mpr w)) _ (I.hok.fresh (AF _))⟩;exact⟨by rw[BN];exact hz,_,r1.append r2,af _ _⟩
end
noncomputable def ixN(n:Nat)(i:Int):uW:=if 0<=i then(if i<n then uA i.toNat else uB) else if -(n:Int)<=i then uA (i+n).toNat else uB
noncomputable def atI{α:Type}(xs:List α)(i:Int):Option α:=(ixN xs.length i).bind λj=>xs[j]?
theorem RX{i:Int}(h:ixN n i=uA j):WO i n=uA j/\j<n/\-(n:Int)<=i/\i<n:=by
 unfold ixN at h;by_cases h0:0<=i
 .rw[uE h0] at h
  by_cases h1:i<n
  .rw[uE h1] at h
   have e:=BO h;exact⟨by rw[T5 h0 h1,e],by lia,by lia,h1⟩
  .rw[uD h1] at h;cases h
 .rw[uD h0] at h
  by_cases h1:-(n:Int)<=i
  .rw[uE h1] at h
   have e:=BO h;exact⟨by rw[seqIndex_neg (vP h0) h1,e],by lia,h1,by lia⟩
  .rw[uD h1] at h;cases h
theorem atI_get{xs:List α}{i:Int}{v:α}(h:atI xs i=uA v):∃j,WO i xs.length=uA j/\xs[j]?=uA v/\j<xs.length/\-(xs.length:Int)<=i/\i<xs.length:=by
 unfold atI at h;cases e:ixN xs.length i with
 | none=>rw[e] at h;cases h
 | some j =>
  rw[e] at h;obtain⟨h1,h2,h3,h4⟩:=RX e;exact⟨j,h1,h,h2,h3,h4⟩
theorem Bg{xs:List α}{v:α}(h:xs[j]?=uA v):atI xs (j:Int)=uA v:=by
 have hj:=(AO.mp h).1;have e:ixN xs.length (j:Int)=uA j:=by
  unfold ixN;rw[uE vf,uE (vn hj)];simp
 unfold atI;rw[e];exact h
def AEu(b:Expr):Prop:=∀o i,PY b false o i=operate [o,i] (QO o i)
def IxR(X:Cx)(r:R2):Prop :=
 ∀(bq cm:Expr) (aS:uQ) (s:AA) (σ:St) (H:Hp) (x y:V) (v u:As) (Q:VK),Inv X aS σ H s->RelV x v->RelV y u->r x y H Q ->
  PY cm false v u=operate [v,u] (QO v u)->wpAny (AM X.prog X.w) X.A (subscriptTail bq cm v u) (EP X aS σ Q) X.xe s
def MtR(X:Cx)(id:String)(r:V->List V->Hp->VK->Prop):Prop :=
 ∀(aS:uQ) (s:AA) (σ:St) (H:Hp) (x:V) (xs:List V) (v:As) (us:List As) (Q:VK),Inv X aS σ H s->RelV x v->Vals xs us->r x xs H Q ->
  wpAny (AM X.prog X.w) X.A (call (.builtin id) (v::us)) (EP X aS σ Q) X.xe s
section
variable{a b:Expr}{tb:TE}
theorem Aq{r:R2}(hr:IxR X r)(ha:PE X a ta)(hb:PE X b tb)(hs:AEu b:=by exact λ_ _=>rfl):PE X (.Subscript a b pos) (tOp r ta tb):=by
 intro aS s σ H Q I h;exact Subscript_ (binT ha hb I h λv u s2 x y H2 I2 rx ry q=>hr a b aS s2 σ H2 x y v u Q I2 rx ry q (hs _ _))
def rIxL(K:Au):R2:=λx y H Q=>E4 λp xs i v=>A5 (x=.ref p) (y=.int i) (SqL K H p xs) (atI xs i=uA v) (Q v H)
def rIxT(K:Au):R2:=λx y H Q=>E4 λp xs i v=>A5 (x=.ref p) (y=.int i) (SqT K H p xs) (atI xs i=uA v) (Q v H)
theorem Bf:IxR X (rIxL X.K):=by
 intro bq cm aS s σ H x y v u Q I rx ry h hs;obtain⟨p,xs,i,z,rfl,rfl,hq,he,q⟩:=h;cases rx;obtain⟨t,rfl⟩:=ry;obtain⟨bg,r,pl,hz⟩:=I.list hq;obtain⟨j,h1,h2,h3,h4,h5⟩:=atI_get he;obtain⟨w,ew,f8⟩:=r.get h2;have hl:=r.length;have hn:=line63;have fin:EP X aS σ Q w s:=⟨z,H,I,f8,q⟩;by_cases h0:0<=i
 .have hj:i.toNat=j:=by
   rw[T5 h0 h5] at h1;exact BO h1
  exact item_listR pl.isList h0 (by lia) (by rw[hj];simpa using ew) fin hs
 .have hj:(i+(bg.toArray.size:Int)).toNat=j:=by
   rw[seqIndex_neg (vP h0) h4] at h1;rw[A8,<- hl];exact BO h1
  exact PZ (x:=w) pl.isList.typeIs slot_list_getitem.lookup
   (wpAny_getItem_list_neg (Q:=λr s'=>r=w/\EP X aS σ Q r s') pl.isList (vP h0) (by rw[A8]<;>lia) (by lia) (by rw[hj];simpa using ew) ⟨rfl,fin⟩) hs
theorem Ay:IxR X (rIxT X.K):=by
 intro bq cm aS s σ H x y v u Q I rx ry h hs;obtain⟨p,xs,i,z,rfl,rfl,hq,he,q⟩:=h;cases rx;obtain⟨t,rfl⟩:=ry;obtain⟨bg,r,pl,hz⟩:=I.tuple hq;obtain⟨j,h1,h2,h3,h4,h5⟩:=atI_get he;obtain⟨w,ew,f8⟩:=r.get h2;have hl:=r.length;have hn:=line63;have fin:EP X aS σ Q w s:=⟨z,H,I,f8,q⟩;exact PZ (x:=w) pl.typeIs slot_tuple_getitem.lookup
  (getItem_tuple (j:=j) (Q:=λr s'=>r=w/\EP X aS σ Q r s') pl (by lia) (by lia) (by rw[A8,<- hl];exact h1) (by simpa using ew) ⟨rfl,fin⟩) hs
theorem VP(bg:List As)(n j:Nat)(u:As):Eg (·.setIfInBounds j u) {cls:=.type "list",data:=.seq bg.toArray n}={cls:=.type "list",data:=.seq (bg.set j u).toArray n}:=by
 simp[Eg]
theorem Inv.lst(I:Inv X aS σ H s)(h:H p=uA (.lst xs)) :
  ∃(bg:List As) (n:Nat),Vals xs bg/\s.heap.get? p=uA {cls:=.type "list",data:=.seq bg.toArray n}/\xs.length<=sizeLine:=by
 obtain⟨z,bg,n,r,e⟩:=I.hok p _ h;exact⟨bg,n,r,e,z⟩
theorem Inv.lstUpd{n':Nat}{f:Obj->Obj}(I:Inv X aS σ H s)(h:H p=uA (.lst xs))
  (ho:s.heap.get? p=uA {cls:=.type "list",data:=.seq bg.toArray n}) (hf:f {cls:=.type "list",data:=.seq bg.toArray n}={cls:=.type "list",data:=.seq its'.toArray n'}) (r:Vals ys its') (hz:ys.length<=sizeLine) (t:Nat) :
  Inv X aS σ (upd H p (.lst ys)) {s with heap:=s.heap.update p f,toks:=t}:=by
 have e:(s.heap.update p f).get? p=uA {cls:=.type "list",data:=.seq its'.toArray n'}:=by
  rw[Db f ho (by rw[hf]<;>rfl),hf]
 refine I.write (x:=p) (e:=p) (by rw[h];trivial) (.inl rfl) (λb u hb q=>(DA _ _ (CF hb)).trans q) ⟨_,e⟩ ?_;exact⟨hz,its',n',r,e⟩
def rSetL:V->V->V->Hp->(Hp->Prop)->Prop:=λo i v H Q=>E4 λp xs k j=>A5 (o=.ref p) (i=.int k) (H p=uA (.lst xs)) (ixN xs.length k=uA j) (Q (upd H p (.lst (xs.set j v))))
theorem set_list:PSet X rSetL:=by
 intro aS s σ H o i v ov iv u Q I ro ri rv h;obtain⟨p,xs,k,j,rfl,rfl,hp,hj,q⟩:=h;cases ro;obtain⟨t,rfl⟩:=ri;obtain⟨bg,n,r,ho,hz⟩:=I.lst hp;obtain⟨h1,h2,h3,h4⟩:=RX hj;have hl:=r.length;have hn:=line63;have I':Inv X aS σ (upd H p (.lst (xs.set j v))) {s with heap:=s.heap.update p (Eg (·.setIfInBounds j u))} :=
  I.lstUpd hp ho (VP bg n j u) (r.set rv j) (by rw[IZ];exact hz) s.toks
 by_cases h0:0<=k
 .have hk:k.toNat=j:=by
   rw[T5 h0 h4] at h1;exact BO h1
  exact PySem.W.ki_setAt ho h0 (by lia) (by rw[A8,<- hl];exact h4) (by rw[hk];exact⟨_,I',q⟩)
 .have hk:(k+(bg.toArray.size:Int)).toNat=j:=by
   rw[seqIndex_neg (vP h0) h3] at h1;rw[A8,<- hl];exact BO h1
  exact PySem.W.ki_setBack ho (vP h0) (by rw[A8,<- hl];exact h3) (by lia) (by rw[hk];exact⟨_,I',q⟩)
noncomputable def flatV:V->Bool
 | .non=>true
 | .bl _=>true
 | .int _=>true
 | .str _=>true
 | _=>false
noncomputable def eqV:V->V->Bool
 | .non,.non=>true
 | .bl a,.bl b=>a==b
 | .bl a,.int b=>(if a then 1 else 0)==b
 | .int a,.bl b=>a==(if b then 1 else 0)
 | .int a,.int b=>a==b
 | .str a,.str b=>a==b
 | _,_=>false
theorem AGR{x:V}{v:As}(ry:RelV y u)(rx:RelV x v)(fy:flatV y=true)(fx:flatV x=true):MQ A s u v (eqV y x):=by
 cases y with
 | non =>
  cases ry;cases x with
  | non=>cases rx;exact Pl _
  | bl b=>cases rx;exact SeqAt.EqAt.none_bool b
  | int b=>obtain⟨t,rfl⟩:=rx;exact Sf b t
  | str b=>obtain⟨t,rfl⟩:=rx;exact SeqAt.EqAt.none_str b t
  | _=>exact uI fx By
 | bl a =>
  cases ry;cases x with
  | non=>cases rx;exact SeqAt.EqAt.bool_none a
  | bl b=>cases rx;exact SeqAt.EqAt.bool_bool a b
  | int b=>obtain⟨t,rfl⟩:=rx;exact SeqAt.EqAt.bool_int a b t
  | str b=>obtain⟨t,rfl⟩:=rx;exact SeqAt.EqAt.bool_str a b t
  | _=>exact uI fx By
 | int a =>
  obtain⟨t',rfl⟩:=ry;cases x with
  | non=>cases rx;exact Si a t'
  | bl b=>cases rx;exact SeqAt.EqAt.int_bool a t' b
  | int b=>obtain⟨t,rfl⟩:=rx;exact NR a t' b t
  | str b=>obtain⟨t,rfl⟩:=rx;exact SD a t' b t
  | _=>exact uI fx By
 | str a =>
  obtain⟨t',rfl⟩:=ry;cases x with
  | non=>cases rx;exact SeqAt.EqAt.str_none a t'
  | bl b=>cases rx;exact SeqAt.EqAt.str_bool a t' b
  | int b=>obtain⟨t,rfl⟩:=rx;exact SE a t' b t
  | str b=>obtain⟨t,rfl⟩:=rx;exact SeqAt.EqAt.str_str a t' b t
  | _=>exact uI fx By
 | _=>exact uI fy By
noncomputable def eqU(x:V)(u:As):Bool:=match u with
 | .none=>eqV .non x
 | .bool b=>eqV (.bl b) x
 | .int i _=>eqV (.int i) x
 | .str z _=>eqV (.str z) x
 | _=>false
theorem ABe{x:V}(r:RelV y u)(f:flatV y=true):eqU x u=eqV y x:=by
 cases y with
 | non=>cases r;rfl
 | bl b=>cases r;rfl
 | int i=>obtain⟨t,rfl⟩:=r;rfl
 | str z=>obtain⟨t,rfl⟩:=r;rfl
 | _=>exact uI f By
theorem IW{x:V}:∀{xs:List V}{us:List As},Vals xs us->xs.all flatV=true->us.any (eqU x)=xs.any λy=>eqV y x
 | _,_,.nil,_=>rfl
 | y::xs,u::us,.cons r t,f=>by
  rw[WV,EB] at f;rw[IR,IR,ABe r f.1,IW t f.2]
theorem Gp{A:BB}{s:AA}{x:V}{v:As}(rx:RelV x v)(fx:flatV x=true):∀{xs:List V}{us:List As},Vals xs us->xs.all flatV=true->∀u∈us,MQ A s u v (eqU x u)
 | _,_,.nil,_=>λu hu=>by cases hu
 | y::xs,u::us,.cons r t,f=>λu' hu=>by
  rw[WV,EB] at f;rcases AS.mp hu with rfl| hu
  .rw[ABe r f.1];exact AGR r rx f.1 fx
  .exact Gp rx fx t f.2 u' hu
noncomputable def inV(x:V)(xs:List V):Bool:=xs.any λy=>eqV y x
def rIn(K:Au)(neg:Bool):R2:=λx y H Q=>E2 λp xs=>A5 (y=.ref p) ((SqL K H p xs\/SqT K H p xs)) (flatV x=true) (xs.all flatV=true) (Q (.bl (if neg then !inV x xs else inV x xs)) H)
theorem ZV:OpR X (D9 .In) (rIn X.K false):=by
 intro aS s σ H x y v u Q I rx ry h;obtain⟨p,xs,rfl,hq,fx,fs,q⟩:=h;cases ry;rcases hq with hq| hq
 .obtain⟨bg,r,pl,hz⟩:=I.list hq
  refine U5 (eqU x) pl.isList (λw hw=>Gp rx fx r fs w (by simpa using hw)) ⟨.bl _,H,I,rfl,?_⟩;rw[show bg.toArray.any (eqU x)=bg.any (eqU x) by simp,IW r fs];exact q
 .obtain⟨bg,r,pl,hz⟩:=I.tuple hq
  refine UK (eqU x) pl (λw hw=>Gp rx fx r fs w (by simpa using hw)) ⟨.bl _,H,I,rfl,?_⟩;rw[show bg.toArray.any (eqU x)=bg.any (eqU x) by simp,IW r fs];exact q
theorem Ql:OpR X (D9 .NotIn) (rIn X.K true):=by
 intro aS s σ H x y v u Q I rx ry h;obtain⟨p,xs,rfl,hq,fx,fs,q⟩:=h;cases ry;rcases hq with hq| hq
 .obtain⟨bg,r,pl,hz⟩:=I.list hq
  refine SeqAt.notIn_listAt (eqU x) pl.isList (λw hw=>Gp rx fx r fs w (by simpa using hw)) ⟨.bl _,H,I,rfl,?_⟩;rw[show bg.toArray.any (eqU x)=bg.any (eqU x) by simp,IW r fs];exact q
 .obtain⟨bg,r,pl,hz⟩:=I.tuple hq
  refine SeqAt.notIn_tupleAt (eqU x) pl (λw hw=>Gp rx fx r fs w (by simpa using hw)) ⟨.bl _,H,I,rfl,?_⟩;rw[show bg.toArray.any (eqU x)=bg.any (eqU x) by simp,IW r fs];exact q
theorem Bc:CallR X (.builtin "len") (λxs H Q=>∃p ys,xs=[.ref p]/\(SqL X.K H p ys\/SqT X.K H p ys)/\Q (.int ys.length) H):=by
 intro aS s σ H xs us Q I r h;obtain⟨p,ys,rfl,hq,q⟩:=h;obtain⟨u,rfl,rx⟩:=vals1 r;cases rx;have hn:=line63;rcases hq with hq| hq
 .obtain⟨bg,r',pl,hz⟩:=I.list hq
  have bv:=r'.length;exact Calls.call_len_list pl.isList (by simp only[A8]<;>lia) ⟨.int ys.length,H,I.tok _,⟨s.toks+1,by rw[A8,bv]⟩,q⟩
 .obtain⟨bg,r',pl,hz⟩:=I.tuple hq
  have bv:=r'.length;exact len_tuple pl (by simp only[A8]<;>lia) ⟨.int ys.length,H,I.tok _,⟨s.toks+1,by rw[A8,bv]⟩,q⟩
theorem JB:CallR X (.type "list") (λxs H Q=>∃p ys,xs=[.ref p]/\(SqL X.K H p ys\/SqT X.K H p ys)/\∀l,H l=none->Q (.ref l) (upd H l (.lst ys))):=by
 intro aS s σ H xs us Q I r h;obtain⟨p,ys,rfl,hq,q⟩:=h;obtain⟨u,rfl,rx⟩:=vals1 r;cases rx;have fin:∀(bg:List As),Vals ys bg->ys.length<=sizeLine->∀(h':Heap) (c':Nat),(∀b o',s.heap.get? b=uA o'->h'.get? b=uA o') ->
   h'.get? s.heap.objs.size=uA {cls:=.type "list",dict:=uB,data:=.seq bg.toArray c',slots:=#[]}->EP X aS σ Q (.ref s.heap.objs.size) {s with heap:=h'}:=λbg r' hz h' c' kp e =>
  ⟨.ref s.heap.objs.size,_,I.laid (t':=s.toks) kp (AF _) (show ObjOk X.prog X.w _ h' _ (.lst ys) from⟨hz,bg,c',r',e⟩),rfl,q _ (I.hok.fresh (AF _))⟩
 rcases hq with hq| hq
 .obtain⟨bg,r',pl,hz⟩:=I.list hq
  have bv:=r'.length;obtain⟨o,ho,hc,n,hd⟩:=pl.isList;exact call_list_seq p (.inl rfl) ho hc hd (λh' c' kp e=>fin bg r' hz h' c' kp e) (by simp only[A8]<;>exact vj bv hz)
 .obtain⟨bg,r',pl,hz⟩:=I.tuple hq
  have bv:=r'.length;obtain⟨o,ho,hc,n,hd⟩:=pl;exact call_list_seq p (.inr rfl) ho hc hd (λh' c' kp e=>fin bg r' hz h' c' kp e) (by simp only[A8]<;>exact vj bv hz)
theorem BW:CallR X (.type "tuple") (λxs H Q=>∃p ys,xs=[.ref p]/\((SqL X.K H p ys/\∀l,H l=none->Q (.ref l) (upd H l (.tup ys)))\/(SqT X.K H p ys/\Q (.ref p) H))):=by
 intro aS s σ H xs us Q I r h;obtain⟨p,ys,rfl,h⟩:=h;obtain⟨u,rfl,rx⟩:=vals1 r;cases rx;rcases h with⟨hq,q⟩| ⟨hq,q⟩
 .obtain⟨bg,r',pl,hz⟩:=I.list hq
  have bv:=r'.length;refine call_tuple_list pl.isList (λh' kp=>?_) (by simp only[A8]<;>exact vj bv hz);have I1:=I.kept (t':=s.toks) kp;have I2:Inv X aS σ (upd H h'.objs.size (.tup ys)) {s with heap:=h'.push {cls:=.type "tuple",data:=.seq bg.toArray}} :=
   I1.laid (t':=s.toks) (λb o e=>AH _ e) (AF _) (⟨hz,bg,r',af _ _⟩)
  exact⟨.ref h'.objs.size,_,I2,rfl,q _ (I1.hok.fresh (AF _))⟩
 .obtain⟨bg,r',pl,hz⟩:=I.tuple hq
  exact call_tuple_same pl ⟨.ref p,H,I,rfl,q⟩
def tyV(K:Au)(T:String)(x:V)(H:Hp):Prop:=match x with
 | .str _=>T = "str"
 | .int _=>T = "int"
 | .ref p=>(T = "list"/\∃xs,SqL K H p xs)\/(T = "tuple"/\∃o,K.lookup p=uA o/\o.cls=.type "tuple"/\o.dict=uB) \/
   (T = "dict"/\((∃bb,H p=uA (.dK bb))\/∃bb,H p=uA (.dT bb)))\/(T = "set"/\∃S n,H p=uA (.set S n))
 | _=>False
theorem AGO{x:V}{v:As}(I:Inv X aS σ H s)(r:RelV x v)(ty:tyV X.K T x H) :
  s.TypeIs v T/\∀a,v=.ref a->∃ob,s.heap.get? a=uA ob/\ob.dict=uB:=by
 cases x with
 | str z =>
  obtain⟨t,rfl⟩:=r;cases ty;exact⟨typeIs_str s z t,λ_ e=>nomatch e⟩
 | int i =>
  obtain⟨t,rfl⟩:=r;cases ty;exact⟨U6 s i t,λ_ e=>nomatch e⟩
 | ref p =>
  cases r;rcases ty with⟨rfl,xs,hq⟩| ⟨rfl,o,hk,hc,hd⟩| ⟨rfl,hk⟩| ⟨rfl,S,n,hk⟩
  .obtain⟨bg,_,pl,_⟩:=I.list hq
   refine⟨pl.isList.typeIs,λa e=>?_⟩;cases e;obtain⟨o,n,e,c,hd,_⟩:=pl;exact⟨o,e,hd⟩
  .refine⟨⟨o,I.kIn p o hk,hc⟩,λa e=>?_⟩
   cases e;exact⟨o,I.kIn _ o hk,hd⟩
  .have z:∃o,s.heap.get? p=uA o/\o.ExactDict:=by
    rcases hk with⟨bb,hk⟩| ⟨bb,hk⟩
    .obtain⟨_,_,_,_,o,_,_,e,ex,_⟩:=I.hok p _ hk
     exact⟨o,e,ex⟩
    .obtain⟨_,_,_,_,o,_,_,e,ex,_⟩:=I.hok p _ hk
     exact⟨o,e,ex⟩
   obtain⟨o,e,ex⟩:=z;refine⟨⟨o,e,ex.1⟩,λa e2=>?_⟩;cases e2;exact⟨o,e,ex.2.1⟩
  .obtain⟨o,_,_,_,e,ex,_⟩:=I.hok p _ hk
   refine⟨⟨o,e,ex.1⟩,λa e2=>?_⟩;cases e2;exact⟨o,e,ex.2.1⟩
 | _=>exact Ee ty
def tBM(K:Au)(T:String)(r:V->List V->Hp->VK->Prop)(to:TE)(t:TA):TE:=λσ H Q=>to σ H λx H1=>tyV K T x H1/\t σ H1 λxs H2=>r x xs H2 Q
variable{o:Expr}{t:TA}{id:String}
theorem PK(pa:PlainAttrs T)(slot:Slot T name id)(hty:typeOf (.builtin id)=pure (.type "method_descriptor"))(hm:MtR X id r)(ho:PE X o to)(ha:PA X (e::es) t)
  (tV:autoParam (N2 o name X.env (eval o X.env)=eval o X.env) zA0._auto_1)
  (kN:autoParam (((FG b9 (BQ (e::es) X.env)).all (λx=>!x.1)&&(UI b9 (PQ [] X.env)).all (λx=>x.1.isSome)
   && decide ((e::es).length+([]:List Wp).length+(if([]:List Wp).isEmpty then 0 else 1)<30))=true) zA0._auto_1)
  (sK:autoParam ((c8.endLine==b9.line)=true) zA0._auto_1) (hs:autoParam (BQ (e::es) X.env=(false,eval e X.env)::BQ es X.env) zA0._auto_1) (qe:autoParam ((FG b9 (BQ es X.env)).any (·.1)=false) zA0._auto_1) :
  PE X (.Call (.Attribute o name c8) (e::es) [] b9) (tBM X.K T r to t):=by
 intro aS s σ H Q I h;refine wpAny_Call_method_late tV kN sK rfl (thn (ho aS s σ H _ I h) λv s1 ⟨x,H1,I1,r1,ty,q1⟩=>?_);obtain⟨h1,h2⟩:=AGO I1 r1 ty;refine⟨T,id,pa,slot,hty,h1,h2,?_⟩;have hA:=ha b9 aS s1 σ H1 _ I1 q1;rw[hs] at hA ⊢;refine P0 (by show(false||(FG b9 (BQ es X.env)).any (·.1))=false;rw[qe]<;>rfl) (MT ?_);exact thn hA λus s2 ⟨vs,H2,I2,r2,q2⟩=>hm aS s2 σ H2 x vs v us Q I2 r1 r2 q2
end
def MtM(X:Cx)(id:String)(r:V->List V->Hp->VK->Prop):Prop :=
 ∀(aS:uQ) (s:AA) (σ:St) (H:Hp) (x:V) (xs:List V) (v:As) (us:List As) (Q:VK),Inv X aS σ H s->RelV x v->Vals xs us->r x xs H Q ->
  wpAny (AM X.prog X.w) X.A (call (.builtin id) (v::us)) (EP X aS σ Q) X.xe s
theorem Vals.one:∀{x:V}{us:List As},Vals [x] us->∃u,us=[u]/\RelV x u
 | _,_,.cons r .nil=>⟨_,rfl,r⟩
theorem Vals.two:∀{x y:V}{us:List As},Vals [x,y] us->∃u v,us=[u,v]/\RelV x u/\RelV y v
 | _,_,_,.cons r (.cons q .nil)=>⟨_,_,rfl,r,q⟩
theorem Vals.eraseIdx:∀{xs:List V}{us:List As} (i:Nat),Vals xs us->Vals (xs.eraseIdx i) (us.eraseIdx i)
 | _,_,_,.nil=>.nil
 | _,_,0,.cons _ t=>t
 | _,_,i+1,.cons r t=>.cons r (Vals.eraseIdx i t)
theorem Vals.rep(h:Vals xs us):∀k:Nat,Vals (Cb k xs).flatten (Cb k us).flatten
 | 0=>.nil
 | k+1=>by
  rw[IJ,IJ,LO,LO];exact Vals.append h (Vals.rep h k)
theorem Ol{α:Type}:∀(l:List α) (i:Nat),(l.eraseIdx i).length<=l.length
 | [],_=>AF _
 | _::_,0=>LZ _
 | _::r,i+1=>OV (Ol r i)
theorem foldl_rep(bg:List As):∀(k:Nat) (bX:List As),
  Z4 (λx1 x2=>x1++x2) bX.toArray (Cb k bg.toArray)=(bX++(Cb k bg).flatten).toArray
 | 0,bX=>by simp
 | k+1,bX=>by
  have e:bX.toArray++bg.toArray=(bX++bg).toArray:=by simp
  have e2:(bX++bg)++(Cb k bg).flatten=bX++(Cb (k+1) bg).flatten:=by
   rw[IJ,LO,B9]
  rw[<- e2,<- foldl_rep bg k (bX++bg),<- e,IJ,MU]
section
variable{zs:List V}
theorem Inv.lset{f:Array As->Array As}(I:Inv X aS σ H s)(hH:H l=uA (.lst xs))
  (e:s.heap.get? l=uA {cls:=.type "list",data:=.seq bg.toArray n}) (hf:f bg.toArray=its'.toArray) (hv:Vals ys its') (hz:ys.length<=sizeLine) :
  Inv X aS σ (upd H l (.lst ys)) {s with heap:=s.heap.update l (Eg f),toks:=t'}:=by
 have q:=PySem.IsL.update e f;rw[hf] at q;refine I.write (x:=l) (e:=l) (by rw[hH];exact trivial) (.inl rfl) (λb' u hb hu=>(DA s.heap (Eg f) (CF hb)).trans hu) ⟨_,q⟩ ?_;exact⟨hz,its',_,hv,q⟩
theorem Inv.lstM(I:Inv X aS σ H s)(hH:H l=uA (.lst xs)):xs.length<=sizeLine/\∃(bg:List As) (n:Nat),Vals xs bg/\xs.length=bg.length/\s.heap.get? l=uA {cls:=.type "list",data:=.seq bg.toArray n}:=by
 obtain⟨z,bg,n,r,e⟩:=I.hok l _ hH;exact⟨z,bg,n,r,r.length,e⟩
end
def AEP:V->List V->Hp->VK->Prop:=λx vs H Q=>∃l xs y,x=.ref l/\vs=[y]/\H l=uA (.lst xs)/\xs.length<sizeLine/\Q .non (upd H l (.lst (xs++[y])))
theorem Ec:MtM X "list.append" AEP:=by
 intro aS s σ H x vs v us Q I rx rv h;obtain⟨l,xs,y,rfl,rfl,hH,hz,q⟩:=h;cases rx;obtain⟨u,rfl,ru⟩:=rv.one;obtain⟨z,bg,n,r,hl,e⟩:=I.lstM hH;refine MV F.slot_list_append ⟨_,e,rfl⟩ F.entry_list_append (F.args_list_append_2 _ _) (PySem.list_append l bg.toArray n u (by rw[A8];exact yb hz hl)) ⟨e,?_⟩;refine⟨.non,_,I.lset (its':=bg++[u]) hH e (by simp) (r.append (.cons ru .nil)) ?_,rfl,q⟩;rw[BN,D5];exact hz
def rPopAt:V->List V->Hp->VK->Prop:=λx vs H Q=>∃l xs i k y,x=.ref l/\vs=[.int i]/\H l=uA (.lst xs)/\-(2 ^ 63)<=i/\i<2 ^ 63/\WO i xs.length=uA k/\xs[k]?=uA y/\Q y (upd H l (.lst (xs.eraseIdx k)))
theorem ACZ:MtM X "list.pop" rPopAt:=by
 intro aS s σ H x vs v us Q I rx rv h;obtain⟨l,xs,i,k,y,rfl,rfl,hH,h1,h2,hk,hy,q⟩:=h;cases rx;obtain⟨u,rfl,ru⟩:=rv.one;obtain⟨t,rfl⟩:=ru;obtain⟨z,bg,n,r,hl,e⟩:=I.lstM hH;obtain⟨w,hw,f8⟩:=r.get hy;refine MV F.slot_list_pop ⟨_,e,rfl⟩ F.entry_list_pop (F.args_list_pop_2 _ _)
  (MeetsSeq.list_pop_at l bg.toArray n i t k w (fitsIndex_both h1 h2) (by rw[A8,<- hl];exact hk) (by rw[<- BV];exact hw) (by rw[A8];exact vj hl z)) ⟨e,?_⟩
 refine⟨y,_,I.lset (its':=bg.eraseIdx k) hH e ?_ (r.eraseIdx k) ?_,f8,q⟩
 .rw[List.eraseIdxIfInBounds_toArray]
 .have:=Ol xs k
  exact vD this z
theorem len_rep(xs:List α)(k:Nat):(Cb k xs).flatten.length=k*xs.length:=by
 induction k with
 | zero=>simp
 | succ k ih=>rw[IJ,LO,BN,ih,Nat.succ_mul,Nat.add_comm]
end L2
namespace Att
open PySem PySem.W PySem.Calls PyProof.Rows
theorem Js{P:YU}:∀(ns:uJ) (vs:List As),WellAll P h vs (ns.map ag)->FS vs ns:=by
 intro ns
 induction ns with
 | nil =>
  intro vs w;rw[MS] at w;cases w;exact .nil
 | cons n ns ih =>
  intro vs w;rw[BU] at w;cases w with
  | cons a b =>
   cases a;exact .cons _ _ (ih _ b)
theorem Ym{l:OpenLaw}(hn:l.most=uA n){P:YU}{args:List WData}{vals:List As}
  (ng:l.row.toRowW.claim.pre args=true) (hwl:WellAll P h vals args) :
  ∃a vs ns,vals=[AV a]/\args=[WData.list (ns.map ag)]/\h.get? a=uA {cls:=.type "list",data:=.seq vs.toArray}/\FS vs ns/\ns.length<=n:=by
 have hsh:=(pre_splitW ng).1;have hc:l.pre.holds [] {args:=args}=true:=(pre_splitW ng).2;obtain⟨d,r,rfl,h1,h2⟩:=hasAllW_cons hsh;obtain rfl:=hasAllW_nil h2;obtain⟨xs,rfl,h3⟩:=hasW_list h1;obtain⟨ns,rfl⟩:=items_int h3;have bv:ns.length<=n:=by
  unfold OpenLaw.pre at hc;have h4:(WTm.not (.lt (.lit (.int (n:Int))) (.len (.arg 0)))).holds [] {args:=[.list (ns.map .int)]}=true:=by
   have h4:=(holds_andW hc).1;rw[hn] at h4;exact h4
  have h5:=condW_of h4 (w_not (w_lt w_lit (w_len_list (w_arg rfl))));rw[AB] at h5;refine UA λq=>?_;have q':(n:Int)<((ns.length:Nat):Int):=vn q
  first
   | (rw[uF q'] at h5;exact uI h5 (by decide))
   | (simp at h5;lia)
 cases hwl with
 | cons w1 w2 =>
  cases w2;cases w1 with
  | list ho cw=>exact⟨_,_,ns,rfl,rfl,ho,Js ns _ cw,bv⟩
theorem ZD(l:OpenLaw)(args:List WData):l.row.toRowW.claim.post args (.bool true) args=true :=
 postW_of (r:=l.row.toRowW) (X:=(true==true))
  (show Z5 [] (.bool true) .bool=true by first| rfl| decide| simp[Z5,WShape.arms,WShape.armsAll])
  (w_eq_bool (w_res rfl) w_lit) rfl
theorem Tn{l:OpenLaw}{q:AJ}{XP:(Str->Option As)->Heap->Prop}{d:DefRec}
  (hn:l.most=uA n) (rQ:d.params.defaults=[])
  (call:∀(w:AQ) (s₀ s₁:AA) (mg mb:Str->Option As) (fa:Addr) (o:Obj) (pm cd ck:As) (a:Addr) (vs:List As) (ns:uJ),
   Ground q fh [] XP w s₀ mg mb s₁.heap->YP w s₁.heap ->
   s₁.heap.get? fa=uA o->o.data=.func (docDef d.name d.params d.body d.scope pm cd ck)->s₁.heap.CodeRec cd d.name->mg d.name=uA (.ref fa) ->
   s₁.heap.get? a=uA {cls:=.type "list",data:=.seq vs.toArray}->FS vs ns->ns.length<=n->s₁.gens=#[] ->
   codeAny (AM l.prog w) OO (.call (.ref fa) ⟨[.ref a],[]⟩) (λr s'=>r=.ok (.ret (.bool true))/\OldK s₁.heap s'.heap/\s'.os=s₁.os/\Lu s'.gens) s₁) :
  WalkO q fh XP YP l.row.toRowW d [] (λf vs=>U7 f vs):=by
 intro w s₀ s₁ mg mb G Y fa o pm cd ck dV kV ho hd js hD hmg hg args vals as ng hlay hrd hwl qi;obtain rfl:dV=.none:=Dflts.none hD rQ;obtain rfl:kV=.none:=Dflts.noKw hD;obtain⟨a,vs,ns,rfl,rfl,qo,kQ,bv⟩:=Ym hn ng hwl;refine enter_call (E8 (call w s₀ s₁ mg mb fa o pm cd ck a vs ns G Y ho (fd_plain hd) js hmg qo kQ bv hg) λr s' hq=>?_);obtain⟨rfl,h2,h3,h4⟩:=hq;exact⟨.inl ⟨.bool true,.bool true,[],rfl,λ_=>rfl,.bool true,ZD l _,λ_=>⟨LP,λ_ hm=>(nomatch hm)⟩⟩,h2,h3,h4⟩
end Att
namespace L2
open PySem PySem.Spec PyProof.Rows
theorem Oj:∀{vs:List As}{ns:uJ},FS vs ns->Vals (ns.map V.int) vs
 | _,_,.nil=>.nil
 | _,_,.cons n t h=>.cons ⟨t,rfl⟩ (Oj h)
def Only(H:Hp):Prop:=∀b,H b=uB\/∃o xs,H b=uA (.frz o (.lst xs))
theorem ABJ{mb:Str->Option As}{CX:CXT}{k:Nat}{s₁:AA}
  (KX:K.In s₁.heap) (me:s₁.heap.Ns B6 mg) (hb:s₁.heap.Ns U1 mb) (hbb:∀x:Str,x≠"__name__"->mb x=FF x) (hlim:s₁.heap.NoLimit) (hg:s₁.gens=#[])
  (ha:s₁.heap.get? a=uA {cls:=.type "list",data:=.seq vs.toArray}) (hi:FS vs ns) (hl:ns.length<=sizeLine) (hr:Room k OO)
  (F:∀base:Heap,K.In base->base.Ns B6 mg->FnOk P w K mg base CX k fa fd [x] sp) (r8:∀(s:AA) (u:As),QI s fd ⟨[u],[]⟩ [(x,u)])
  (iP:∀H:Hp,Only H->SqL K H a (ns.map V.int)->sp [.ref a] H (λv _=>v=.bl true) λ_ _ _=>False)
  (hCX:∀H e s',CX [] H s₁ (λ_ _ _=>False) e s'->False) :
  codeAny (AM P w) OO (.call (.ref fa) ⟨[.ref a],[]⟩) (λr s'=>r=.ok (.ret (.bool true))/\OldK s₁.heap s'.heap/\s'.os=s₁.os/\Lu s'.gens) s₁:=by
 have rv:=Oj hi;have lenV:=hi.length;have sP:∀H:Hp,Only H->SqL K H a (ns.map V.int)->HOk P w H s₁.heap->(∀b,H b≠none->b=a)->(H a≠none->K.lookup a=uB) ->
   codeAny (AM P w) OO (.call (.ref fa) ⟨[.ref a],[]⟩) (λr s'=>r=.ok (.ret (.bool true))/\OldK s₁.heap s'.heap/\s'.os=s₁.os/\Lu s'.gens) s₁:=by
  intro H hO hS hok hA hK;have base_of:∀{b:Addr}{o:Obj},s₁.heap.get? b=uA o->H b=none->(hidT s₁.heap H).get? b=uA o:=λe n=>ABU e n;have rF:∀{b:Addr}{o:Obj}{es:Array NS}{ep:Nat},s₁.heap.get? b=uA o->o.data=.dict es ep->H b=uB:=λ{b o es ep} e d=>by
   cases q:H b with
   | none=>rfl
   | some u =>
    have e':=hA b (by rw[q];simp);subst e';rw[ha] at e;cases e;have d':=d;cases d'
  have nsK:∀{b:Addr}{m:Str->Option As},s₁.heap.Ns b m->(hidT s₁.heap H).Ns b m:=λ{b m} ⟨o,es,ep,e,d,r⟩=>⟨o,es,ep,base_of e (rF e d),d,r⟩;have hKb:K.In (hidT s₁.heap H):=λb o e=>base_of (KX b o e) (by
   cases q:H b with
   | none=>rfl
   | some u =>
    have e':=hA b (by rw[q];simp);subst e';rw[hK (by rw[q];simp)] at e;cases e)
  have hM:Mod K mg (hidT s₁.heap H):=⟨hKb,nsK me,⟨mb,nsK hb,hbb⟩,let ⟨mc,h1,h2⟩:=hlim;⟨mc,nsK h1,h2⟩⟩;have e0:Env0 P w K mg (hidT s₁.heap H) OO [] s₁ H:=⟨rfl,hM,λb o e=>AEp e,J3 (AAc _ _),trivial,λb hb=>uI (show b∈([]:uX) from hb) (by simp),hok,.of_eq hg⟩;refine E8 ((F _ hKb (nsK me)).run OO [] s₁ H ⟨[.ref a],[]⟩ [.ref a] [.ref a] _ _ hr e0 (r8 s₁ (.ref a)) (.cons rfl .nil) (iP H hO hS)) λr s' h=>?_;cases r with
  | error e=>exact(hCX H e s' h).elim
  | ok fl =>
   cases fl with
   | next=>exact Ee h
   | brk=>exact Ee h
   | cont=>exact Ee h
   | ret u =>
    obtain⟨v,H',os,bare,un,hok',r',q⟩:=h;have q':=q;subst q';obtain rfl:u=U0 true:=r';refine⟨rfl,OldK.of_keep λb o e=>?_,os,bare⟩;cases q:H b with
    | none=>exact un.keep b o e q (by intro z;exact uI (show b∈([]:uX) from z) (by simp)) (by simp)
    | some u =>
     rcases hO b with z| ⟨ob,xs,z⟩
     .rw[q] at z;cases z
     .have z2:=un.frzs b ob _ z
      obtain⟨e1,_⟩:=hok b _ z;obtain⟨e2,_⟩:=hok' b _ z2;rw[e] at e1;cases e1;exact e2
 cases hk:K.lookup a with
 | some o =>
  have e:=KX a o hk;rw[ha] at e;cases e;refine sP (λ_=>uB) (λ_=>.inl rfl) (.inr ⟨_,vs.toArray,_,hk,rfl,rfl,rfl,by rw[A8,lenV];exact hl,by simpa using rv⟩) (λb u z=>by have z':=z;cases z') (λb z=>uI rfl z) λz=>uI rfl z
 | none =>
  refine sP (λb=>if b=a then uA (.frz {cls:=.type "list",data:=.seq vs.toArray} (.lst (ns.map V.int))) else uB) (λb=>?_) (.inl (.inr ⟨{cls:=.type "list",data:=.seq vs.toArray},uE rfl⟩)) (λb u z=>?_) (λb z=>?_) λ_=>hk
  .by_cases hb:b=a
   .exact .inr ⟨_,_,uE hb⟩
   .exact .inl (uD hb)
  .by_cases hb:b=a
   .have z':=(uE hb).symm.trans z
    cases z';subst hb;exact⟨ha,by rw[AB];exact hl,vs,_,rv,ha⟩
   .have z':=(uD hb).symm.trans z
    cases z'
  .by_cases hb:b=a
   .exact hb
   .exact uI (uD hb) z
theorem ADq{l:Pm}{k:Nat}{q:AJ}{XP:(Str->Option As)->Heap->Prop}{d:DefRec}{K:YU->Au}{CX:AQ->CXT}{sp:AQ->Sp}
  (hn:l.most=uA n) (hn2:n<=sizeLine) (rQ:d.params.defaults=[]) (hr:Room k OO)
  (hY:∀(w:AQ) (h:Heap),YP w h->(K w.params).In h)
  (F:∀(w:AQ) (mg:Str->Option As) (fa:Addr) (h:Heap),(K w.params).In h->h.Ns B6 mg->mg d.name=uA (.ref fa) ->
   ∃fd:BA,(∀(s:AA) (u:As),QI s fd ⟨[u],[]⟩ [(x,u)]) /\
    ∀base:Heap,(K w.params).In base->base.Ns B6 mg->FnOk l.prog w (K w.params) mg base (CX w) k fa fd [x] (sp w))
  (iP:∀(w:AQ) (H:Hp) (a:Addr) (ns:uJ),ns.length<=n->Only H->SqL (K w.params) H a (ns.map V.int)->sp w [.ref a] H (λv _=>v=.bl true) λ_ _ _=>False)
  (hCX:∀(w:AQ) (H:Hp) (s:AA) (e:As) (s':AA),CX w [] H s (λ_ _ _=>False) e s'->False) :
  WZ q fh XP YP l.row.toRowW d [] (λf vs=>U7 f vs):=by
 refine Att.Tn hn rQ λw s₀ s₁ mg mb fa o pm cd ck a vs ns G Y ho hd js hmg qo kQ bv hg=>?_;have KX:=hY w _ Y;obtain⟨fd,hb,hF⟩:=F w mg fa _ KX G.T.g hmg;exact ABJ KX G.T.g G.T.b G.T.builtins G.T.nolimit hg qo kQ (BY bv hn2) hr hF hb (λH hO hS=>iP w H a ns bv hO hS) λH e s'=>hCX w H s₁ e s'
noncomputable def inClass(s:Stmt)(j:Nat):Stmt:=match s with
 | .ClassDef _ _ _ body _ _ _ _ _ _ _=>body.getD j (.Pass ⟨0,0,0,0⟩)
 | _=>.Pass ⟨0,0,0,0⟩
noncomputable def Dj(s:Stmt):Arguments:=match s with
 | .FunctionDef _ a _ _ _ _ _ _ _ _=>a
 | _=>{posonlyargs:=[],args:=[],vararg:=uB,kwonlyargs:=[],kw_defaults:=[],kwarg:=uB,defaults:=[]}
noncomputable def CP(s:Stmt):List Stmt:=match s with
 | .FunctionDef _ _ b _ _ _ _ _ _ _=>b
 | _=>[]
noncomputable def Ai(s:Stmt):FL:=match s with
 | .FunctionDef _ _ _ _ _ _ sc _ _ _=>sc
 | _=>{kind:=.function,names:=[],isGenerator:=false,isCoroutine:=false}
abbrev CX0:CXT:=λ_ _ _ _ _ _=>False
abbrev E0:XK:=λ_ _ _=>False
theorem pass0:Passes CX0 X E0:=λ_ _ _ _ _ _ _ h=>h.elim
structure Cal(P:AJ)(w:AQ)(K:Au)(mg:Str->Option As)(base:Heap)(n:Nat)(f:Addr)(fd:BA)(x:Str)(ps:uT)(sp:Sp):Prop where
 G:FnOk P w K mg base CX0 n f fd ps sp
 b:Binds K fd ps []
 k:DU K (.ref f)=true
 m:mg x=uA (.ref f)
theorem Az{t:TA}{p:Pos}(c:Cal X.prog X.w X.K X.mg X.base n f fd x ps sp)(hr:Room n X.A)(hg:Gl X x)
  (ha:PA X (e::es) t) (gv:autoParam ((x==("__debug__" : Str))=false) zA1._auto_1) (he:autoParam (BQ (e::es) X.env=(false,eval e X.env)::BQ es X.env) zA0._auto_1) (fk:autoParam ((FG pos (BQ es X.env)).any (·.1)=false) zA0._auto_1) :
  PE X (.Call (.Name x p) (e::es) [] pos) (AAt sp [] E0 t):=Ie c.G hr hg c.m c.k c.b .nil pass0 ha gv he fk
structure Fun(K:Au)(x qual:Str)(st:Stmt)(f:Addr)(fd:BA):Prop where
 ex:∃(oc:As) (od:Option Addr) (kV ck pm:As) (an:Option Addr) (bE ct:As) (io:Array (Option As)),
  fd=E9 x qual (Dj st) (CP st) (Ai st) .none kV ck pm an bE ct/\K.lookup f=uA ⟨oc,od,.func fd,io⟩/\Iy K bE qual=true
 kp:DU K (.ref f)=true
theorem Fun.ok{st:Stmt}{N:uT}{k:Nat}(F:Fun K x qual st f fd)(S:FnScope N ps (Ai st))(len:∀vs H Q E,sp vs H Q E->vs.length=ps.length)
  (gm:∀(bE:As) (A:BB) (outer:List Env) (s:AA) (H:Hp) (vs:List V) (Q:VK) (E:XK),Room k (A.deeper (MO qual (Ai st) s.heap.objs.size f bE))->sp vs H Q E ->
   ∃t,PSs (cxOf CX0 P w K mg base N qual (Ai st) f bE A outer s H E).nox (CP st) t/\t {nx:=λ_ H'=>Q .non H',rt:=Q} (start N vs) H):FnOk P w K mg base CX0 (k+1) f fd ps sp:=by
 obtain⟨oc,od,kV,ck,pm,an,bE,ct,io,rfl,lk,js⟩:=F.ex;refine AFR lk js S len λA outer s H vs Q E hr iP=>?_;obtain⟨t,h,q⟩:=gm bE A outer s H vs Q E hr iP;exact⟨t,h.nox,q⟩
theorem Fun.binds{st:Stmt}(F:Fun K x qual st f fd)
  (h:∀(kV ck pm:As) (an:Option Addr) (bE ct:As) (us:List As),us.length=ps.length->UH (E9 x qual (Dj st) (CP st) (Ai st) .none kV ck pm an bE ct) ⟨us,[]⟩=pure (ps.zip us)):Binds K fd ps []:=by
 obtain⟨oc,od,kV,ck,pm,an,bE,ct,io,rfl,lk,js⟩:=F.ex;exact .all (h kV ck pm an bE ct)
theorem LC{st:Stmt}{kV:As}(l:K.lookup f=uA ⟨oc,od,.func (E9 x qual (Dj st) (CP st) (Ai st) .none kV ck pm an bE ct),io⟩)
  (c:Iy K bE qual=true) (k:DU K (.ref f)=true):Fun K x qual st f (E9 x qual (Dj st) (CP st) (Ai st) .none kV ck pm an bE ct):=⟨⟨oc,od,kV,ck,pm,an,bE,ct,io,rfl,l,c⟩,k⟩
theorem BZ(h:n<=1000):n<sizeLine:=EL h (by decide)
theorem pv(i:Nat)(hN:autoParam (X.N[i]?=uA x) zA0._auto_1)(hv:Vis X.env.scope x:=by first| exact IT rfl| exact NO (IT rfl)| exact NO (NO rfl))(hd:autoParam ((x==("__debug__" : Str))=false) zA1._auto_1)
  (js:autoParam ((x==("__classdict__" : Str))=false) zA1._auto_1):PE X (.Name x pos) (AFq i):=AGe hN hv hd js
theorem iteF{A B:Prop}(h:B):if false=true then A else B:=by
 rw[uD By];exact h
theorem iteT{A B:Prop}(h:A):if true=true then A else B:=by
 rw[uE rfl];exact h
theorem ite2{c A B:Prop}[Decidable c](h1:c->A)(h2:¬ c->B):if c then A else B:=by
 by_cases h:c
 .rw[uE h]
  exact h1 h
 .rw[uD h]
  exact h2 h
def Same(H H':Hp):Prop:=∀b o,H b=uA o->H' b=uA o
theorem Same.refl(H:Hp):Same H H:=λ_ _ h=>h
theorem Same.trans(a:Same H H1)(b:Same H1 H2):Same H H2:=λc o h=>b c o (a c o h)
theorem Same.free(e:Same H H')(h:H' l=ZY):H l=ZY:=by
 cases q:H l with
 | none=>rfl
 | some o =>
  rw[e l o q] at h;cases h
theorem Same.seq(e:Same H H')(h:SqL K H a xs):SqL K H' a xs:=by
 rcases h with(h| ⟨o,h⟩)| h
 .exact .inl (.inl (e _ _ h))
 .exact .inl (.inr ⟨o,e _ _ h⟩)
 .exact .inr h
noncomputable def cloOf(cells:List (Str×Addr)):List (Str×IA)->List (Str×Addr)->List (Str×Addr)
 | [],cs=>cs
 | (n,k)::r,cs=>cloOf cells r (if k == .free then match cells.lookup n with| some c=>(n,c)::cs| none=>cs else cs)
theorem Oc{cells:List (Str×Addr)}:∀{names:List (Str×IA)}{cs:List (Str×Addr)},(∀x c,cs.lookup x=uA c->cells.lookup x=uA c)->∀x c,(cloOf cells names cs).lookup x=uA c->cells.lookup x=uA c
 | [],_,h=>h
 | (n,k)::r,cs,h=>by
  unfold cloOf;refine Oc (names:=r) ?_;intro x c e;by_cases hk:(k==C1)=true
  .rw[uE hk] at e
   cases q:cells.lookup n with
   | none=>rw[q] at e;exact h x c e
   | some d =>
    rw[q] at e;rw[EC] at e;cases hx:x==n with
    | true =>
     rw[hx] at e;have hxn:x=n:=eq_of_beq hx;subst hxn;rw[q];exact e
    | false=>rw[hx] at e;exact h x c e
  .rw[uD hk] at e;exact h x c e
theorem cloOf_mono{cells:List (Str×Addr)}{x:Str}:∀{names:List (Str×IA)}{cs:List (Str×Addr)},(cs.lookup x).isSome=true->((cloOf cells names cs).lookup x).isSome=true
 | [],_,h=>h
 | (n,k)::r,cs,h=>by
  unfold cloOf;refine cloOf_mono (names:=r) ?_;by_cases hk:(k==C1)=true
  .rw[uE hk]
   cases q:cells.lookup n with
   | none=>exact h
   | some d =>
    show(FH x ((n,d)::cs)).isSome=true;rw[EC];cases hx:x==n with
    | true=>rfl
    | false=>exact h
  .rw[uD hk];exact h
theorem Ny{cells:List (Str×Addr)}{x:Str}(hc:(cells.lookup x).isSome=true):∀{names:List (Str×IA)}{cs:List (Str×Addr)},(x,C1)∈names->((cloOf cells names cs).lookup x).isSome=true
 | [],_,h=>by cases h
 | (n,k)::r,cs,h=>by
  unfold cloOf;rcases AS.mp h with e| h
  .cases e
   refine cloOf_mono ?_;rw[uE (show(C1==C1)=true from rfl)];obtain⟨d,q⟩:=F4.mp hc;rw[q];rw[EC,beq_self_eq_true];rfl
  .exact Ny hc h
theorem VD{env:Env}:∀(names:List (Str×IA)) (cs:List (Str×Addr)),(∀y∈names,y.2=.free->(env.cells.lookup y.1).isSome=true) ->
  (forIn names cs λ(x:Str×IA) (r:List (Str×Addr))=>match x with
   | (name,kind)=>if(kind == .free)=true then do let c <- cellOf env name;pure (CS ((name,c)::r)) else pure (CS r):Sem (List (Str×Addr)))=pure (cloOf env.cells names cs)
 | [],cs,_=>rfl
 | (n,k)::r,cs,h=>by
  have hr:∀y∈r,y.2=.free->(env.cells.lookup y.1).isSome=true:=λy hy=>h y (AL _ hy);rw[List.forIn_cons];unfold cloOf;by_cases hk:(k==C1)=true
  .have hf:k=.free:=by simpa using hk
   obtain⟨d,q⟩:=F4.mp (h (n,k) AI hf);have q':=q;have iA:cellOf env n=pure d:=by unfold cellOf;rw[q']
   simp only[hk,if_true,iA,pure_bind,q'];exact VD r _ hr
  .simp only[hk,if_false,pure_bind,Ct]
   exact VD r _ hr
theorem ACG{env:Env}(h:∀y∈scope.names,y.2=.free->(env.cells.lookup y.1).isSome=true):closureFor scope env=pure (cloOf env.cells scope.names []):=by
 unfold closureFor;have e:=VD (env:=env) scope.names [] h;simp only[bind_pure];exact e
theorem Dv{env:Env}:∀{names:List (Str×IA)}{x:Str},names.lookup x=uA .free ->
  (names.map λ(n,k)=>if(k==C1&&env.scope.kind == .function&&env.kindOf n==uA .cell) then(n,HI) else(n,k)).lookup x=uA .cell \/
  (names.map λ(n,k)=>if(k==C1&&env.scope.kind == .function&&env.kindOf n==uA .cell) then(n,HI) else(n,k)).lookup x=uA .free
 | [],_,h=>by simp at h
 | (n,k)::r,x,h=>by
  have ih:=@Dv env r x;rw[BU];show FH x ((if(k==C1&&env.scope.kind == .function&&env.kindOf n==uA .cell)=true then(n,HI) else(n,k))::_)=_\/FH x ((if(k==C1&&env.scope.kind == .function&&env.kindOf n==uA .cell)=true then(n,HI) else(n,k))::_)=_;cases hx:x==n with
  | true =>
   rw[EC,hx] at h;have hk:k=.free:=by simpa using h
   by_cases hc:(k==C1&&env.scope.kind == .function&&env.kindOf n==uA .cell)=true
   .rw[uE hc];left;rw[EC,hx]
   .rw[uD hc];right;rw[EC,hx,hk]
  | false =>
   rw[EC,hx] at h;by_cases hc:(k==C1&&env.scope.kind == .function&&env.kindOf n==uA .cell)=true
   .rw[uE hc];rw[EC,hx];exact ih h
   .rw[uD hc];rw[EC,hx];exact ih h
theorem Jq{env:Env}{x:Str}:∀{names:List (Str×IA)},(∀y∈names,y.2≠.cell) ->
  (
   (names.map λ(n,k)=>if(k==C1&&env.scope.kind == .function&&env.kindOf n==uA .cell) then(n,HI) else(n,k)).lookup x=uA .cell \/
   (names.map λ(n,k)=>if(k==C1&&env.scope.kind == .function&&env.kindOf n==uA .cell) then(n,HI) else(n,k)).lookup x=uA .free)->(x,C1)∈names
 | [],_,h=>by simp at h
 | (n,k)::r,hc,h=>by
  have ih:=@Jq env x r λy hy=>hc y (AL _ hy);rw[BU] at h;have h':FH x ((if(k==C1&&env.scope.kind == .function&&env.kindOf n==uA .cell)=true then(n,HI) else(n,k))::_)=_\/FH x ((if(k==C1&&env.scope.kind == .function&&env.kindOf n==uA .cell)=true then(n,HI) else(n,k))::_)=_:=h;by_cases hb:(k==C1&&env.scope.kind == .function&&env.kindOf n==uA .cell)=true
  .rw[uE hb] at h'
   have hk:k=.free:=by simp at hb;exact hb.1.1
   rw[EC] at h';cases hx:x==n with
   | true =>
    have:x=n:=eq_of_beq hx;subst this;subst hk;exact AI
   | false=>rw[hx] at h';exact AL _ (ih h')
  .rw[uD hb] at h'
   rw[EC] at h';cases hx:x==n with
   | true =>
    rw[hx] at h';have:x=n:=eq_of_beq hx;subst this;rcases h' with h' | h'
    .exact uI (BO h') (hc (x,k) AI)
    .have hk:=BO h'
     subst hk;exact AI
   | false=>rw[hx] at h';exact AL _ (ih h')
noncomputable def compOk(iF sc:FL):Bool :=
 (decide (sc.kind=.function))&&sc.names.all (λy=>decide (y.2≠.cell))&&sc.names.all (λy=>decide (y.2=.local->sc.names.lookup y.1=uA .local)) &&
  sc.names.all (λy=>decide (y.2=.free->iF.names.lookup y.1=uA .cell\/iF.names.lookup y.1=uA .free))
structure CompOk(iF sc:FL):Prop where
 kind:sc.kind=.function
 nocell:∀y∈sc.names,y.2≠.cell
 loc:∀y∈sc.names,y.2=.local->sc.names.lookup y.1=uA .local
 free:∀y∈sc.names,y.2=.free->iF.names.lookup y.1=uA .cell\/iF.names.lookup y.1=uA .free
theorem CompOk.of{iF:FL}(h:compOk iF sc=true):CompOk iF sc:=by
 unfold compOk at h;rw[EB,EB,EB] at h;obtain⟨⟨⟨h1,h2⟩,h3⟩,h4⟩:=h;exact⟨uH h1,λy hy=>uH (Fa.mp h2 y hy),λy hy=>uH (Fa.mp h3 y hy),λy hy=>uH (Fa.mp h4 y hy)⟩
noncomputable abbrev cloX(X:Cx)(scope:FL):List (Str×Addr):=cloOf X.env.cells scope.names []
noncomputable def cxComp(X:Cx)(N':uT)(scope:FL)(fp:uX)(s:AA)(H:Hp):Cx where
 prog:=X.prog
 w:=X.w
 K:=X.K
 mg:=X.mg
 base:=X.base
 A:=X.A
 N:=N'
 s₀:=s
 H₀:=H
 env:=YV scope (cloX X scope) s.heap.objs.size X.env
 outer:=X.stack
 stack:=X.stack
 ex:=fp
 fn:=λ_=>false
 calm:=X.calm
 pn:=[]
 xe:=λ_ _=>False
def FreeAt(X:Cx)(sc:FL):uT->uL->Prop
 | [],[]=>True
 | x::fr,j::ix=>(X.N[j]?=uA x/\sc.names.lookup x=uA .free)/\FreeAt X sc fr ix
 | _,_=>False
noncomputable def start2(σ:St)(own:uT)(ix:uL):St:=Cb own.length uB++ix.map λj=>(σ[j]?).join
theorem Wn:∀{fr:uT}{ix:uL},FreeAt X sc fr ix->(start2 σ own ix).length=(own++fr).length:=by
 intro fr ix h;have:fr.length=ix.length:=by
  induction fr generalizing ix with
  | nil=>cases ix with
   | nil=>rfl
   | cons _ _=>exact h.elim
  | cons x fr ihf=>cases ix with
   | nil=>exact h.elim
   | cons j ix=>simp[ihf h.2]
 simp[start2,this]
theorem Kh{X:Cx}{sc:FL}{σ:St}{x:Str}{v:V}:∀{fr:uT}{ix:uL}{i:Nat},FreeAt X sc fr ix->fr[i]?=uA x->(ix.map λj=>(σ[j]?).join)[i]?=uA (uA v) ->
  ∃j:Nat,X.N[j]?=uA x/\σ[j]?=uA (uA v)/\sc.names.lookup x=uA .free
 | [],_,_,_,h,_=>by simp at h
 | _::_,[],_,h,_,_=>h.elim
 | y::fr,j::ix,0,h,h1,h2=>by
  have e1:y=x:=by simpa using h1
  subst e1;have e2:(σ[j]?).join=uA v:=by simpa using h2
  refine⟨j,h.1.1,?_,h.1.2⟩;cases q:σ[j]? with
  | none=>rw[q] at e2;cases e2
  | some o=>rw[q] at e2;cases o with
   | none=>cases e2
   | some z =>
         have:z=v:=by simpa using e2
         rw[this]
 | y::fr,j::ix,i+1,h,h1,h2=>Kh (fr:=fr) (ix:=ix) (i:=i) h.2 (by simpa using h1) (by simpa using h2)
theorem Wu(h:FreeAt X sc fr ix)(h1:(own++fr)[i]?=uA x)(h2:(start2 σ own ix)[i]?=uA (uA v)) :
  ∃j:Nat,X.N[j]?=uA x/\σ[j]?=uA (uA v)/\sc.names.lookup x=uA .free:=by
 by_cases hi:i<own.length
 .unfold start2 at h2
  rw[BC (by simpa using hi),LH,uE hi] at h2;cases h2
 .unfold start2 at h2
  rw[CB (by simpa using hi)] at h2;rw[CB (by simpa using hi)] at h1;exact Kh h h1 (by simpa using h2)
def PIfs(X:Cx)(gu:uU)(t:TT):Prop :=
 ∀(aS:uQ) (s:AA) (σ:St) (H:Hp) (Q:Bool->Hp->Prop),Inv X aS σ H s->t σ H Q ->
  wpAny (AM X.prog X.w) X.A (forIn gu true λc r=>if r=true then do let ok <- U2 c X.env (eval c X.env);pure (CS ok) else pure (CS r)) (TP X aS σ Q) X.xe s
def AGG:TT:=λ_ H Q=>Q true H
theorem Cr:PIfs X [] AGG:=λ_ _ _ H _ I h=>wpAny_tests_nil ⟨H,I,h⟩
theorem Cq{t:TT}(h:PT X c t):PIfs X [c] t:=λaS s σ H Q I hw=>wpAny_tests_one (h aS s σ H Q I hw)
theorem Gh{eI iter:Expr}{it bX:As}{env:Env}(I:Nat->AA->Prop)
  (turn:∀n s,I n s->wpAny (AM prog w) A (IU it) (λr s₁=>match r with
   | none=>R (.ok .next) s₁
   | some v=>wpAny (AM prog w) A (MH eI it v) (λ_ s₁'=>wpAny (AM prog w) A (SK eI env v) (λ_ s₂ =>
     wpAny (AM prog w) A (forIn gu true λc r=>if r=true then do let ok <- U2 c env (eval c env);pure (CS ok) else pure (CS r)) (λok s₃ =>
      if ok=true then wpAny (AM prog w) A (eval gV env) (λx s₄ =>
       wpAny (AM prog w) A (call (.builtin "list.append") [bX,x]) (λ_ s₅=>∃m,m<n/\I m s₅) (λ_ _=>False) s₄) (λ_ _=>False) s₃
      else ∃m,m<n/\I m s₃) (λ_ _=>False) s₂) (λ_ _=>False) s₁') (λ_ _=>False) s₁) (λ_ _=>False) s)
  (n:Nat) (h:I n s) :
  codeAny (AM prog w) A (.compLoop (.ListComp gV [⟨eI,iter,gu,0⟩] scope pos) 0 it bX env) R s:=by
 refine codeAny_loop rfl I (λn s hI=>?_) n h;refine wpAny_noted ?_;rw[compTurn_list];refine Ap (R6 (Ap (C5 (turn n s hI) (λr s₁ h₁=>?_) λ_ _ h'=>h'.elim)));cases r with
 | none=>exact AC h₁
 | some v =>
  refine Ap (C5 h₁ (λ_ s₁' h₁'=>?_) λ_ _ h'=>h'.elim);refine Ap (C5 h₁' (λ_ s₂ h₂=>Ap (C5 h₂ (λok s₃ h₃=>?_) λ_ _ h'=>h'.elim)) λ_ _ h'=>h'.elim);cases ok with
  | false=>exact AC ⟨rfl,h₃⟩
  | true =>
   exact Ap (Ap (C5 h₃ (λx s₄ h₄=>Ap (C5 h₄ (λ_ s₅ h₅=>AC (AC ⟨rfl,h₅⟩)) λ_ _ h'=>h'.elim)) λ_ _ h'=>h'.elim))
def Behind(X:Cx)(aS:uQ)(σ:St)(R:Hp->Prop)(C:Addr)(s':AA):Prop :=
 ∃(H':Hp) (m:Str->Option As),Inv X aS σ H' s'/\s'.heap.Ns C m/\FpOk X aS H' C/\R H'
theorem Inv.sameBut(I:Inv X aS σ H s)(f:FpOk X aS H C)(sb:EH C s.heap h'):Inv X aS σ H {s with heap:=h'}:=by
 obtain⟨f0,f1,f2,f3,f4,f5⟩:=f;exact I.turned (t':=s.toks) (λb o hb e=>(sb.2 b hb).trans e) f0 f1 f3 f4 f5
def Fl(J:It)(D:Addr)(g:TG)(tc:TT)(te:TE)(R:Hp->Prop)(τ:St)(H:Hp):Prop :=
 ∃W:Nat->Nat->St->Hp->Prop,(∃m,W 0 m τ H)/\∀i m τ H,W i m τ H ->
  (J.stop i H/\R H)\/(J.go i H/\∃N:St->Hp->Prop,(∀τ' H',N τ' H'->∃m',m'<m/\W (i+1) m' τ' H')/\∀x H',J.yld i H x H'->g x τ H' λτ2 H2=>tc τ2 H2 λb H3 =>
   if b=true then te τ2 H3 λv H4=>∃ys,H4 D=uA (.lst ys)/\ys.length<sizeLine/\N τ2 (upd H4 D (.lst (ys++[v]))) else N τ2 H3)
section
variable{iter:Expr}{g:TG}
theorem Uy{R:Hp->Prop}{h₁:Heap}{m0:Str->Option As}(hc:X.calm=true)(ok:CompOk X.env.scope scope)(dQ:FreeAt X scope fr ix)
  (hg:PG (cxComp X (own++fr) scope fp s H) tg g) (hi:PIfs (cxComp X (own++fr) scope fp s H) gu tc) (he:PE (cxComp X (own++fr) scope fp s H) gV te)
  (I3:Inv X aS σ H s) (T:Turn X.prog X.w X.K tg J fp it tn) (e9:tn 0 s.heap) (f3:∀b∈fp,FpOk X aS H b)
  (me:h₁.Ns s.heap.objs.size m0) (hsb:EH s.heap.objs.size (s.heap.push ob) h₁) (hq:Fl J D g tc te R (start2 σ own ix) H) :
  codeAny (AM X.prog X.w) X.A (.compStart (.ListComp gV [⟨tg,iter,gu,0⟩] scope pos) 0 (.ref it) (.ref D) (YV scope (cloX X scope) s.heap.objs.size X.env))
   (λr s'=>r=.ok .next/\Behind X aS σ R s.heap.objs.size s') {s with heap:=h₁,toks:=tk}:=by
 have cz:∀b o,s.heap.get? b=uA o->h₁.get? b=uA o:=λb o e=>hsb.extBut b o (BH (AW e)) (AH _ e);have sub:∀x c,(cloX X scope).lookup x=uA c->X.env.cells.lookup x=uA c:=Oc (λx c e=>by simp at e);have l4:∀x,(x,C1)∈scope.names->X.env.kindOf x=uA .cell\/X.env.kindOf x=uA .free:=λx hx=>ok.free (x,.free) hx rfl;have has:∀x,(x,C1)∈scope.names->∃c,(cloX X scope).lookup x=uA c:=λx hx=>by
  obtain⟨c,nh⟩:=I3.ok.has x (l4 x hx);exact F4.mp (Ny (by rw[nh];rfl) hx)
 have lt3:∀b∈fp,b<s.heap.objs.size:=λb hb=>by
  obtain⟨o,ho,_⟩:=T.obj 0 _ e9 b hb;exact AW ho
 have pu:∀b∈fp,b∉frs X.stack:=λb hb hs=>by
  rcases AS.mp (I3.stkSub b hs) with z| z
  .exact(f3 b hb).2.1 z
  .exact(f3 b hb).2.2.1 z
 have pX:∀b∈fp,∀x c,(cloX X scope).lookup x=uA c->c≠b:=λb hb x c h=>(f3 b hb).2.2.2.2.1 x c (sub x c h);have I4:Inv (cxComp X (own++fr) scope fp s H) [] (start2 σ own ix) H {s with heap:=h₁,toks:=tk}:=by
  refine⟨⟨I3.ok.mod,ok.kind,I3.ok.glob,I3.ok.blt,AF _,?inj,?has,?cab,I3.ok.hd,I3.ok.frames,.inl rfl,?exf,I3.bs,BY I3.ok.bsz I3.sz,?noex,pu,I3.stack,I3.stkFree⟩,
   rfl,I3.bare,Un.kept cz,⟨m0,me,?loc⟩,?cell,I3.hok.fresh (AF _),?freeC,?pin,I3.hok.kept cz,?len⟩
  case inj=>exact λx y c h1 h2=>I3.ok.inj x y c (sub x c h1) (sub y c h2)
  case has=>exact λx hx=>has x (Jq ok.nocell hx)
  case cab=>exact λx c h=>by cases h
  case exf=>exact λb hb=>⟨BH (lt3 b hb),pX b hb⟩
  case noex =>
   intro b o e hb;rcases (f3 b hb).2.2.2.1 with z| z
   .exact I3.ok.noex b o e z
   .exact uI (B5 (B5 (AW e) I3.ok.bsz) z) (Fh _)
  case loc =>
   intro i x v e1 e2 e3;obtain⟨j,a1,a2,a3⟩:=Wu dQ e1 e2;have mem:=G6 a3;obtain⟨m,hn,hl⟩:=I3.loc;have ok1:=l4 x mem;obtain⟨u,r,l⟩:=hl j x v a1 a2 (ok1.elim (λz=>.inr (.inl z)) λz=>.inr (.inr z));rcases l with⟨k,_⟩| ⟨k,c,nh,o,ho,hd⟩
   .rcases ok1 with z| z
    .rw[k] at z;cases z
    .rw[k] at z;cases z
   .obtain⟨c',sf⟩:=has x mem
    have e:=sub x c' sf;rw[nh] at e;cases e;exact⟨u,r,.inr ⟨Dv a3,c,sf,o,cz _ _ ho,hd⟩⟩
  case cell =>
   intro x c h;obtain⟨v,o,ho,hd⟩:=I3.cell x c (sub x c h);exact⟨v,o,cz _ _ ho,hd⟩
  case freeC=>exact λx c h=>I3.freeC x c (sub x c h)
  case pin=>exact λp hp=>uI (show p∈([]:uQ) from hp) (by simp)
  case len=>exact Wn dQ
 have st4:=T.keep 0 _ _ e9 λb _ o e=>cz b o e;have g9:∀{H':Hp},(∀b∈fp,H' b=uB)->∀b∈fp,FpOk (cxComp X (own++fr) scope fp s H) [] H' b:=λ{H'} hn b hb =>
  ⟨hn b hb,BH (lt3 b hb),pu b hb,.inl hb,pX b hb,λp hp=>uI (show p∈([]:uQ) from hp) (by simp)⟩
 obtain⟨W,⟨m1,w0⟩,turn⟩:=hq;have rJ:codeAny (AM X.prog X.w) X.A (.compLoop (.ListComp gV [⟨tg,iter,gu,0⟩] scope pos) 0 (.ref it) (.ref D) (YV scope (cloX X scope) s.heap.objs.size X.env))
   (λr s'=>r=.ok .next/\Behind X aS σ R s.heap.objs.size s') {s with heap:=h₁,toks:=tk}:=by
  refine Gh (λn s'=>∃i τ H',Inv (cxComp X (own++fr) scope fp s H) [] τ H' s'/\tn i s'.heap/\(∀b∈fp,H' b=uB)/\W i n τ H') ?_ m1 ⟨0,_,H,I4,st4,λb hb=>(f3 b hb).1,w0⟩;rintro n s5 ⟨i,τ5,H5,I5,qQ,fr5,w5⟩;rcases turn i n τ5 H5 w5 with⟨stop,qn⟩| ⟨go,N,hN,step⟩
  .refine thn (T.done (cxComp X (own++fr) scope fp s H) rfl rfl rfl hc i [] s5 τ5 H5 _ I5 (g9 fr5) qQ stop) λr s6 ⟨hr,I6⟩=>?_
   subst hr;obtain⟨m6,hn6,_⟩:=I6.loc;exact⟨rfl,H5,m6,I3.call' (ch:=fp) I6.os I6.base I6.hok I6.bare (λb hb=>⟨(f3 b hb).2.2.2.1,(f3 b hb).2.1,(f3 b hb).2.2.2.2.1,(f3 b hb).2.2.2.2.2⟩),hn6,I3.fpOk (AF _) I6.free,qn⟩
  .refine thn (T.item (cxComp X (own++fr) scope fp s H) rfl rfl rfl hc i [] s5 τ5 H5 _ I5 (g9 fr5) qQ go) λr s6 ⟨u,hr,h6⟩=>?_
   subst hr;refine thn h6 λ_ s7 ⟨x,H7,I7,r7,y7,st7,fr7⟩=>?_;have I7':=I7.pinned (g9 fr7) (T.obj _ _ st7);have again:∀{τ8:St}{H8:Hp}{s8:AA},Inv (cxComp X (own++fr) scope fp s H) ([]++pinsAt fp s7.heap) τ8 H8 s8->N τ8 H8 ->
     ∃m,m<n/\∃i τ H',Inv (cxComp X (own++fr) scope fp s H) [] τ H' s8/\tn i s8.heap/\(∀b∈fp,H' b=uB)/\W i m τ H':=λ{τ8 H8 s8} I8 n8=>by
    obtain⟨m',hm,w8⟩:=hN τ8 H8 n8;refine⟨m',hm,i+1,τ8,H8,I8.unpinned,T.keep _ _ _ st7 λb hb o e=>(I8.pin (b,o) (BS _ (BS _ (GD hb e)))).1,λb hb=>?_,w8⟩;obtain⟨o,e,d⟩:=T.obj _ _ st7 b hb;exact(I8.pin (b,o) (BS _ (BS _ (GD hb e)))).2.1
   refine thn (hg _ s7 τ5 H7 x u _ I7' r7 (step x H7 y7)) λ_ s8 ⟨τ8,H8,I8,q8⟩=>?_;refine thn (hi _ s8 τ8 H8 _ I8 q8) λb s9 ⟨H9,I9,q9⟩=>?_;cases b with
   | false=>exact again I9 q9
   | true =>
    refine thn (he _ s9 τ8 H9 _ I9 q9) λuv jI ⟨v,H10,I10,r10,ys,hD,hz,q10⟩=>?_;refine thn (Ec (X:=cxComp X (own++fr) scope fp s H) _ jI τ8 H10 (.ref D) [v] (.ref D) [uv] (λ_ H'=>N τ8 H') I10 rfl (.cons r10 .nil) ⟨D,ys,v,rfl,rfl,hD,hz,q10⟩) λ_ s11 ⟨_,H11,I11,_,q11⟩=>?_;exact again I11 q11
 exact codeAny_compStart_list rJ (T.self X.A 0 _ _ _ st4 rJ)
theorem Rh{R:V->Hp->Prop}(hc:X.calm=true)(ok:CompOk X.env.scope scope)(dQ:FreeAt X scope fr ix)
  (hg:∀fp s H,PG (cxComp X (own++fr) scope fp s H) tg g) (hi:∀fp s H,PIfs (cxComp X (own++fr) scope fp s H) gu tc) (he:∀fp s H,PE (cxComp X (own++fr) scope fp s H) gV te)
  (I2:Inv X aS σ H s) (T:Turn X.prog X.w X.K tg J fp it tn) (b6:tn 0 s.heap) (f2:∀b∈fp,FpOk X aS H b)
  (hq:∀D,H D=none->Fl J D g tc te (R (.ref D)) (start2 σ own ix) (upd H D (.lst []))) :
  wpAny (AM X.prog X.w) X.A (newList []) (λbX s₃=>wpAny (AM X.prog X.w) X.A (newFunctionEnv scope X.env.globals (cloX X scope) [] X.env.qual uB .none (uA X.env)) (λtG s₄ =>
   codeAny (AM X.prog X.w) X.A (.compStart (.ListComp gV [⟨tg,iter,gu,0⟩] scope pos) 0 (.ref it) bX {tG with scope:=relabel scope X.env})
    (λr s'=>r=.ok .next/\∃v,RelV v bX/\Behind X aS σ (R v) tG.locals s') s₄) E s₃) E s:=by
 refine C8 (wpAny_newFunctionEnv ok.nocell (by intro y hy;simp at hy) (λh₁ hns₁ hsb₁=>?_) ok.kind);have hD:=I2.hok.fresh (AF _);have I3:Inv X aS σ (upd H s.heap.objs.size (.lst [])) {s with heap:=s.heap.push {cls:=.type "list",dict:=uB,data:=.seq ([]:List As).toArray}} :=
  I2.laid (t':=s.toks) (λb u e=>AH _ e) (AF _) ⟨A7 _,[],0,.nil,AT _ rfl⟩
 have e9:tn 0 (s.heap.push {cls:=.type "list",dict:=uB,data:=.seq ([]:List As).toArray}):=T.keep 0 _ _ b6 λb _ o e=>AH _ e;have f3:∀b∈fp,FpOk X aS (upd H s.heap.objs.size (.lst [])) b:=λb hb=>by
  obtain⟨f0,fr⟩:=f2 b hb;obtain⟨o,ho,_⟩:=T.obj 0 _ b6 b hb;exact⟨by rw[Ah (BH (AW ho))];exact f0,fr⟩
 refine E8 (Uy (R:=R (.ref s.heap.objs.size)) (D:=s.heap.objs.size) hc ok dQ (hg _ _ _) (hi _ _ _) (he _ _ _) I3 T e9 f3 hns₁ hsb₁ (hq _ hD)) λr s' ⟨e,b⟩=>⟨e,V.ref s.heap.objs.size,rfl,b⟩
def AFN(own:uT)(ix:uL)(wi:TI)(g:TG)(tc:TT)(te:TE):TE:=λσ H Q=>wi σ H λJ H1=>∀D,H1 D=none->Fl J D g tc te (Q (.ref D)) (start2 σ own ix) (upd H1 D (.lst []))
end
section
variable{iter:Expr}{g:TG}{wi:TI}
theorem Nj(I:Inv X aS σ H s)(ok:CompOk X.env.scope scope):∀y∈scope.names,y.2=.free->(X.env.cells.lookup y.1).isSome=true:=λy hy hf=>by
 obtain⟨c,h⟩:=I.ok.has y.1 (ok.free y hy hf);rw[h];rfl
theorem Ce(iF:FL)(own fr:uT)(ix:uL)(hc:X.calm=true)(ho:X.env.scope=iF)(hok:compOk iF scope=true)(dQ:FreeAt X scope fr ix)(df:PI X tg iter wi)
  (hg:∀fp s H,PG (cxComp X (own++fr) scope fp s H) tg g) (hi:∀fp s H,PIfs (cxComp X (own++fr) scope fp s H) gu tc) (he:∀fp s H,PE (cxComp X (own++fr) scope fp s H) gV te)
  (hs:autoParam (∀x,Os iter X.env x=pure x) zA2._auto_1):PE X (.ListComp gV [⟨tg,iter,gu,0⟩] scope pos) (AFN own ix wi g tc te):=by
 intro aS s σ H Q I h;have ok:=CompOk.of (ho ▸ hok);rw[eval_ListComp];refine OW (use:=uB) rfl hs (ACG (Nj I ok)) ok.kind ok.loc (thn (df aS s σ H _ I h) λxv s₁ h₁=>thn h₁ λitv s₂ h₂=>?_);obtain⟨it,fp,tn,J,H2,rfl,I2,T,b6,f2,hq⟩:=h₂;refine thn (Rh (R:=Q) hc ok dQ hg hi he I2 T b6 f2 hq) λbX s₃ h₃=>thn h₃ λtG s₄ h₄=>E8 h₄ λr s' ⟨hr,v,rv,H',m,I',hn,fpo,q⟩=>?_;subst hr;exact⟨m,hn,λh' sb=>⟨v,H',I'.sameBut fpo sb,rv,q⟩⟩
set_option tactic.hygienic true in
theorem HS(iF:FL)(own fr:uT)(ix:uL)(hN:X.N.Nodup)(hx:X.N[i]?=uA x)(hl:Loc X.env.scope x)(hc:X.calm=true)(ho:X.env.scope=iF)(hok:compOk iF scope=true)(dQ:FreeAt X scope fr ix)(df:PI X tg iter wi)
  (hg:∀fp s H,PG (cxComp X (own++fr) scope fp s H) tg g) (hi:∀fp s H,PIfs (cxComp X (own++fr) scope fp s H) gu tc) (he:∀fp s H,PE (cxComp X (own++fr) scope fp s H) gV te)
  (hsw:autoParam (K2 (.ListComp gV [⟨tg,iter,gu,0⟩] scope pos) (uA (.Name x b7)) kT.line X.env=pure true) zA0._auto_1) (hs:autoParam (∀x,Os iter X.env x=pure x) zA2._auto_1)
  (hf:autoParam (X.fn x=true\/X.env.scope.names.lookup x=uA .local) zB1._auto_1) :
  PS X (.Assign [.Name x b7] (.ListComp gV [⟨tg,iter,gu,0⟩] scope pos) kT) (ADZ (AFN own ix wi g tc te) (gName i)):=by
 intro aS s σ H D I h;have ok:=CompOk.of (ho ▸ hok);rw[exec_Assign_Name_used _ _ _ _ hsw];refine Ap (R6 (Ap ?_));refine Ap (C5 (OW (use:=uA (SK (.Name x b7) X.env)) (Q:=λ_ s'=>SP X aS D .next s') rfl hs (ACG (Nj I ok)) ok.kind ok.loc
  (thn (df aS s σ H _ I h) λxv s₁ h₁=>thn h₁ λitv s₂ h₂=>?_)) (λ_ s' hq=>AC (AC hq)) λ_ _ e=>e)
 obtain⟨it,fp,tn,J,H2,rfl,I2,T,b6,f2,hq⟩:=h₂;refine thn (Rh (R:=λv H'=>D.nx (σ.set i (uA v)) H') hc ok dQ hg hi he I2 T b6 f2 hq) λbX s₃ h₃=>thn h₃ λtG s₄ h₄=>E8 h₄ λr s' ⟨hr,v,rv,H',m,I',hn,fpo,q⟩=>?_;subst hr;refine TH (Pj I' hN hx hl rv (λpK I'' kC=>?_) hf);obtain⟨a,sb,ha⟩:=kC;have hCa:tG.locals≠a:=by
  rcases ha with z| z
  .rw[z];exact fpo.2.1
  .exact λe=>fpo.2.2.2.2.1 x a z e.symm
 exact⟨m,hn.sameBut sb hCa,λh' sb'=>⟨_,H',I''.sameBut fpo sb',q⟩⟩
end
theorem Io{items}{x:As}(df:s.heap.IsTupleIter it l i)
  (hl:s.heap.IsTuple l items) (hx:items[i]?=uA x)
  (hQ:∀h',h'.IsTupleIter it l (i+1)->EH it s.heap h'->Q x {s with heap:=h'}) :
  wpAny (AM prog w) A (Ic (.ref it)) Q E s:=by
 obtain⟨o,ho,hc,hd⟩:=id df;obtain⟨ol,qy,_,nl,rh⟩:=hl;unfold Ic;refine Ap (wpAny_callSpecial?_slot (name:=F6 "__next__") df.typeIs HK
  (Dx HK df.typeIs NU ?_ (No _)))
 show wpAny _ _ (field (.ref it) 0 >>= _) _ _ s;refine Ap (ES ho hd (x:=.ref l) rfl ?_);rw[uD (show ¬ ((AV l==CY)=true) from By)];refine Ap (ES ho hd (x:=.int i 0) rfl ?_);refine Ap (Fk qy rh ?_);simp only[Cf,hx];refine Ap (FU ho hd (by simp) (AC ⟨x,rfl,AC (hQ _ ?_ (D4 ..))⟩));exact⟨_,Db _ ho (EX (Da hd _)),(J1 ..).trans hc,by
  rw[Da hd];simp[EM]⟩
theorem JL{items}(hh:A.handled=uB)
  (df:s.heap.IsTupleIter it l i) (hl:s.heap.IsTuple l items) (hx:items[i]?=uB)
  (hE:∀h' e,T6 it s.heap h'->(∃o,h'.get? e=uA o/\o.cls=.type "StopIteration")->E (.ref e) {s with heap:=h'}) :
  wpAny (AM prog w) A (Ic (.ref it)) Q E s:=by
 obtain⟨o,ho,hc,hd⟩:=id df;obtain⟨ol,qy,_,nl,rh⟩:=hl;unfold Ic;refine Ap (wpAny_callSpecial?_slot (name:=F6 "__next__") df.typeIs HK
  (Dx HK df.typeIs NU ?_ (No _)))
 show wpAny _ _ (field (.ref it) 0 >>= _) _ _ s;refine Ap (ES ho hd (x:=.ref l) rfl ?_);rw[uD (show ¬ ((AV l==CY)=true) from By)];refine Ap (ES ho hd (x:=.int i 0) rfl ?_);refine Ap (Fk qy rh ?_);simp only[Cf,hx];refine Ap (F7 (Ap (FU ho hd (by simp) ?_)));refine Ap ?_;refine Ap (C8 ?_ (by size_fits));refine Ap (m:=J4 _ _) (L7 (a:=CY) (by first| rfl| (simp only[J4];rfl)) ?_);refine C8 ?_ (by size_fits);refine Ap (R9 ?_)
 first| rw[show A.in1.handled=uB from hh]| rw[hh]
 refine Ap (AC (T7 ?_));exact hE _ _ (((D4 ..).extBut.push _).push _) ⟨_,AT _ rfl,rfl⟩
theorem Ep(hh:A.handled=uB)(it l:Addr)(gI:l≠it)(items:Array As) :
  RI prog w A it [it,l] items.size (λi v=>items[i]?=uA v) (λi h=>h.IsTupleIter it l i/\h.IsTuple l items) where
 live:=λ_ _ st=>let ⟨o,ho,_⟩:=st.1;⟨o,ho⟩
 frame:=λ_ _ _ st hk=>⟨st.1.at λo e=>hk it (by simp) o e,st.2.at λo e=>hk l (by simp) o e⟩
 item:=λi s Q E hi st hQ=>by
  refine Io st.1 st.2 (x:=items[i]) (by simp[hi]) λh' iO kR=>?_;exact hQ _ h' s.toks (by simp[hi]) ⟨iO,st.2.extBut kR.extBut gI⟩ kR
 done:=λs Q E st hE=>JL hh st.1 st.2 (by simp) hE
section
open AutoSeq1 (wpAny_loadPart')
set_option tactic.hygienic true in
theorem HB(l:Addr)(items:Array As)(n:Nat)(dct:Option Addr)(sl:Array (Option As)) :
  Meets (Builtin.«enumerate.__new__» ⟨[.type "enumerate",.ref l],[]⟩) (λ_ R s=>s.heap.get? l=uA {cls:=.type "tuple",dict:=dct,data:=.seq items n,slots:=sl} /\
   R (.ok (.ret (.ref (s.heap.push {cls:=.type "tuple_iterator",data:=.fields #[.ref l,.int 0 0]}).objs.size)))
    {s with heap:=(s.heap.push {cls:=.type "tuple_iterator",data:=.fields #[.ref l,.int 0 0]}).push {cls:=.type "enumerate",data:=.fields #[.none,.bool false,.ref s.heap.objs.size,EM 0,.none,.none]}}) :=
 .of_wp λprog w A R s h=>by
  obtain⟨hp,g,d,tk,os⟩:=s;obtain⟨hl,h⟩:=h;have nX:=sub_enumerate;have hL:YY (ZZ ⟨hp,g,d,tk,os⟩) l items:=⟨_,hl,rfl,n,rfl⟩
  wp_walk using wpAny_loadPart' hl
  refine wpAny_stack_any λst=>AC ?_;split
  .rename_i c _ _ _ _ _
   cases (c==C4 "enumerate")
   .wp_walk using wpAny_loadPart' hl,E6 hL
    exact⟨_,rfl,h⟩
   .wp_walk using wpAny_loadPart' hl,E6 hL
    exact⟨_,rfl,h⟩
  .wp_walk using wpAny_loadPart' hl,E6 hL
   exact⟨_,rfl,h⟩
end
theorem Gj(hL:s.heap.IsTuple l items)
  (h:∀h',U8 h' (s.heap.objs.size+1) s.heap.objs.size 0 .none->h'.IsTupleIter s.heap.objs.size l 0->h'.objs.size=s.heap.objs.size+2 ->
   (∀b o,s.heap.get? b=uA o->h'.get? b=uA o)->Q (.ref (s.heap.objs.size+1)) {s with heap:=h'}) :
  wpAny (AM prog w) A (call (.type "enumerate") [.ref l]) Q E s:=by
 obtain⟨⟨c,dct,dt,sl⟩,hl,hc,n,hd⟩:=hL
 replace hc:c=.type "tuple":=hc
 replace hd:dt=.seq items n:=hd
 subst hc hd;refine SV F.called_enumerate (by decide) (F.typeCall_enumerate_1 _) (F.newCall_enumerate_1 _) (λobj=>F.args_object_init_2 obj _) F.entry_enumerate_new
  (HB l items n dct sl) ⟨hl,?_⟩
 have hz:(s.heap.push {cls:=.type "tuple_iterator",data:=.fields #[.ref l,.int 0 0]}).objs.size=s.heap.objs.size+1:=Do ..;rw[hz];have he:U8 ((s.heap.push {cls:=.type "tuple_iterator",data:=.fields #[.ref l,.int 0 0]}).push
   {cls:=.type "enumerate",data:=.fields #[.none,.bool false,.ref s.heap.objs.size,EM 0,.none,.none]}) (s.heap.objs.size+1) s.heap.objs.size 0 .none:=by
  have:=AT (s.heap.push {cls:=.type "tuple_iterator",data:=.fields #[.ref l,.int 0 0]})
   (o:={cls:=.type "enumerate",data:=.fields #[.none,.bool false,.ref s.heap.objs.size,EM 0,.none,.none]}) rfl
  rw[hz] at this;exact this
 refine⟨⟨_,he,rfl⟩,h _ he ⟨_,AH _ (AT _ rfl),rfl,rfl⟩ (by rw[Do,hz]) λb o x=>AH _ (AH _ x)⟩
theorem Inv.walked(I:Inv X aS σ H s)(k:∀b o,b∉wr->s.heap.get? b=uA o->h'.get? b=uA o)(hf:∀b∈wr,FpOk X aS H b):Inv X aS σ H {s with heap:=h',toks:=t'}:=by
 have rL:∀b u,H b=uA u->b∉wr:=λb u e z=>by rw[(hf b z).1] at e;cases e
 refine I.step (g':=s.gens) (d':=s.drawn) (ch:=wr) (λb hb=>?_) (λb o _ _ hc e _=>k b o hc e) (λb o _ _ hc e _=>⟨o.slots,k b o hc e⟩) (λ_ _ _ _ n=>n)
  (λb o hc e=>⟨o,k b o hc e⟩) (λ_ _ e=>e) (λ_ _ _ e=>e) (λb ps e=>⟨#[],by rw[e];simp⟩) (λm hm=>?_) (λb u e=>?_) I.bare
 .obtain⟨f0,f1,f2,f3,f4,f5⟩:=hf b hb
  exact⟨f3,f1,f4,f5⟩
 .obtain⟨o,es,ep,ho,r⟩:=hm
  exact⟨o,es,ep,k _ o (λz=>(hf _ z).2.1 rfl) ho,r⟩
 .refine(I.hok b u e).stay (λc v hc q=>k c v ?_ q) (λ_ q=>q) λ_ _ q=>q
  rcases hc with z| z
  .rw[z];exact rL b u e
  .exact rL c _ z
theorem Inv.track{o:HO}(I:Inv X aS σ H s)(f:FpOk X aS H a)(new:ObjOk X.prog X.w (upd H a o) s.heap a o):Inv X aS σ (upd H a o) s:=by
 obtain⟨f0,f1,f2,f3,f4,f5⟩:=f;have ne:∀b u,H b=uA u->b≠a:=λb u e z=>by rw[z,f0] at e;cases e
 obtain⟨hh,g,d,t,os⟩:=s;refine I.step (h':=hh) (g':=g) (d':=d) (t':=t) (ch:=[a]) (λb hb=>?_) (λb o _ _ _ e _=>e) (λb o _ _ _ e _=>⟨o.slots,e⟩) (λb o hc _ n=>?_) (λb o _ e=>⟨o,e⟩)
  (λb xs e=>?_) (λb u xs e=>?_) (λb ps e=>⟨#[],?_⟩) (λm hm=>hm) (λb u e=>?_) I.bare
 .have e:b=a:=by simpa using hb
  subst e;exact⟨f3,f1,f4,f5⟩
 .rw[Ah (λz=>hc (by simp[z]))];exact n
 .rw[Ah (ne b _ e)];exact e
 .rw[Ah (ne b _ e)];exact e
 .rw[Ah (ne b _ e),e];simp
 .by_cases hb:b=a
  .subst hb;rw[Ab] at e;cases e;exact new
  .rw[Ah hb] at e
   exact(I.hok b u e).stay (λ_ _ _ q=>q) (λc q=>by rw[Ah (ne c _ q)];exact q) λc xs q=>by rw[Ah (ne c _ q)];exact q
def Ien(S:Hp->List V->Prop):It :=
 ⟨λi H=>∃xs x,S H xs/\xs[i]?=uA x,λi H v H'=>∃T x,v=.ref T/\H T=uB/\H'=upd H T (.tup [.int i,x])/\∀xs,S H xs->xs[i]?=uA x,λi H=>∃xs,S H xs/\xs.length=i⟩
theorem ZM{k:Nat}{S:Hp->List V->Prop}{e l:Addr}{St0:Nat->Heap->Prop}
  (sJ:e≠it)
  (obj:∀i h,St0 i h->∃o,h.get? it=uA o/\∀v,o.data≠.cell v)
  (keep:∀i h h',St0 i h->(∀o,h.get? it=uA o->h'.get? it=uA o)->St0 i h')
  (drw:∀(X:Cx),X.prog=P->X.w=w->X.K=K->X.calm=true->∀(i:Nat) (aS:uQ) (s:AA) (σ:St) (H:Hp) (xs:List V),Inv X aS σ H s->St0 i s.heap->(∃cz,U8 s.heap e it i cz)->S H xs ->
   ∃(bg:List As) (fp:uX) (St:Nat->Heap->Prop),Vals xs bg/\RI P w X.A.in1 it fp bg.toArray.size (λi v=>bg.toArray[i]?=uA v) St/\St i s.heap/\e∉fp/\it∈fp/\(∀j h,St j h->St0 j h))
  (inj:∀(X:Cx),X.K=K->∀(aS:uQ) (s:AA) (σ:St) (H:Hp) (xs ys:List V),Inv X aS σ H s->S H xs->S H ys->xs=ys) :
  Turn P w K (.Tuple fc k tp) (Ien S) [e,it] e (λi h=>(∃cz,U8 h e it i cz)/\St0 i h) where
 mem:=by simp
 obj:=λi h st b hb=>by
  obtain⟨⟨cz,he⟩,hs⟩:=st;rcases AS.mp hb with rfl| hb
  .exact⟨_,he,λv z=>by
    have z':=z;cases z'⟩
  .have e1:b=it:=by simpa using hb
   subst e1;exact obj i h hs
 keep:=λi h h' st k=>⟨let ⟨cz,he⟩:=st.1;⟨cz,k e (by simp) _ he⟩,keep i h h' st.2 λo q=>k it (by simp) o q⟩
 item:=by
  intro X hP hw hK hc i aS s σ H E I hf st hg;obtain⟨xs,x,hq,hx⟩:=hg;obtain⟨bg,fp,St,rv,Dr,cr,hef,hif,pR⟩:=drw X hP hw hK hc i aS s σ H xs I st.2 st.1 hq;subst hP hw;obtain⟨u,hu,ru⟩:=rv.get hx;have hi:i<bg.toArray.size:=by rw[A8];exact(AO.mp hu).1
  have ku:bg.toArray[i]?=uA u:=by simpa using hu
  have WT:=TK Dr e sJ hef hif;refine WT.item i s _ _ hi ⟨st.1,cr⟩ λT vals h' tk hPt hsz hT tL hk=>⟨.ref T,rfl,?_⟩;obtain⟨t,y,hy,rfl⟩:=hPt;have hTw:=WT.apart i T _ tL;rw[ku] at hy;have hy':=BO hy;subst hy';have hwr:=hf;have I1:Inv X aS σ H {s with heap:=h',toks:=tk}:=I.walked hk hwr;have tH:=I.hok.fresh hsz;have I2:Inv X aS σ (upd H T (.tup [.int i,x])) {s with heap:=h',toks:=tk}:=by
   refine I1.track (I.fpOk hsz tH) ⟨by show 2<=sizeLine;decide,[.int i t,u],.cons ⟨t,rfl⟩ (.cons ru .nil),?_⟩;exact hT
  have rK:∀b∈[e,it],FpOk X aS (upd H T (.tup [.int i,x])) b:=λb hb=>by
   obtain⟨f0,fr⟩:=hf b hb;have ne:b≠T:=λz=>hTw (by rw[<- z];exact hb);exact⟨by rw[Ah ne];exact f0,fr⟩
  refine WT.go fc k tp i T _ _ _ tL λh'' pU hk''=>?_;refine⟨.ref T,_,I2.walked (t':=tk) hk'' rK,rfl,⟨T,x,rfl,tH,rfl,λys hy=>by rw[inj X hK aS s σ H ys xs I hy hq];exact hx⟩,⟨pU.1,pR _ _ pU.2⟩,λb hb=>(rK b hb).1⟩
 done:=by
  intro X hP hw hK hc i aS s σ H E I hf st hg;obtain⟨xs,hq,hx⟩:=hg;obtain⟨bg,fp,St,rv,Dr,cr,hef,hif,pR⟩:=drw X hP hw hK hc i aS s σ H xs I st.2 st.1 hq;subst hP hw;have hl:=rv.length;have hi:i=bg.toArray.size:=by rw[A8];lia
  subst hi;exact(TK Dr e sJ hef hif).done s _ _ ⟨st.1,cr⟩ λh' tk hk=>⟨rfl,I.walked hk hf⟩
 self:=λA i s Q E st h=>by
  obtain⟨⟨cz,he⟩,_⟩:=st;exact TL he h
theorem Gi{u:Obj}(ha:h.get? a=uA o)(hb:h.get? b=uA u)(hc:o.cls≠u.cls):a≠b:=λe=>by
 subst e;rw[ha] at hb;cases hb;exact hc rfl
theorem Wk{k:Nat}{e:Addr}(sJ:e≠it) :
  Turn P w K (.Tuple fc k tp) (Ien λH xs=>SqT K H a xs) [e,it] e (λi h=>(∃cz,U8 h e it i cz)/\h.IsTupleIter it a i):=by
 refine ZM (l:=a) sJ (λi h st=>?_) (λi h h' st k=>st.at k) (λX hP hw hK hc i aS s σ H xs I st he hq=>?_) (λX hK aS s σ H xs ys I h1 h2=>?_)
 .obtain⟨o,e,c,d⟩:=st
  exact⟨o,e,λv z=>by rw[d] at z;cases z⟩
 .subst hP hw hK
  obtain⟨bg,rv,p,hz⟩:=I.tuple hq;obtain⟨cz,he⟩:=he;obtain⟨ol,qy,nh,_⟩:=id p;obtain⟨oi,qM,hci,_⟩:=id st;have h1:=Gi qy qM (by rw[nh,hci];decide);have h2:=Gi he qy (by rw[nh];show C4 "enumerate"≠C4 "tuple";decide);exact⟨bg,[it,a],_,rv,Ep (A:=X.A.in1) (I.ok.hd hc) it a h1 bg.toArray,⟨st,p⟩,by simp[sJ,h2],by simp,λj h z=>z.1⟩
 .subst hK
  exact I.tuple_inj h1 h2
section
variable{k:Nat}
def AHc(K:Au)(ta:TA):TI:=λσ H R=>ta σ H λvs H1=>∃a,vs=[.ref a]/\(∃xs,SqT K H1 a xs)/\R (Ien λH xs=>SqT K H a xs) H1
theorem Ii{l:Expr}{ta:TA}{p:Pos}(hg:Gl X "enumerate")(hm:X.mg "enumerate" = uB)(ha:PA X [l] ta)(hs:autoParam (BQ [l] X.env=[(false,eval l X.env)]) zA0._auto_1) :
  PI X (.Tuple fc k tp) (.Call (.Name "enumerate" p) [l] [] pos) (AHc X.K ta):=by
 intro aS s σ H R I h;refine Xt (Dt I hg hm boot_enumerate (DB (thn (ha pos aS s σ H _ I h) λus s1 ⟨vs,H1,I1,r1,q1⟩=>?_) hs rfl));obtain⟨a,rfl,⟨xs,hq⟩,q⟩:=q1;obtain⟨u,rfl,ru⟩:=r1.one;cases ru;obtain⟨bg,rv,pl,hz⟩:=I1.tuple hq;refine Gj pl λh' he df hsz hk=>TL he ?_;have I2:=I1.kept (t':=s1.toks) hk;refine⟨s1.heap.objs.size+1,[s1.heap.objs.size+1,s1.heap.objs.size],_,_,H1,rfl,I2,Wk (Nat.succ_ne_self _),⟨⟨_,he⟩,df⟩,λb hb=>?_,q⟩;have e:s1.heap.objs.size<=b:=by
  rcases AS.mp hb with rfl| hb
  .exact LZ _
  .rw[Bi.mp hb];exact AF _
 exact I1.fpOk e (I1.hok.fresh e)
end
theorem Gk{g:TG}{R:Hp->Prop}(n:Nat)(Pv:Nat->St->Hp->Prop)(h0:Pv 0 τ H)(hgo:∀i τ H,i<n->Pv i τ H->J.go i H)(tY:∀τ H,Pv n τ H->J.stop n H)
  (hs:∀i τ H x H',i<n->Pv i τ H->J.yld i H x H'->g x τ H' λτ2 H2=>tc τ2 H2 λb H3=>if b=true then te τ2 H3 λv H4=>∃ys,H4 D=uA (.lst ys)/\ys.length<sizeLine/\Pv (i+1) τ2 (upd H4 D (.lst (ys++[v]))) else Pv (i+1) τ2 H3)
  (hd:∀τ H,Pv n τ H->R H):Fl J D g tc te R τ H:=by
 refine⟨λi m τ H=>m=n-i/\i<=n/\Pv i τ H,⟨n,by simp,A7 _,h0⟩,?_⟩;rintro i m τ H ⟨rfl,hi,p⟩;by_cases dk:i<n
 .exact .inr ⟨hgo i τ H dk p,Pv (i+1),λτ' H' p'=>⟨n-(i+1),vN dk,rfl,dk,p'⟩,λx H' y=>hs i τ H x H' dk p y⟩
 .have e:i=n:=vB hi dk
  subst e;exact .inl ⟨tY τ H p,hd τ H p⟩
theorem Mu{Q:List As->AA->Prop}(hl:s.heap.IsTuple l vs.toArray)
  (h:Q vs {s with heap:=(s.heap.push (EU "list" #[] 0)).update s.heap.objs.size (Eg (·++vs.toArray))}) (hsz:vs.length<=sizeLine:=by size_fits) :
  wpAny (AM prog w) A (QP (.ref l)) Q E s:=by
 obtain⟨o,ho,hc,n,hd⟩:=id hl;unfold QP;refine Ap (Lv (EK entry_proto_collect' ?_));refine Ap (N3 (AC ⟨NV _ (by decide+kernel),EK entry_list_iadd' ?_⟩));show wpAny _ _ (Hm (.ref s.heap.objs.size) (.ref l) (.ref s.heap.objs.size)) _ _ {s with heap:=s.heap.push (EU "list" #[] 0)};unfold Hm;have dS:(s.heap.push (EU "list" #[] 0)).get? l=uA o:=AH _ ho;refine Ap (MW (T:="tuple") ⟨o,dS,hc⟩ ?_);have ht:(C4 "tuple" == C4 "tuple")=true:=by rfl
 rw[uE (by rw[ht];simp)];refine Ap (OX dS hd ?_);refine Ap (OX (xs:=#[]) (n:=0) (AT _ rfl) rfl ?_);rw[uD (by simp)];refine Ap (N4 (xs:=#[]) (n:=0) (AT _ rfl) rfl ?_ (A7 _) (by simp only[Array.size_append,A8,IY];lia));refine AC ?_;show wpAny (AM prog w) A (do
   let o <- load s.heap.objs.size
   match o.data with
   | .seq xs _=>pure xs.toList
   | _=>unsupported "internal:collect") Q E {s with heap:=(s.heap.push (EU "list" #[] 0)).update s.heap.objs.size (Eg (·++vs.toArray))}
 refine Ap (RA (get?_update_seq (AT _ rfl) _) ?_);show wpAny _ _ (pure ((#[]:Array As)++vs.toArray).toList) Q E _;rw[show((#[]:Array As)++vs.toArray).toList=vs by simp];exact AC h
theorem Qt(hl:s.heap.IsTuple l vs.toArray)(hI:FS vs ns)(qW:vs.length<64)
  (h:∀(out:Array As) (kM:uJ),FS out.toList kM->kM.Perm ns->kM.Pairwise (·<=·)->Q (.ref (s.heap.objs.size+1)) {s with heap:=sortedAll s.heap vs out}) :
  wpAny (AM prog w) A (call (.builtin "sorted") [.ref l]) Q E s:=by
 refine KP kind_sorted plain_sorted entry_sorted (args_sorted1 _) ?_;unfold UM;refine Ap (m:=checkCount "sorted" 1 1 _) (AC ?_);refine Ap (Mu hl ?_ (by
                       have:(64:Nat)<=sizeLine:=by decide
                       exact wO qW this))
 refine Ap (N3 ?_);have hsz:((s.heap.push (EU "list" #[] 0)).update s.heap.objs.size (Eg (·++vs.toArray))).objs.size=s.heap.objs.size+1:=by
  rw[Heap.size_update,size_push']
 have oI:(((s.heap.push (EU "list" #[] 0)).update s.heap.objs.size (Eg (·++vs.toArray))).push (EU "list" vs.toArray 0)).get? (s.heap.objs.size+1)=uA (EU "list" vs.toArray 0):=by
  rw[<- hsz];exact AT _ rfl
 rw[hsz];refine Ap (D8 (Dx WA ⟨_,oI,rfl⟩ U9 (list_sort_tree oI hI qW λout kM a1 a2 a3=>⟨_,rfl,?_⟩) (WB _)));exact AC ⟨_,rfl,h out kM a1 a2 a3⟩
def ADp(K:Au):List V->Hp->VK->Prop:=λxs H Q=>∃(p:Addr) (ns:uJ),xs=[.ref p]/\(SqL K H p (ns.map V.int)\/SqT K H p (ns.map V.int))/\ns.length<64/\∀(l:Addr) (ms:uJ),H l=none->ms.Perm ns->ms.Pairwise (·<=·)->Q (.ref l) (upd H l (.lst (ms.map V.int)))
theorem Ia:∀{us:List As}{ns:uJ},FS us ns->Vals (ns.map V.int) us
 | _,_,.nil=>.nil
 | _,_,.cons n t r=>.cons ⟨t,rfl⟩ (Ia r)
theorem Gf:CallR X (.builtin "sorted") (ADp X.K):=by
 intro aS s σ H xs us Q I r h;obtain⟨p,ns,rfl,hq,qW,q⟩:=h;obtain⟨u,rfl,ru⟩:=r.one;cases ru;have fin:∀(bg:List As) (out:Array As) (ms:uJ),FS out.toList ms->ms.Perm ns->ms.Pairwise (·<=·)->EP X aS σ Q (.ref (s.heap.objs.size+1)) {s with heap:=sortedAll s.heap bg out}:=λbg out ms a1 a2 a3=>by
  obtain⟨e,he⟩:=sortedAll_at s.heap bg out;have hn:=I.hok.fresh (LZ _);have hv:=Ia a1;have hms:=a2.length_eq;refine⟨.ref (s.heap.objs.size+1),_,I.laid (a:=s.heap.objs.size+1) (o:=.lst (ms.map V.int)) (t':=s.toks) (λb o=>sortedAll_old) (LZ _) ⟨?_,out.toList,e,hv,?_⟩,rfl,q _ ms hn a2 a3⟩
  .rw[AB,hms]
   exact BY (C3 qW) (by decide)
  .rw[MX]
   exact he
 rcases hq with hq| hq
 .obtain⟨bg,rv,pl,hz⟩:=I.list hq
  have hl:=rv.length;rw[AB] at hl;exact sorted_ints pl.isList (intsAre_of rv) (vO qW hl) λout ms a1 a2 a3=>fin bg out ms a1 a2 a3
 .obtain⟨bg,rv,pl,hz⟩:=I.tuple hq
  have hl:=rv.length;rw[AB] at hl;exact Qt pl (intsAre_of rv) (vO qW hl) λout ms a1 a2 a3=>fin bg out ms a1 a2 a3
abbrev Rep(α:Type):=Hp->α->V->Prop
def rInt:Rep Int:=λ_ i v=>v=.int i
def rTup(K:Au){α:Type}(R:Rep α):Rep (List α):=λH as v=>∃p xs,v=.ref p/\SqT K H p xs/\A1 (R H) as xs
def rLst(K:Au){α:Type}(R:Rep α):Rep (List α):=λH as v=>∃p xs,v=.ref p/\SqL K H p xs/\A1 (R H) as xs
theorem Paired.get{F:α->β->Prop}:∀{l₁:List α}{l₂:List β}{i:Nat}{b:β},A1 F l₁ l₂->l₂[i]?=uA b->∃a,l₁[i]?=uA a/\F a b
 | _,_,_,_,.nil,e=>by simp at e
 | _,_,0,_,.cons r _,e=>by simp at e;subst e;exact⟨_,rfl,r⟩
 | _,_,i+1,b,.cons _ t,e=>by
  obtain⟨a,h1,h2⟩:=Paired.get (i:=i) (b:=b) t (by simpa using e);exact⟨a,by simpa using h1,h2⟩
theorem uj{F:α->β->Prop}:∀{l₁:List α}{l₂:List β}{i:Nat}{a:α},A1 F l₁ l₂->l₁[i]?=uA a->∃b,l₂[i]?=uA b/\F a b
 | _,_,_,_,.nil,e=>by simp at e
 | _,_,0,_,.cons r _,e=>by simp at e;subst e;exact⟨_,rfl,r⟩
 | _,_,i+1,a,.cons _ t,e=>by
  obtain⟨b,h1,h2⟩:=uj (i:=i) (a:=a) t (by simpa using e);exact⟨b,by simpa using h1,h2⟩
theorem Paired.app{F:α->β->Prop}:∀{l₁ m₁:List α}{l₂ m₂:List β},A1 F l₁ l₂->A1 F m₁ m₂->A1 F (l₁++m₁) (l₂++m₂)
 | _,_,_,_,.nil,s=>s
 | _,_,_,_,.cons r t,s=>.cons r (Paired.app t s)
theorem Paired.one{F:α->β->Prop}{a:α}{b:β}(h:F a b):A1 F [a] [b]:=.cons h .nil
def uz:=@Paired.one
theorem uk{F:α->β->Prop}(fn:∀a a' b,F a b->F a' b->a=a'):∀{l₁ l₁':List α}{l₂:List β},A1 F l₁ l₂->A1 F l₁' l₂->l₁=l₁'
 | _,_,_,.nil,.nil=>rfl
 | _,_,_,.cons r t,.cons r' t'=>by rw[fn _ _ _ r r',uk fn t t']
theorem paired_ints{H:Hp}:∀(ns:uJ),A1 (rInt H) ns (ns.map V.int)
 | []=>.nil
 | _::r=>.cons rfl (paired_ints r)
theorem Gv{H:Hp}:∀{ns:uJ}{xs:List V},A1 (rInt H) ns xs->xs=ns.map V.int
 | _,_,.nil=>rfl
 | _,_,.cons r t=>by rw[BU,<- Gv t];exact congrArg (·::_) r
structure Dat(X:Cx){α:Type}[DecidableEq α](n:Nat)(R:Rep α):Prop where
 eq:∀(aS:uQ) (s:AA) (σ:St) (H:Hp) (A:BB) (a b:α) (x y:V) (u v:As),Inv X aS σ H s->A.units+n<C0->R H a x->R H b y->RelV x u->RelV y v->MQ A s u v (decide (a=b))
 fn:∀(aS:uQ) (s:AA) (σ:St) (H:Hp) (a b:α) (x:V),Inv X aS σ H s->R H a x->R H b x->a=b
section
variable[DecidableEq α]{R:Rep α}
theorem Fi:Dat X 0 rInt where
 eq:=λaS s σ H A a b x y u v I hu ha hb ru rv=>by
  cases ha;cases hb;obtain⟨t,rfl⟩:=ru;obtain⟨t',rfl⟩:=rv;have e:=NR (A:=A) (s:=s) a t b t';rw[Bool.beq_eq_decide_eq] at e;exact e
 fn:=λaS s σ H a b x I ha hb=>by
  cases ha;exact(V.int.inj hb)
theorem Kz{as bs:List α}{k:Nat}(h1:as.length=m)(h2:bs.length=k):((AK (min m k)).all (λj=>decide (as[j]?=bs[j]?))&&m==k)=decide (as=bs):=by
 subst h1;subst h2;by_cases e:as=bs
 .subst e
  simp
 .rw[uG e]
  cases q:((AK (min as.length bs.length)).all (λj=>decide (as[j]?=bs[j]?))&&as.length==bs.length) with
  | false=>rfl
  | true =>
   rw[EB] at q;obtain⟨q1,q2⟩:=q;have hl:as.length=bs.length:=by simpa using q2
   refine uI (FC λj=>?_) e;by_cases hj:j<as.length
   .exact uH (Fa.mp q1 j (AN.mpr (by lia)))
   .rw[EZ (uR hj),EZ (by lia)]
theorem Tw{as bs:List α}(h1:as.length=m)(h2:bs.length=m):((AK m).all (λj=>decide (as[j]?=bs[j]?)))=decide (as=bs):=by
 have e:=Kz h1 h2;rw[X4,beq_self_eq_true,Bool.and_true] at e;exact e
theorem Dat.place(D:Dat X n R)(I:Inv X aS σ H s)(hu:A.units+n<C0){as bs:List α}{mE:List As}
  (pa:A1 (R H) as xs) (pb:A1 (R H) bs ys) (ra:Vals xs bg) (rb:Vals ys mE):∀(j:Nat) (h1:j<bg.toArray.size) (h2:j<mE.toArray.size),MQ A s bg.toArray[j] mE.toArray[j] (decide (as[j]?=bs[j]?)):=by
 intro j h1 h2;rw[A8] at h1 h2;have hx:j<xs.length:=by rw[ra.length];exact h1
 have hy:j<ys.length:=by rw[rb.length];exact h2
 have ex:=AG hx;have ey:=AG hy;obtain⟨u,oC,ru⟩:=ra.get ex;obtain⟨v,hv1,rv⟩:=rb.get ey;obtain⟨a,ha,qa⟩:=Paired.get pa ex;obtain⟨b,hb,qb⟩:=Paired.get pb ey;have e1:bg.toArray[j]=u:=by
  rw[RO];rw[AG h1] at oC;exact BO oC
 have e2:mE.toArray[j]=v:=by
  rw[RO];rw[AG h2] at hv1;exact BO hv1
 rw[e1,e2,ha,hb];have e3:decide (uA a=uA b)=decide (a=b):=by simp
 rw[e3];exact D.eq aS s σ H A a b _ _ u v I hu qa qb ru rv
theorem JD(D:Dat X n R):Dat X (n+1) (rTup X.K R) where
 eq:=λaS s σ H A as bs x y u v I hu ha hb ru rv=>by
  obtain⟨p,xs,rfl,hp,pa⟩:=ha;obtain⟨q,ys,rfl,hq,pb⟩:=hb;cases ru;cases rv;by_cases e:p=q
  .subst e
   have qY:=I.tuple_inj hp hq;subst qY;have eab:=uk (λa a' b h1 h2=>D.fn aS s σ H a a' b I h1 h2) pa pb;subst eab;rw[uF rfl];exact Pl _
  .obtain⟨bg,ra,ta,_⟩:=I.tuple hp
   obtain⟨mE,rb,tb,_⟩:=I.tuple hq;have l1:as.length=bg.toArray.size:=by rw[A8,<- ra.length];exact AZ pa
   have l2:bs.length=mE.toArray.size:=by rw[A8,<- rb.length];exact AZ pb
   have r:=SeqAt.RcAt.tuples (A:=A) (s:=s) (e:=λj=>decide (as[j]?=bs[j]?)) ta tb (u5 hu) (D.place (A:=A.in1) I (by show A.units+1+n<C0;exact vA hu) pa pb ra rb);rw[Kz l1 l2] at r;exact .of_refs e r
 fn:=λaS s σ H as bs x I ha hb=>by
  obtain⟨p,xs,rfl,hp,pa⟩:=ha;obtain⟨q,ys,e,hq,pb⟩:=hb;cases e;have qY:=I.tuple_inj hp hq;subst qY;exact uk (λa a' b h1 h2=>D.fn aS s σ H a a' b I h1 h2) pa pb
theorem Sg(D:Dat X n R)(I:Inv X aS σ H s)(hu:A.units+(n+1)<C0){q:Addr}{as bs:List α}
  (hp:SqL X.K H p xs) (hq:SqL X.K H q ys) (pa:A1 (R H) as xs) (pb:A1 (R H) bs ys):SeqAt.RcAt A s (.ref p) (.ref q) (decide (as=bs))/\SeqAt.RcNeAt A s (.ref p) (.ref q) (!decide (as=bs)):=by
 obtain⟨bg,ra,ta,_⟩:=I.list hp;obtain⟨mE,rb,tb,_⟩:=I.list hq;have l1:as.length=bg.toArray.size:=by rw[A8,<- ra.length];exact AZ pa
 have l2:bs.length=mE.toArray.size:=by rw[A8,<- rb.length];exact AZ pb
 by_cases hs:bg.toArray.size=mE.toArray.size
 .have r:=SeqAt.RcAt.lists (A:=A) (s:=s) (e:=λj=>decide (as[j]?=bs[j]?)) ta.isList tb.isList hs (u5 hu) (D.place (A:=A.in1) I (by show A.units+1+n<C0;exact vA hu) pa pb ra rb)
  have r':=ah (A:=A) (s:=s) (e:=λj=>decide (as[j]?=bs[j]?)) ta.isList tb.isList hs (u5 hu) (D.place (A:=A.in1) I (by show A.units+1+n<C0;exact vA hu) pa pb ra rb);rw[Tw l1 (l2.trans hs.symm)] at r r';exact⟨r,r'⟩
 .have hb:(bg.toArray.size != mE.toArray.size)=true:=by simpa using hs
  have e:as≠bs:=λe=>hs (by rw[<- l1,<- l2,e]);rw[uG e];exact⟨SeqAt.RcAt.lists_lengths ta.isList tb.isList hb (u5 hu),W0 ta.isList tb.isList hb (u5 hu)⟩
def rEqL(K:Au){α:Type}[DecidableEq α](R:Rep α):R2:=λx y H Q=>∃as bs,rLst K R H as x/\rLst K R H bs y/\Q (.bl (decide (as=bs))) H
def rNeL(K:Au){α:Type}[DecidableEq α](R:Rep α):R2:=λx y H Q=>∃as bs,rLst K R H as x/\rLst K R H bs y/\Q (.bl (!decide (as=bs))) H
theorem ABu(D:Dat X n R)(hu:X.A.units+(n+1)<C0):OpR X (D9 .Eq) (rEqL X.K R):=by
 intro aS s σ H x y v u Q I rx ry h;obtain⟨as,bs,⟨p,xs,rfl,hp,pa⟩,⟨q,ys,rfl,hq,pb⟩,h⟩:=h;cases rx;cases ry;exact(Sg D I hu hp hq pa pb).1 X.prog X.w _ _ ⟨.bl _,H,I,rfl,h⟩
theorem Vk(D:Dat X n R)(hu:X.A.units+(n+1)<C0):OpR X (D9 .NotEq) (rNeL X.K R):=by
 intro aS s σ H x y v u Q I rx ry h;obtain⟨as,bs,⟨p,xs,rfl,hp,pa⟩,⟨q,ys,rfl,hq,pb⟩,h⟩:=h;cases rx;cases ry;exact(Sg D I hu hp hq pa pb).2 X.prog X.w _ _ ⟨.bl _,H,I,rfl,h⟩
open Classical in
noncomputable def isDat(R:Rep α)(H:Hp)(a:α)(u:As):Bool:=decide (∃z,RelV z u/\R H a z)
theorem Te(D:Dat X n R)(I:Inv X aS σ H s){a b:α}{z:V}(rz:RelV z u)(hb:R H b z):isDat R H a u=decide (b=a):=by
 unfold isDat;by_cases e:b=a
 .subst e
  rw[uF rfl];exact @decide_eq_true _ (LJ _) ⟨z,rz,hb⟩
 .rw[uG e]
  refine @decide_eq_false _ (LJ _) ?_;rintro⟨z',rz',h'⟩;have ez:=rz'.inj rz;subst ez;exact e (D.fn aS s σ H b a z' I hb h')
set_option tactic.hygienic true in
theorem RJ(D:Dat X n R){aS:uQ}{s:AA}{σ:St}{H:Hp}(I:Inv X aS σ H s){a:α}:∀{as:List α}{xs:List V}{bg:List As},A1 (R H) as xs->Vals xs bg->bg.any (isDat R H a)=decide (a∈as)
 | _,_,_,.nil,.nil=>by simp
 | _,_,_,.cons (l₁:=as) r t,.cons rv tv=>by
  rw[IR,Te D I rv r,RJ D I t tv]
  rename_i b _ _ _ _
  by_cases e:b=a
  .subst e;simp
  .have e':¬ a=b:=λz=>e z.symm
   simp[e,e']
theorem Qz(D:Dat X n R){aS:uQ}{s:AA}{σ:St}{H:Hp}{A:BB}(I:Inv X aS σ H s)(hu:A.units+n<C0){a:α}{x:V}{v:As}(rx:RelV x v)(ha:R H a x) :
  ∀{as:List α}{xs:List V}{bg:List As},A1 (R H) as xs->Vals xs bg->∀u∈bg,MQ A s u v (isDat R H a u)
 | _,_,_,.nil,.nil=>λu hm=>by cases hm
 | _,_,_,.cons r t,.cons rv tv=>λu hm=>by
  rcases AS.mp hm with rfl| hm
  .rw[Te D I rv r]
   exact D.eq aS s σ H A _ a _ x _ v I hu r ha rv rx
  .exact Qz D I hu rx ha t tv u hm
def rInL(K:Au){α:Type}[DecidableEq α](R:Rep α)(neg:Bool):R2:=λx y H Q=>∃a as,R H a x/\(rLst K R H as y\/rTup K R H as y)/\Q (.bl (if neg then !decide (a∈as) else decide (a∈as))) H
theorem ABK(D:Dat X n R)(hu:X.A.units+(n+1)<C0):OpR X (D9 .In) (rInL X.K R false):=by
 intro aS s σ H x y v u Q I rx ry h;obtain⟨a,as,ha,hs,h⟩:=h;have oC:X.A.in1.units+n<C0:=by show X.A.units+1+n<C0;exact vA hu
 rcases hs with⟨p,xs,rfl,hp,pa⟩| ⟨p,xs,rfl,hp,pa⟩
 .cases ry
  obtain⟨bg,r,pl,_⟩:=I.list hp;refine U5 (isDat R H a) pl.isList (λw hw=>Qz D I oC rx ha pa r w (by simpa using hw)) ⟨.bl _,H,I,rfl,?_⟩;rw[show bg.toArray.any (isDat R H a)=bg.any (isDat R H a) by simp,RJ D I pa r];exact h
 .cases ry
  obtain⟨bg,r,pl,_⟩:=I.tuple hp;refine UK (isDat R H a) pl (λw hw=>Qz D I oC rx ha pa r w (by simpa using hw)) ⟨.bl _,H,I,rfl,?_⟩;rw[show bg.toArray.any (isDat R H a)=bg.any (isDat R H a) by simp,RJ D I pa r];exact h
end
def TSm(H H':Hp):Prop:=∀b u,H b=uA u->(∃xs,u=.tup xs\/∃o,u=.frz o (.tup xs))->H' b=uA u
theorem TSm.trans(a:TSm H H1)(b:TSm H1 H2):TSm H H2:=λc u h t=>b c u (a c u h t) t
theorem Same.ts(e:Same H H'):TSm H H':=λb u h _=>e b u h
theorem TSm.lst{o:HO}(h:H l=uA (.lst xs)):TSm H (upd H l o):=λb u hb t=>by
 rw[Ah ?_]
 .exact hb
 .rintro rfl
  rw[h] at hb;cases hb;obtain⟨ys,e| ⟨o,e⟩⟩:=t
  .cases e
  .cases e
def u3:=@TSm.lst
theorem TSm.new{o:HO}(h:H p=uB):TSm H (upd H p o):=λb u hb _=>by rw[Ah (Af hb h)];exact hb
theorem TSm.seq(e:TSm H H')(h:SqT K H a xs):SqT K H' a xs:=by
 rcases h with(h| ⟨o,h⟩)| h
 .exact .inl (.inl (e _ _ h ⟨xs,.inl rfl⟩))
 .exact .inl (.inr ⟨o,e _ _ h ⟨xs,.inr ⟨o,rfl⟩⟩⟩)
 .exact .inr h
theorem Paired.imp{F G:α->β->Prop}(f:∀a b,F a b->G a b):∀{l₁:List α}{l₂:List β},A1 F l₁ l₂->A1 G l₁ l₂
 | _,_,.nil=>.nil
 | _,_,.cons r t=>.cons (f _ _ r) (Paired.imp f t)
def TRep{α:Type}(R:Rep α):Prop:=∀H H' a x,TSm H H'->R H a x->R H' a x
theorem Ax:TRep rInt:=λ_ _ _ _ _ h=>h
theorem Ao{R:Rep α}(t:TRep R):TRep (rTup K R):=λH H' as x e h=>by
 obtain⟨p,xs,rfl,hp,pa⟩:=h;exact⟨p,xs,rfl,e.seq hp,Paired.imp (λa b=>t H H' a b e) pa⟩
theorem Same.new(h:H p=uB)(o:HO):Same H (upd H p o):=λb u q=>by rw[Ah (Af q h)];exact q
def u4:=@Same.new
abbrev rPair(K:Au):Rep uJ:=rTup K rInt
theorem Gy(h:H p=uA (.tup (ns.map V.int))):rPair K H ns (.ref p):=⟨p,_,rfl,uu h,paired_ints ns⟩
theorem Bx{x:V}(h:rPair K H ns x):∃p,x=.ref p/\SqT K H p (ns.map V.int):=by
 obtain⟨p,xs,rfl,hp,pa⟩:=h;rw[Gv pa] at hp;exact⟨p,rfl,hp⟩
def rSeq(K:Au):Rep uJ:=λH t x=>rLst K rInt H t x\/rPair K H t x
theorem ADM{x:V}(h:rSeq K H ns x):∃p,x=.ref p/\(SqL K H p (ns.map V.int)\/SqT K H p (ns.map V.int)):=by
 rcases h with⟨p,xs,rfl,hp,pa⟩| h
 .rw[Gv pa] at hp
  exact⟨p,rfl,.inl hp⟩
 .obtain⟨p,e,hp⟩:=Bx h
  exact⟨p,e,.inr hp⟩
section
variable{g:TG}{R:Hp->Prop}
abbrev putD(D:Addr)(N:St->Hp->Prop)(te:TE)(τ2:St):Bool->Hp->Prop:=λb H3=>if b=true then te τ2 H3 λv H4=>∃ys,H4 D=uA (.lst ys)/\ys.length<sizeLine/\N τ2 (upd H4 D (.lst (ys++[v]))) else N τ2 H3
theorem yesD{N:St->Hp->Prop}(h:te τ H λv H4=>∃ys,H4 D=uA (.lst ys)/\ys.length<sizeLine/\N τ (upd H4 D (.lst (ys++[v])))):AGG τ H (putD D N te τ):=by
 show putD D N te τ true H;unfold putD;rw[uE rfl];exact h
theorem yesN{N:St->Hp->Prop}{x:V}(h:te (τ.set i (uA x)) H λv H4=>∃ys,H4 D=uA (.lst ys)/\ys.length<sizeLine/\N (τ.set i (uA x)) (upd H4 D (.lst (ys++[v])))):gName i x τ H λτ2 H2=>AGG τ2 H2 (putD D N te τ2):=yesD h
theorem DR(Pv:Nat->St->Hp->Prop)(h0:Pv 0 τ H)(hl:∀i τ H,i<=xs.length->Pv i τ H->SqL K H a xs)
  (hs:∀i x τ H,xs[i]?=uA x->Pv i τ H->g x τ H λτ2 H2=>tc τ2 H2 (putD D (Pv (i+1)) te τ2)) (hd:∀τ H,Pv xs.length τ H->R H):Fl (Itl K a) D g tc te R τ H:=by
 refine Gk xs.length Pv h0 (λi τ H hi p=>⟨xs,xs[i],hl i τ H (C3 hi) p,by simp[hi]⟩) (λτ H p=>⟨xs,hl _ τ H (AF _) p,AF _⟩) (λi τ H x H' hi p y=>?_) hd;obtain⟨e,y⟩:=y;subst e;exact hs i x τ _ (y xs (hl i τ _ (C3 hi) p)) p
theorem Ew(Pv:Nat->St->Hp->Prop)(h0:Pv 0 τ H)(hl:∀i τ H,i<=xs.length->Pv i τ H->SqT K H a xs)
  (hs:∀i x τ H,xs[i]?=uA x->Pv i τ H->g x τ H λτ2 H2=>tc τ2 H2 (putD D (Pv (i+1)) te τ2)) (hd:∀τ H,Pv xs.length τ H->R H):Fl (Itt K a) D g tc te R τ H:=by
 refine Gk xs.length Pv h0 (λi τ H hi p=>⟨xs,xs[i],hl i τ H (C3 hi) p,by simp[hi]⟩) (λτ H p=>⟨xs,hl _ τ H (AF _) p,AF _⟩) (λi τ H x H' hi p y=>?_) hd;obtain⟨e,y⟩:=y;subst e;exact hs i x τ _ (y xs (hl i τ _ (C3 hi) p)) p
theorem Er(Pv:Nat->St->Hp->Prop)(h0:Pv 0 τ H)
  (hs:∀i τ H,i<n->Pv i τ H->g (.int (lo+i)) τ H λτ2 H2=>tc τ2 H2 (putD D (Pv (i+1)) te τ2)) (hd:∀τ H,Pv n τ H->R H):Fl (Itr lo n) D g tc te R τ H:=by
 refine Gk n Pv h0 (λi τ H hi p=>hi) (λτ H p=>AF _) (λi τ H x H' hi p y=>?_) hd;obtain⟨e,y⟩:=y;subst e y;exact hs i τ _ hi p
theorem Fq{S:Hp->List V->Prop}(Pv:Nat->St->Hp->Prop)(h0:Pv 0 τ H)(hl:∀i τ H,i<=xs.length->Pv i τ H->S H xs)
  (hs:∀i x τ H T,xs[i]?=uA x->H T=none->Pv i τ H->g (.ref T) τ (upd H T (.tup [.int i,x])) λτ2 H2=>tc τ2 H2 (putD D (Pv (i+1)) te τ2)) (hd:∀τ H,Pv xs.length τ H->R H):Fl (Ien S) D g tc te R τ H:=by
 refine Gk xs.length Pv h0 (λi τ H hi p=>⟨xs,xs[i],hl i τ H (C3 hi) p,by simp[hi]⟩) (λτ H p=>⟨xs,hl _ τ H (AF _) p,rfl⟩) (λi τ H x H' hi p y=>?_) hd;obtain⟨T,z,rfl,hT,rfl,y⟩:=y;exact hs i z τ H T (y xs (hl i τ _ (C3 hi) p)) hT p
end
theorem Cg{k:Nat}(hr:Room k A)(h:autoParam (n<=64) zA1._auto_1):A.units+n<C0:=EL (Nat.add_le_add_left h _) hr.units
theorem Ek(hK:X.K=K){k:Nat}{t:TGs}(hc:X.calm=true)(h:PGs X es t)
  (hn:autoParam ((Ki es X.env).length=n) zA0._auto_1) (cr:autoParam ((Ki es X.env).findIdx? (·.1)=uB) zA0._auto_1):PG X (.Tuple es k pos) (gTup K n t):=by subst hK;exact AGK hc h hn cr
theorem Fz(hK:X.K=K):OpR X (D9 .In) (rIn K false):=by subst hK;exact ZV
theorem Mr(hK:X.K=K):OpR X (D9 .NotIn) (rIn K true):=by subst hK;exact Ql
theorem ACb(hK:X.K=K):IxR X (rIxL K):=by subst hK;exact Bf
theorem Qm(hK:X.K=K):IxR X (rIxT K):=by subst hK;exact Ay
theorem FZ(x:Int):∀(qu:uJ),inV (.int x) (qu.map V.int)=decide (x∈qu)
 | []=>rfl
 | z::r=>by
  have ih:=FZ x r;unfold inV at ih ⊢;rw[BU,IR,ih];show((z==x)||decide (x∈r))=decide (x∈z::r);by_cases e:z=x
  .subst e;simp
  .have e':¬ x=z:=λq=>e q.symm
   simp[e,e']
theorem iteNN{c A B:Prop}{inst:Decidable c}(hc:¬ c)(h:A):if(!decide c)=true then A else B:=by
 rw[uG hc];exact iteT h
theorem iteNP{c A B:Prop}{inst:Decidable c}(hc:c)(h:B):if(!decide c)=true then A else B:=by
 rw[uF hc];exact iteF h
theorem iteN{c A B:Prop}{inst:Decidable c}(hc:¬ c)(h:B):if decide c=true then A else B:=by
 rw[uG hc];exact iteF h
theorem iteP{c A B:Prop}{inst:Decidable c}(hc:c)(h:A):if decide c=true then A else B:=by
 rw[uF hc];exact iteT h
theorem AAk{k:Int}(h0:0<=k)(h:k<(ns.length:Int)):∃v:Int,atI (ns.map V.int) k=uA (.int v):=by
 have hk:k.toNat<ns.length:=wq h0 h;have ek:k=((k.toNat:Nat):Int):=ye h0;have q:atI (ns.map V.int) ((k.toNat:Nat):Int)=uA (.int ns[k.toNat]):=Bg (by rw[AY,AG hk]<;>rfl);rw[<- ek] at q;exact⟨_,q⟩
theorem small(h:n<=1000):n<=sizeLine:=C3 (BZ h)
noncomputable def srt:uJ->uJ
 | [a,b]=>if b<a then [b,a] else [a,b]
 | t=>t
theorem Dm(a b:Int):srt [a,b]=if b<a then [b,a] else [a,b]:=rfl
theorem JT{a b:Int}(h:ms.Perm [a,b])(s:ms.Pairwise (·<=·)):ms=srt [a,b]:=by
 have hl:=h.length_eq
 match ms,hl,h,s with
 | [x,y],_,h,s =>
  have hxy:x<=y:=by simpa using s
  have hx:x∈[a,b]:=h.mem_iff.mp (by simp);have hy:y∈[a,b]:=h.mem_iff.mp (by simp);have ha:a∈[x,y]:=h.mem_iff.mpr (by simp);have hb:b∈[x,y]:=h.mem_iff.mpr (by simp);simp only[AS,DJ,or_false] at hx hy ha hb;rw[Dm];split
  .have e1:x=b:=by lia
   have e2:y=a:=by lia
   rw[e1,e2]
  .have e1:x=a:=by lia
   have e2:y=b:=by lia
   rw[e1,e2]
def OkTie(m:Int)(t:uJ):Prop:=∃a b,t=[a,b]/\0<=a/\a<m/\0<=b/\b<m/\a≠b
structure OkTies(m:Int)(as:uK):Prop where
 ok:∀t∈as,OkTie m t
 nd:(as.map srt).Nodup
theorem OkTies.take_new{m:Int}{t:uJ}(h:OkTies m as)(ht:as[i]?=uA t):srt t∉(as.take i).map srt:=by
 intro hm;obtain⟨u,hu,e⟩:=BD.mp hm;obtain⟨j,hj,ej⟩:=CL.mp hu;have hji:j<i:=by rw[B7] at hj;exact v5 hj
 have hi:=(AO.mp ht).1;have et:=(AO.mp ht).2;have eu:as[j]'(uV hji hi)=u:=by rw[<- ej,J2]
 have hnd:=h.nd;have:=(UE (h₀:=by rw[AB];exact uV hji hi) (h₁:=by rw[AB];exact hi) hnd (i:=j) (j:=i)).mp (by rw[UN,UN,et,eu,e]);exact vk hji this
noncomputable def BX(p:Int):Nat->uK->uJ
 | _,[]=>[]
 | k,t::r=>if p∈t then(k:Int)::BX p (k+1) r else BX p (k+1) r
theorem Oq(p:Int)(t:uJ):∀(k:Nat) (as:uK),BX p k (as++[t])=BX p k as++(if p∈t then [((k+as.length:Nat):Int)] else [])
 | k,[]=>by
  show(if p∈t then(k:Int)::BX p (k+1) [] else BX p (k+1) [])=_;split<;>simp[BX]
 | k,u::r=>by
  have ih:=Oq p t (k+1) r;have e:k+1+r.length=k+(u::r).length:=by simp;exact vq
  rw[e] at ih;show(if p∈u then(k:Int)::BX p (k+1) (r++[t]) else BX p (k+1) (r++[t]))=(if p∈u then(k:Int)::BX p (k+1) r else BX p (k+1) r)++_;rw[ih];split<;>rfl
abbrev hits(p:Int)(as:uK):uJ:=BX p 0 as
theorem Ow{p:Int}{t:uJ}(h:as[i]?=uA t):hits p (as.take (i+1))=hits p (as.take i)++(if p∈t then [(i:Int)] else []):=by
 have hi:=(AO.mp h).1;have e:as.take (i+1)=as.take i++[t]:=by rw[CC,h];rfl
 rw[e,hits,Oq];have:0+(as.take i).length=i:=by rw[B7];lia
 rw[this]
theorem MP(p:Int):∀(k:Nat) (as:uK),(BX p k as).length<=as.length
 | _,[]=>AF _
 | k,t::r=>by
  have ih:=MP p (k+1) r;show(if p∈t then(k:Int)::BX p (k+1) r else BX p (k+1) r).length<=r.length+1;split
  .simp;exact ih
  .exact vK ih
theorem max_list(hc:X.calm=true):CallR X (.builtin "max") (λxs H Q=>∃(p:Addr) (ns:uJ),xs=[.ref p]/\SqL X.K H p (ns.map V.int)/\0<ns.length/\∀m,m∈ns->(∀a∈ns,a<=m)->Q (.int m) H):=by
 intro aS s σ H xs us Q I r h;obtain⟨p,ns,rfl,hq,gI,q⟩:=h;obtain⟨u0,rfl,ru⟩:=r.one;cases ru;obtain⟨bg,rv,pl,hz⟩:=I.list hq;have hi:=intsAre_of rv;have hl:=pl.isList;obtain⟨ys,e⟩:=hi.allInts.items;have me:ns=ys.toList.map (·.1):=by rw[<- hi.numsOf,<- nums_intItems,<- e]
 have hsz:0<ys.size:=by
  rw[me,AB,A2] at gI;exact gI
 rw[e] at hl;refine max_intList (I.ok.hd hc) hl hsz λv h' tk hv hk=>?_;obtain⟨t,rfl⟩:=intItems_at hv;obtain⟨h1,h2⟩:=argBest_gt (numAt ys) (ys.size-1);refine⟨.int (numAt ys (argBest (λi j=>decide (numAt ys i>numAt ys j)) (ys.size-1))),H,I.kept hk,⟨t,rfl⟩,q _ ?_ λa ha=>?_⟩
 .rw[me,numAt_eq]
  exact getD_mem (by rw[AB,A2];lia)
 .rw[me] at ha
  obtain⟨j,hj,rfl⟩:=mem_getD ha;rw[AB,A2] at hj;rw[<- numAt_eq];exact h2 j (vE hj)
noncomputable def upTo(n:Nat)(f:Int->Bool):uJ:=((AK n).map λ(i:Nat)=>(i:Int)).filter f
noncomputable def lies(ns:uJ)(k:Int):Bool:=match ns with
 | []=>false
 | a::r=>decide (a<k)&&decide (k<=(a::r).getLast (by simp))
set_option tactic.hygienic true in
theorem Hz{p x:Int}:∀{k:Nat}{as:uK},x∈BX p k as↔∃i:Nat,∃t,as[i]?=uA t/\p∈t/\x=((k+i:Nat):Int)
 | k,[]=>by simp[BX]
 | k,u::r=>by
  have ih:=@Hz p x (k+1) r;have e:BX p k (u::r)=if p∈u then(k:Int)::BX p (k+1) r else BX p (k+1) r:=rfl
  rw[e];constructor
  .intro h
   split at h
   .rename_i hu
    rcases AS.mp h with h| h
    .exact⟨0,u,rfl,hu,by simpa using h⟩
    .obtain⟨i,t,h1,h2,h3⟩:=ih.mp h
     exact⟨i+1,t,by simpa using h1,h2,by rw[h3];congr 1;exact vq⟩
   .obtain⟨i,t,h1,h2,h3⟩:=ih.mp h
    exact⟨i+1,t,by simpa using h1,h2,by rw[h3];congr 1;exact vq⟩
  .rintro⟨i,t,h1,h2,h3⟩
   cases i with
   | zero =>
    have:u=t:=by simpa using h1
    subst this;rw[uE h2];exact AS.mpr (.inl (by simpa using h3))
   | succ i =>
    have hm:=ih.mpr ⟨i,t,by simpa using h1,h2,by rw[h3];congr 1;lia⟩;split
    .exact AL _ hm
    .exact hm
theorem JW(p:Int):∀(k:Nat) (as:uK),(BX p k as).Pairwise (· < ·)
 | _,[]=>LP
 | k,u::r=>by
  have ih:=JW p (k+1) r;have e:BX p k (u::r)=if p∈u then(k:Int)::BX p (k+1) r else BX p (k+1) r:=rfl
  rw[e];split
  .refine SW (λx hx=>?_) ih
   obtain⟨i,t,_,_,h3⟩:=Hz.mp hx;rw[h3];lia
  .exact ih
theorem RV:∀{ns:uJ} (h:ns≠[]),ns.Pairwise (· < ·)->∀x∈ns,x<=ns.getLast h
 | [],h,_,_,_=>uI rfl h
 | [a],_,_,x,hx=>by
  have:x=a:=by simpa using hx
  subst this;exact JP _
 | a::b::r,_,pw,x,hx=>by
  have h2:=CA.mp pw;have e:(a::b::r).getLast (by simp)=(b::r).getLast (by simp):=by simp
  rw[e];have l:=RV (ns:=b::r) (by simp) h2.2;rcases AS.mp hx with hx| hx
  .subst hx
   have h3:=h2.1 b (by simp);have h4:=l b (by simp);exact zm h3 h4
  .exact l x hx
end L2
namespace L2
def Cl(S:Int->Prop)(es:uK):Prop:=∀e∈es,∀x∈e,∀y∈e,S x->S y
noncomputable def gh(h:uJ)(p:Int):Int:=h.getD p.toNat 0
abbrev below(n:Nat):uJ:=(AK n).map λ(i:Nat)=>(i:Int)
theorem YF:∀{l m:uJ},l.Pairwise (· < ·)->m.Pairwise (· < ·)->(∀x,x∈l↔x∈m)->l=m
 | [],[],_,_,_=>rfl
 | [],b::m,_,_,h=>by have:=(h b).mpr (by simp);cases this
 | a::l,[],_,_,h=>by have:=(h a).mp (by simp);cases this
 | a::l,b::m,pl,pm,h=>by
  obtain⟨l1,l2⟩:=CA.mp pl;obtain⟨m1,m2⟩:=CA.mp pm;have ab:a=b:=by
   have ha:=(h a).mp (by simp);have hb:=(h b).mpr (by simp);rcases AS.mp ha with ha| ha
   .exact ha
   .rcases AS.mp hb with hb| hb
    .exact hb.symm
    .have h1:=m1 a ha
     have h2:=l1 b hb;lia
  subst ab;refine congrArg (a::·) (YF l2 m2 λx=>?_);constructor
  .intro hx
   rcases AS.mp ((h x).mp (AL _ hx)) with e| e
   .have:=l1 x hx
    lia
   .exact e
  .intro hx
   rcases AS.mp ((h x).mpr (AL _ hx)) with e| e
   .have:=m1 x hx
    lia
   .exact e
noncomputable def under(n:Nat)(h:uJ)(x:Int):uJ:=upTo n λp=>decide (gh h p=x)
noncomputable def usd(es:uK)(fs:uJ):Nat:=(es.filter λe=>e.all λx=>decide (x∈fs)).length
def Pass(es:uK)(f0:uJ)(j:Nat)(f:uJ):Prop :=
 (f=f0/\Cl (·∈f0) (es.take j))\/(usd es f0+1<=usd es f/\¬ Cl (·∈f0) es)
noncomputable def pick(as:uK)(ms:uJ):uK:=ms.map λk=>as.getD k.toNat []
noncomputable def sel(as:uK)(ms:uJ):Nat->uK
 | 0=>[]
 | i+1=>sel as ms i++(if(i:Int)∈ms then [as.getD i []] else [])
end L2
namespace L2
open PySem PySem.Spec PyProof.Rows
theorem Jt:∀{xs:List V}{us:List As},xs.length=us.length->(∀(i:Nat) (x:V) (u:As),xs[i]?=uA x->us[i]?=uA u->RelV x u)->Vals xs us
 | [],[],_,_=>.nil
 | [],_::_,h,_=>by simp at h
 | _::_,[],h,_=>by simp at h
 | x::xs,u::us,h,f=>.cons (f 0 x u rfl rfl) (Jt (by simpa using h) λi y v h1 h2=>f (i+1) y v (by simpa using h1) (by simpa using h2))
theorem Gs:CallR X (.type "range") (λxs H Q=>∃j,xs=[.int j]/\∀r,H r=none->Q (.ref r) (upd H r (.rng 0 j))):=by
 intro aS s σ H xs us Q I r h;obtain⟨j,rfl,q⟩:=h;obtain⟨u,rfl,t,rfl⟩:=r.one;refine call_range_1 ?_;have hn:=I.hok.fresh (AF _);exact⟨.ref s.heap.objs.size,_,I.laid (a:=s.heap.objs.size) (o:=.rng 0 j) (λb u e=>AH _ e) (AF _) ⟨_,_,_,AT _ rfl⟩,rfl,q _ hn⟩
theorem Mz(hc:X.calm=true):CallR X (.type "list") (λxs H Q=>∃r j,xs=[.ref r]/\H r=uA (.rng 0 j)/\0<=j/\j<=1000/\∀l,H l=none->Q (.ref l) (upd H l (.lst ((below j.toNat).map V.int)))):=by
 intro aS s σ H xs us Q I rr h;obtain⟨r,j,rfl,hr,j0,j1,q⟩:=h;obtain⟨u,rfl,ru⟩:=rr.one;cases ru;obtain⟨t1,t2,t3,e⟩:=I.hok r _ hr;have hn:=I.hok.fresh (AF _);refine call_list_range (n:=j.toNat) (I.ok.hd hc) e (WI (by lia) (by lia) (by lia) (by lia)) (by rw[R7];split<;>lia) (by lia) λh' tk bi c' hk fi bj=>?_;refine⟨.ref s.heap.objs.size,_,I.laid (a:=s.heap.objs.size) (o:=.lst ((below j.toNat).map V.int)) hk (AF _) ⟨?_,bi.toList,c',?_,by simpa using fi⟩,rfl,q _ hn⟩
 .rw[AB,AB,A9]
  exact small (wP j1)
 .refine Jt (by simp[bj.1]) λi x u h1 h2=>?_
  have kH:bi[i]?=uA u:=by simpa using h2
  obtain⟨t,rfl⟩:=bj.2 i u kH;have hi:i<j.toNat:=by
   have:=(Cn.mp kH).1;rw[bj.1] at this;exact this
  rw[AY,AY,EF hi] at h1;have ex:=(BO h1).symm;subst ex;exact⟨t,by rw[T4,Sz]⟩
end L2
namespace PySem
def Ctx0(o:Obj):Prop:=∃vs,o.data=.fields vs/\vs[2]?=uA .none
def Ctx2(h:Heap)(e:Addr):Prop:=∃o,h.get? e=uA o/\Ctx0 o
theorem Ctx2.of_get{e:Addr}(c:Ctx2 h e)(k:h'.get? e=h.get? e):Ctx2 h' e:=by
 obtain⟨o,ho,x⟩:=c;exact⟨o,k.trans ho,x⟩
theorem ADg{e:Addr}{vs:Array As}{v:As}(ho:h.get? e=uA o)(hd:o.data=.fields vs)(h2:vs[2]?=uA .none):Ctx2 (h.update e (G2 (·.setIfInBounds 1 v))) e :=
 ⟨_,Db _ ho (EX (Da hd _)),_,Da hd _,by
  rw[IM (by decide)];exact h2⟩
section
variable{M:ME}{bs:Heap}{en:Env}{out l:List Env}{F x:Addr}{ox:Obj}{ws:Array As}{hd0 b0 kl fl:As}{hn:Bool}{Q:uO}
theorem Zh(fr:A.frames=uA (en::out))(ff:s.heap.FunFrames bs (en::out))(ef:en.frame=uA F)(gx:s.heap.get? x=uA ox)(kb:bs.StaysIn s.heap)(xn:bs.get? x=uB)(dx:ox.data=.fields ws)(w1:1<ws.size)(w0:ws[0]?=uA b0)(w2:ws[2]?=uA .none)
  (k:∀h',Heap.NotedW bs (en::out) x ox.cls b0 (EM F) s.heap h'->Ctx2 h' x->Q () {s with heap:=h'}) :
  wpAny M A (do let a <- frameOf en;let pl <- entryPlaceOf F hn;let b <- Sj hd0 a .none (EM F) .none pl;Y0 (.ref x) 1 b) Q E s:=by
 have nfx:x∉(en::out).filterMap (·.frame):=λz=>by
  obtain⟨_,o,go,nd⟩:=ff.mem z;rw[gx] at go;cases go;exact nd ws dx
 refine Ap (wpAny_frameOf_fun fr ff ef λh1 so=>?_);refine Ap (wpAny_entryPlaceOf λpl ip=>?_);unfold Sj newFields;refine Ap (C8 ?_ (ip.sizeOk5 _ _ _ _ _));have g1:h1.get? x=uA ox:=(so.2.1 x nfx).trans gx;have sj:bs.StaysIn h1:=λc o go=>(so.2.1 c λz=>by rw[(ff.mem z).1] at go;cases go).trans (kb c o go);generalize etb:({cls:=.type "traceback",dict:=uB,data:=.fields ([hd0,.ref F,.none,EM F,.none]++(if pl.isEmpty then Cb 6 CY else pl)).toArray}:Obj)=tb;have g2:=AH (h:=h1) tb g1;refine FU g2 dx w1 ?_;have tx:h1.objs.size≠x:=MG (AW g1);have d3:=Da dx (·.setIfInBounds 1 (AV h1.objs.size));have g3:=Db (G2 (·.setIfInBounds 1 (AV h1.objs.size))) g2 (EX d3);have nfr:tb.isFreed=false:=by rw[<- etb];rfl
 have t3:=(DA (h1.push tb) (G2 (·.setIfInBounds 1 (AV h1.objs.size))) (CF tx)).trans (AT h1 nfr);have stay:∀c o,c≠x->h1.get? c=uA o->((h1.push tb).update x (G2 (·.setIfInBounds 1 (AV h1.objs.size)))).get? c=uA o:=λc o cx go=>by
  rw[DA _ _ (CF cx)];exact AH _ go
 have lj:∀c o,s.heap.get? c=uA o->(∀us,o.data≠.fields us)->c≠x:=λc o go nd q=>by
  rw[q,gx] at go;cases go;exact nd ws dx
 refine k _ ⟨λc o go=>stay c o (λq=>by rw[q,xn] at go;cases go) (sj c o go),ff.of_keeps λc o go nd=>?_,?_,λc o go nd=>?_⟩ (ADg g2 dx w2)
 .obtain⟨sl,gs⟩:=so.2.2 c o go
  exact⟨_,stay c _ (lj c o go nd) gs,rfl⟩
 .refine⟨_,_,h1.objs.size,tb,([hd0,.ref F,.none,EM F,.none]++(if pl.isEmpty then Cb 6 CY else pl)).toArray,g3,⟨J1 _ _,?_⟩,d3,?_,sj.fresh,tx,t3,?_,?_⟩
  .rw[IM (by decide)]
   exact w0
  .simp[w1]
  .rw[<- etb]
  .simp
 .obtain⟨sl,gs⟩:=so.2.2 c o go
  exact⟨sl,stay c _ (lj c o go nd) gs⟩
theorem Wa(kb:bs.StaysIn s.heap)(ff:s.heap.FunFrames bs l)(tr:s.heap.TracedAtW bs x kl b0 fl)(c2:Ctx2 s.heap x)
  (k:∀h',bs.StaysIn h'->h'.FunFrames bs l->h'.TracedW bs x kl b0->(∀c o,s.heap.get? c=uA o->(∀us,o.data≠.fields us)->h'.get? c=uA o)->Ctx2 h' x->Q () {s with heap:=h'}) :
  wpAny M A (SY (.ref x) uB) Q E s:=by
 obtain⟨o1,us,T,oT,ts,g1,kl1,d1,u1,nT,Tx,gT,dT,t3⟩:=tr;have z3:3<ts.size:=(Cn.mp t3).1;unfold SY;refine Ap (ES g1 d1 u1 ?_);rw[uE (show(AV T != CY)=true by simp)];have mM:∀c,c≠T->(s.heap.update T (G2 (·.setIfInBounds 3 ((uB:Option Addr).elim CY λf=>EM f)))).get? c=s.heap.get? c:=λc cT=>DA _ _ (CF cT);have lj:∀c o,s.heap.get? c=uA o->(∀us,o.data≠.fields us)->c≠T:=λc o go nd q=>by
  rw[q,gT] at go;cases go;exact nd ts dT
 refine FU gT dT z3 (k _ (λc o go=>(mM c λq=>by rw[q,nT] at go;cases go).trans (kb c o go)) (ff.of_keeps λc o go nd=>⟨o,(mM c (lj c o go nd)).trans go,rfl⟩) ?_ (λc o go nd=>(mM c (lj c o go nd)).trans go) (c2.of_get (mM x (CF Tx))));exact⟨o1,us,T,_,_,(mM x (CF Tx)).trans g1,kl1,d1,u1,nT,Tx,Db _ gT (EX (Da dT _)),Da dT _,by simp[z3]⟩
theorem Zd(hh:Heap.HeldW bs l x kl b0 F s.heap)(c2:Ctx2 s.heap x)
  (k:∀h',MY bs l x kl b0 h'->s.heap.UpToSlots h'->Ctx2 h' x->Q () {s with heap:=h'}):wpAny M A (SY (.ref x) uB) Q E s:=by
 obtain⟨f1,f2,f3,f4⟩:=hh;exact Wa f1 f3 f4 c2 λh' a1 a2 a3 a4 c'=>k h' ⟨a1,f2,a2,a3⟩ (λc o go nd=>⟨o.slots,a4 c o go nd⟩) c'
theorem ABO{h0:Heap}(fr:A.frames=uA (en::out))(ef:en.frame=uA F)(kb:bs.StaysIn h0)(ff:h0.FunFrames bs (en::out))(mx:Nw h0 s.heap x kl args)
  (k:∀h' t,MY bs out x kl (.ref t) h'->s.heap.UpToSlots h'->Ctx2 h' x->Q () {s with heap:=h'}):wpAny M A (Wl en (.ref x)) Q E s:=by
 obtain⟨t,gx,tn,gt⟩:=mx.there;have fresh:∀c,h0.get? c=none->bs.get? c=uB:=λc gc=>by
  cases q:bs.get? c with
  | none=>rfl
  | some o' =>
   have:=kb c o' q;rw[gc] at this;cases this
 unfold Wl;refine Ap ?_;unfold noteFrame;simp only[ef];refine Ap (ES gx rfl (x:=.none) rfl ?_);rw[uD (by decide)];refine Zh (b0:=.ref t) fr (ff.of_keeps λc o go _=>⟨o,mx.keeps c o go,rfl⟩) ef gx (λc o go=>mx.keeps c o (kb c o go)) (fresh x mx.new) rfl (by simp) rfl rfl λh1 ⟨a1,a2,a3,a4⟩ c1=>?_;refine Zd (F:=F) ⟨a1,fresh x mx.new,a2,a3⟩ c1 λh2 fl up2 c3=>?_;obtain⟨e1,e2,⟨_,_,e3⟩,e4⟩:=fl;exact k h2 t ⟨e1,e2,e3,e4⟩ (Z6 a4 up2) c3
end
end PySem
namespace L2
open PySem PySem.Spec PyProof.Rows
section
variable{o:HO}
theorem ObjOk.there(x:ObjOk P w H h a o):∃ob,h.get? a=uA ob:=by
 cases o with
 | lst xs=>obtain⟨_,_,_,_,e⟩:=x;exact⟨_,e⟩
 | tup xs=>obtain⟨_,_,_,_,e,_⟩:=x;exact⟨_,e⟩
 | dK bb=>obtain⟨_,_,_,_,o,_,_,e,_⟩:=x;exact⟨_,e⟩
 | dT bb=>obtain⟨_,_,_,_,o,_,_,e,_⟩:=x;exact⟨_,e⟩
 | set S n=>obtain⟨o,_,_,_,e,_⟩:=x;exact⟨_,e⟩
 | ins C dx fs=>obtain⟨_,_,_,e,_⟩:=x;exact⟨_,e⟩
 | own y=>exact x
 | xd fs=>obtain⟨_,⟨_,_,_,e,_⟩,_⟩:=x;exact⟨_,e⟩
 | rng lo hi=>obtain⟨_,_,_,e⟩:=x;exact⟨_,e⟩
 | frz ob u=>exact⟨_,x.1⟩
 | tbl ps=>exact⟨_,x⟩
 | met f y=>exact⟨_,x⟩
 | ext φ=>exact x.2.1
theorem HOk.hide(x:HOk P w H h){l:uX}(hf:∀b∈l,H b=uB):HOk P w H (MD h l):=λa o e =>
 (x a o e).stay (λb u hb q=>KM l q λz=>by
  rcases hb with rfl| hb
  .rw[hf _ z] at e;cases e
  .rw[hf _ z] at hb;cases hb) (λ_ q=>q) λ_ _ q=>q
end
structure Fly(P:AJ)(w:AQ)(outer:List Env)(H H':Hp)(s s':AA)(a:Addr)(cls:As):Prop where
 os:s'.os=s.os
 bare:Lu s'.gens
 un:Un (frs outer) [] H H' s.heap s'.heap
 new:H' a=uB
 ctx:Ctx2 s'.heap a
 fly:∃B a0,MY B outer a cls a0 s'.heap/\HOk P w H' B/\∀b o',(∃o,s.heap.get? b=uA o)->s'.heap.get? b=uA o'->b∉frs outer->B.get? b=uA o'
def CXF(P:AJ)(w:AQ):CXT:=λouter H s E e s'=>∃a cls H',e=.ref a/\Fly P w outer H H' s s' a cls/\E cls uB H'
section
variable{M:ME}{Q:uO}
theorem Hg(cr:X.stack=X.env::X.outer)(dQ:X.env.frame=uA X.env.locals):b∈frs X.stack↔b=X.env.locals\/b∈X.fs:=by
 rw[cr];unfold frs;rw[G5,dQ];exact AS
theorem Inv.notL(I:Inv X aS σ H1 s1)(cr:X.stack=X.env::X.outer)(dQ:X.env.frame=uA X.env.locals)(e:X.s₀.heap.get? b=uA o)(nb:b∉X.fs):b∉frs X.stack:=λz=>by
 rcases (Hg cr dQ).mp z with z| z
 .have h1:=AW e
  have h2:=I.ok.above;rw[z] at h1;exact uI h1 (UZ.mpr h2)
 .exact nb z
theorem Vt{e:Addr}(I:Inv X aS σ H1 s1)(cr:X.stack=X.env::X.outer)(dQ:X.env.frame=uA X.env.locals)(e8:X.ex=[])
  (hx:Nw s1.heap h' e cls args) (hQ:∀pK,Fly X.prog X.w X.outer X.H₀ H1 X.s₀ pK e cls->Q () pK):wpAny M X.A (Wl X.env (.ref e)) Q E' {s1 with heap:=h'}:=by
 have nx:∀b:Addr,b∉X.ex:=λb=>by rw[e8];exact DJ
 have frames:X.A.frames=uA (X.env::X.outer):=by rw[<- cr];exact I.ok.frames
 have hin:∀env∈X.stack,∀a,env.frame=uA a->a∈frs X.stack:=λenv he a hf=>K3.mpr ⟨env,he,hf⟩;have ff:s1.heap.FunFrames (MD s1.heap (frs X.stack)) (X.env::X.outer):=by
  have z:=PySem.W.funFrames_hide I.stack hin;have e:X.stack=X.env::X.outer:=cr;generalize hl:frs X.stack=fl at z ⊢;rw[e] at z;exact z
 refine ABO (bs:=MD s1.heap (frs X.stack)) (h0:=s1.heap) frames dQ (λb o q=>SG _ q) ff hx λh2 t f2 up cx=>hQ _ ?_;have toB:∀b o,s1.heap.get? b=uA o->b∉frs X.stack->h2.get? b=uA o:=λb o e nb=>f2.1 b o (KM _ e nb);have fr2:∀b o,s1.heap.get? b=uA o->b∈frs X.stack->∃sl,h2.get? b=uA {o with slots:=sl}:=λb o e z=>by
  obtain⟨_,o',dS,hd⟩:=I.stack.mem z;rw[e] at dS;cases dS;exact up b o (hx.keeps _ _ e) hd
 refine⟨I.os,I.bare,⟨λb o e n nb _=>?_,λb o e n nb _=>?_,λb o e n _=>I.base.free b o e n (nx b),λb o e _=>?_,I.base.tups,I.base.frzs,I.base.tbls⟩,?_,cx,_,_,f2,I.hok.hide I.stkFree,λb o' ⟨o,e⟩ e' nb=>?_⟩
 .exact toB b o (I.base.keep b o e n nb (nx b)) (I.notL cr dQ e nb)
 .obtain⟨sl,e1⟩:=I.base.slot b o e n nb (nx b)
  obtain⟨pF,e2⟩:=fr2 b _ e1 ((Hg cr dQ).mpr (.inr nb));exact⟨pF,e2⟩
 .obtain⟨o1,e1⟩:=I.base.there b o e (nx b)
  by_cases hb:b∈frs X.stack
  .obtain⟨sl,e2⟩:=fr2 b _ e1 hb
   exact⟨_,e2⟩
  .exact⟨_,toB b o1 e1 hb⟩
 .cases q:H1 e with
  | none=>rfl
  | some u =>
   obtain⟨ob,eo⟩:=(I.hok e u q).there;rw[hx.new] at eo;cases eo
 .obtain⟨o1,e1⟩:=I.base.there b o e (nx b)
  have z:=toB b o1 e1 (I.notL cr dQ e nb);have e'':h2.get? b=uA o':=e';rw[e''] at z;cases z;exact KM _ e1 (I.notL cr dQ e nb)
end
theorem Fun.okF{st:Stmt}{N:uT}{k:Nat}(F:Fun K x qual st f fd)(S:FnScope N ps (Ai st))(len:∀vs H Q E,sp vs H Q E->vs.length=ps.length)
  (gm:∀(bE:As) (A:BB) (outer:List Env) (s:AA) (H:Hp) (vs:List V) (Q:VK) (E:XK),Room k (A.deeper (MO qual (Ai st) s.heap.objs.size f bE))->sp vs H Q E ->
   ∃t,PSs (cxOf (CXF P w) P w K mg base N qual (Ai st) f bE A outer s H E) (CP st) t/\t {nx:=λ_ H'=>Q .non H',rt:=Q} (start N vs) H):FnOk P w K mg base (CXF P w) (k+1) f fd ps sp:=by
 obtain⟨oc,od,kV,ck,pm,an,bE,ct,io,rfl,lk,js⟩:=F.ex;exact AFR lk js S len λA outer s H vs Q E hr iP=>gm bE A outer s H vs Q E hr iP
set_option tactic.hygienic true in
theorem Yg(X:K.In h)(q:KF K C sV gz=true) :
  ∃bm N nm qn bs hdct sn sub ab col dd k0 k1 k2 k3 k5 mN,h.get? C=uA (excClassObj nm qn C N bs bm hdct sn sub ab col dd k0 k1 k2 k3 k5 gz)/\h.Ns N mN/\mN "__init__" = uB/\OwnTail h sV bm:=by
 unfold KF at q;split at q
 .rename_i dd cd sl ho
  split at q
  .rename_i C' bm k0 k1 k2 k3 n k5 hm hs
   simp only[EB,beq_iff_eq,TN] at q;obtain⟨⟨⟨⟨⟨rfl,rfl⟩,ud⟩,ht⟩,hok⟩,hni⟩:=q;obtain⟨nm,bs,mro,ns,qn,hd,sn,sub,ab,col,del⟩:=cd;dsimp only at hm ud hok hni;subst hm ud;have hsl:sl=#[k0,k1,k2,k3,uA (.builtin n),k5]:=by
    obtain⟨l⟩:=sl;simp only at hs;rw[hs]
   subst hsl;exact⟨bm,ns,nm,qn,bs,hd,sn,sub,ab,col,dd,k0,k1,k2,k3,k5,_,X _ _ ho,.of_isNs (PySem.W.isNs_of_in X hok),PySem.W.nsMap_none_of_in X hok hni,PySem.W.tail_of_in X ht⟩
  .cases q
 .cases q
def tRaise(XE:Hp->Prop)(ta:TA):TS:=λ_ σ H=>ta σ H λvs H1=>vs.length<=sizeLine/\XE H1
theorem Sd{B ql:String}{e0:Expr}{rest:uU}{ta:TA}(XE:Hp->Prop)(FB:ExcBaseFacts B gz ql sV)(hin:KF X.K C sV gz=true)(hc:X.calm=true)(hg:Gl X x)(hm:X.mg x=uA (.ref C))
  (ha:PA X (e0::rest) ta) (hxe:∀(aS:uQ) (σ:St) (H:Hp) (s:AA) (h':Heap) (e:Addr) (vs:List As),Inv X aS σ H s->Nw s.heap h' e (.ref C) vs->XE H->X.xe (.ref e) {s with heap:=h'})
  (gv:autoParam ((x==("__debug__" : Str))=false) zA1._auto_1) (he:autoParam (BQ (e0::rest) X.env=(false,eval e0 X.env)::BQ rest X.env) zA0._auto_1) (fk:autoParam ((FG b9 (BQ rest X.env)).any (·.1)=false) zA0._auto_1) :
  PS X (.Raise (uA (.Call (.Name x np) (e0::rest) [] b9)) uB pos) (tRaise XE ta):=by
 intro aS s σ H D I h;have cls:∀{s':AA}{H':Hp},Inv X aS σ H' s'->_:=λ{s' H'} (J:Inv X aS σ H' s')=>Yg J.kIn hin;obtain⟨tl,N,nm,q,bs,hdct,sn,sub,ab,col,dd,k0,k1,k2,k3,k5,mN,hC,hN,hni,T⟩:=Yg I.mod.kin hin;refine wpAny_Raise_call_subT (C:=C) (nm:=nm) (q:=q) (N:=N) (bs:=bs) (bm:=tl) (hdct:=hdct) (sn:=sn) (sub:=sub) (ab:=ab) (col:=col) (dd:=dd) (k0:=k0) (k1:=k1) (k2:=k2) (k3:=k3) (k5:=k5)
  FB (mN:=mN) (T.hasType FB.hasBase) (I.ok.hd hc) (by rw[he];show(false||(FG b9 (BQ rest X.env)).any (·.1))=false;rw[fk];rfl) hni (HX I hg hm ⟨rfl,?_⟩ gv)
 have z:=ha b9 aS s σ H _ I h;rw[he] at z ⊢;exact MT (C5 z (λvs s₂ ⟨ws,H1,I1,r,hl,hq⟩=>⟨rfl,by rw[<- r.length];exact hl,I1.bk _ _ hC,hN.keeps I1.bk,T.keeps I1.bk,λh' e hm=>hxe aS σ H1 s₂ h' e _ I1 hm hq⟩) λ_ _ y=>y)
theorem ABw{N:uT}{outer:List Env}{E:XK}
  (aS:uQ) (σ:St) (H1:Hp) (s1:AA) (h':Heap) (e:Addr) (vs:List As) (I:Inv (cxOf (CXF P w) P w K mg base N qual scope f cd A outer s H E) aS σ H1 s1) (hm:Nw s1.heap h' e (.ref C) vs) (hE:E (.ref C) uB H1) :
  (cxOf (CXF P w) P w K mg base N qual scope f cd A outer s H E).xe (.ref e) {s1 with heap:=h'} :=
 Vt I rfl rfl rfl hm λpK f'=>⟨e,.ref C,H1,rfl,f',hE⟩
theorem Joins.mono{M:ME}:∀{iE:List (Sem As)}{bX:Str}{Q Q':Str->AA->Prop}{s:AA},Joins M A E iE bX Q s->(∀o s',Q o s'->Q' o s')->Joins M A E iE bX Q' s
 | [],_,_,_,_,h,f=>f _ _ h
 | _::_,_,_,_,_,h,f=>C5 h (λv s₁ ⟨y,t,e,l,j⟩=>⟨y,t,e,l,Joins.mono j f⟩) λ_ _ x=>x
abbrev TJ:=St->Hp->(Hp->Prop)->Prop
def PJ(X:Cx)(iE:uU)(n:Nat)(t:TJ):Prop :=
 ∀(aS:uQ) (s:AA) (σ:St) (H:Hp) (Q:Hp->Prop) (bX:Str),Inv X aS σ H s->t σ H Q->bX.length+n<=sizeLine ->
  Joins (AM X.prog X.w) X.A X.xe (NA iE X.env) bX (λout s'=>out.length<=bX.length+n/\∃H',Inv X aS σ H' s'/\Q H') s
section
variable{rest:uU}{t:TJ}
theorem ACy:PJ X [] 0 (λ_ H Q=>Q H):=λaS s σ H Q bX I h _=>⟨AF _,H,I,h⟩
theorem ACU{x:Expr}{te:TE}{k:Nat}{tj:TJ} (hx:∀(aS:uQ) (s:AA) (σ:St) (H:Hp) (Q:Hp->Prop),Inv X aS σ H s->tj σ H Q ->
   wpAny (AM X.prog X.w) X.A (eval x X.env) (λv s'=>∃y t,v=.str y t/\y.length<=k/\∃H',Inv X aS σ H' s'/\Q H') X.xe s) (hr:PJ X rest n t) (he:autoParam (NA (x::rest) X.env=eval x X.env::NA rest X.env) zA0._auto_1) :
  PJ X (x::rest) (k+n) (λσ H Q=>tj σ H λH1=>t σ H1 Q):=by
 intro aS s σ H Q bX I h hn;rw[he];refine C5 (hx aS s σ H _ I h) (λv s1 ⟨y,tk,e,hy,H1,I1,q1⟩=>?_) λ_ _ z=>z;have ly:(bX++y).length=bX.length+y.length:=strLen_append bX y;refine⟨y,tk,e,by rw[ly];lia,Joins.mono (hr aS s1 σ H1 Q (bX++y) I1 q1 (by rw[ly];lia)) λo s' ⟨l,r⟩=>⟨by rw[ly] at l;lia,r⟩⟩
theorem WM{z:Str}(k:Nat)(hk:z.length<=k)(hr:PJ X rest n t)(he:autoParam (NA (.Constant (.str z) j pos::rest) X.env=eval (.Constant (.str z) j pos) X.env::NA rest X.env) zA0._auto_1) :
  PJ X (.Constant (.str z) j pos::rest) (k+n) t :=
 ACU (te:=tC .non) (tj:=λ_ H Q=>Q H) (λaS s σ H Q I h=>Calls.Constant_str ⟨z,_,rfl,hk,H,I.tok _,h⟩) hr he
theorem WK(h1:PE X e te)(hr:PJ X rest n t)(he:autoParam (NA (.FormattedValue e (-1) uB pos::rest) X.env=eval (.FormattedValue e (-1) uB pos) X.env::NA rest X.env) zA0._auto_1) :
  PJ X (.FormattedValue e (-1) uB pos::rest) (2000+n) (λσ H Q=>te σ H λv H1=>∃i:Int,v=.int i/\i.natAbs.log2<1920/\t σ H1 Q):=by
 refine ACU (te:=te) (tj:=λσ H Q=>te σ H λv H1=>∃i:Int,v=.int i/\i.natAbs.log2<1920/\Q H1) (λaS s σ H Q I h=>?_) hr he;refine wpAny_FormattedValue_plain (thn (h1 aS s σ H _ I h) λv s1 ⟨x,H1,I1,r1,i,e1,hl,q⟩=>?_);subst e1;obtain⟨tk,rfl⟩:=r1;refine wpAny_formatField_int hl ⟨_,_,rfl,?_,H1,I1.tok _,q⟩;have l:=int_text_length_le (k:=1920) (by decide) hl;have e:(F6 (toString i)).length=(toString i).length:=PySem.ofString_length _;lia
theorem XC{v1 v2:Expr}(h:PJ X (v1::v2::rest) n t)(hn:n<=1000000):PE X (.JoinedStr (v1::v2::rest) pos) (λσ H Q=>t σ H λH1=>∀z:Str,Q (.str z) H1):=by
 intro aS s σ H Q I hq;have hl:(1000000:Nat)<=sizeLine:=by decide
 have e0:(SR).length=0:=rfl;refine wpAny_JoinedStr (Joins.mono (h aS s σ H _ SR I hq (by rw[e0];exact x6 hn hl)) λo s' ⟨l,H',I',q⟩=>⟨by rw[e0] at l;lia,.str o,H',I'.tok _,⟨_,rfl⟩,q o⟩)
end
theorem Inv.gone{n:Str}{M:ME}{Q:uO}(I:Inv X aS σ H s)(hN:X.N.Nodup)(hj:X.N[j]?=uA n)(hk:X.env.kindOf n=uA .local)
  (hQ:∀s',Inv X aS (σ.set j uB) H s'->Q () s'):wpAny M A (do bindName X.env n .none;unbindBehindTheSuite X.env n pos) Q E' s:=by
 obtain⟨m,hn,hl⟩:=id I.loc;have qr:(X.env.scope.kind == .class||(X.env.scope.kind == .module&&X.env.locals != X.env.globals))=false:=by rw[I.ok.kind];rfl
 refine wpAny_nameGoes_keeps hk hn qr λh' v qd hs=>hQ _ ?_;obtain⟨oL,_,_,oI,_⟩:=id hn;have cne:=I.cne;have eC:HOk X.prog X.w H h':=λb ob e=>by
  refine(I.hok b ob e).stay (λc w' hc q=>(hs.2 c ?_).trans q) (λ_ q=>q) λ_ _ q=>q;rintro rfl;rcases hc with hc| hc
  .rw[<- hc,I.free] at e;cases e
  .rw[I.free] at hc;cases hc
 refine⟨I.ok,I.os,I.bare,⟨λb o e n hb hx=>?_,λb o e n hb hx=>?_,I.base.free,λb o e hx=>?_,I.base.tups,I.base.frzs,I.base.tbls⟩,⟨_,qd,λi y v' e1 e2 e3=>?_⟩,λy c e=>?_,I.free,I.freeC,λp hp=>?_,eC,by simpa using I.len⟩
 .exact(hs.2 b (BH (B5 (AW e) I.ok.above))).trans (I.base.keep b o e n hb hx)
 .obtain⟨sl,e1⟩:=I.base.slot b o e n hb hx
  exact⟨sl,(hs.2 b (BH (B5 (AW e) I.ok.above))).trans e1⟩
 .obtain⟨o',e1⟩:=I.base.there b o e hx
  exact⟨o',(hs.2 b (BH (B5 (AW e) I.ok.above))).trans e1⟩
 .by_cases kB:i=j
  .subst kB
   have hi:i<σ.length:=by rw[I.len];exact(AO.mp hj).1
   rw[He hi] at e2;cases e2
  .rw[F3 (CF kB)] at e2
   obtain⟨u',r',q⟩:=hl i y v' e1 e2 e3;refine⟨u',r',?_⟩;rcases q with⟨k,e⟩| ⟨k,c,e,z⟩
   .refine .inl ⟨k,?_⟩
    have:y≠n:=λe=>kB (Ks hN e1 (e ▸ hj));simp[this,e]
   .exact .inr ⟨k,c,e,z.sameBut hs (cne y c e)⟩
 .obtain⟨w',z⟩:=I.cell y c e
  exact⟨w',z.sameBut hs (cne y c e)⟩
 .obtain⟨e,n,ne,nf,d⟩:=I.pin p hp
  exact⟨(hs.2 p.1 ne).trans e,n,ne,nf,d⟩
noncomputable def sx(X:Cx)(a:Addr)(oe:Obj):Cx:={X with A:=X.A.mark (uA (.ref a)),calm:=false,pn:=X.pn++[(a,oe)],xe:=λ_ _=>False}
theorem Inv.suite(I:Inv X aS σ H s)(e:s.heap.get? a=uA oe)(n:H a=uB)(ne:a≠X.env.locals)(nf:a∉X.fs)(d:∀v,oe.data≠.cell v):Inv (sx X a oe) aS σ H s :=
 ⟨⟨I.ok.mod,I.ok.kind,I.ok.glob,I.ok.blt,I.ok.above,I.ok.inj,I.ok.has,I.ok.cab,(λz=>by cases z),I.ok.frames,I.ok.stk,I.ok.exf,I.ok.bs,I.ok.bsz,I.ok.noex,I.ok.exfs,I.ok.funs,I.ok.frf⟩,
  I.os,I.bare,I.base,I.loc,I.cell,I.free,I.freeC,λp hp=>by
   rcases B8.mp hp with hp| hp
   .rcases B8.mp hp with hp| hp
    .exact I.pin p (DO _ hp)
    .have ep:p=(a,oe):=by simpa using hp
     subst ep;exact⟨e,n,ne,nf,d⟩
   .exact I.pin p (BS _ hp),I.hok,I.len⟩
theorem Fly.inv(f:Fly X.prog X.w X.stack H1 H2 s1 s2 a cls)(I:Inv X aS σ H1 s1){B:Heap}(hb:HOk X.prog X.w H2 B)(big:∀b o',(∃o,s1.heap.get? b=uA o)->s2.heap.get? b=uA o'->b∉frs X.stack->B.get? b=uA o') (st:B.StaysIn h') (up:s2.heap.UpToSlots h'):Inv X aS σ H2 {s2 with heap:=h'}:=by
 have nn:∀b:Addr,b∉([]:uX):=λb=>DJ;have fr:∀b o,s1.heap.get? b=uA o->b∈frs X.stack->∃sl,h'.get? b=uA {o with slots:=sl}:=λb o e z=>by
  obtain⟨sl,e2⟩:=f.un.slot b o e (I.stkFree b z) z (nn b);obtain⟨_,o',dS,hd⟩:=I.stack.mem z;rw[e] at dS;cases dS;obtain⟨pF,e3⟩:=up b _ e2 hd;exact⟨pF,e3⟩
 have un:Un (frs X.stack) [] H1 H2 s1.heap h':=⟨λb o e n nb _=>st b o (big b o ⟨o,e⟩ (f.un.keep b o e n nb (nn b)) nb),λb o e n nb _=>fr b o e nb,λb o e n _=>f.un.free b o e n (nn b),λb o e _=>by
   by_cases z:b∈frs X.stack
   .obtain⟨sl,e2⟩:=fr b o e z
    exact⟨_,e2⟩
   .obtain⟨o2,e2⟩:=f.un.there b o e (nn b)
    exact⟨o2,st b o2 (big b o2 ⟨o,e⟩ e2 z)⟩,f.un.tups,f.un.frzs,f.un.tbls⟩
 exact I.call' (s':={s2 with heap:=h'}) (ch:=[]) f.os un (hb.kept st) f.bare (λb z=>nomatch z)
structure XSub(K:Au)(C D:Addr):Prop where
 ty:QH K (.ref D)=uA (.type "type")
 cl:(W1 K D).isSome=true
 ex:N5 K (.ref D) (.type "BaseException")=uA true
 sub:N5 K (.ref C) (.ref D)=uA true
set_option tactic.hygienic true in
theorem Zz{M:ME}{e:Addr}{Q:uN}(X:K.In s.heap)(S:XSub K C D)(he:s.heap.get? e=uA oe)(hc:oe.cls=.ref C)(hq:Q true s) :
  wpAny M A (excMatches (.ref e) (.ref D)) Q E s:=by
 obtain⟨h,g,d,t,os⟩:=s;have L1:=PySem.W.looks_typeIn (M:=M) X S.ty;have L2:=Sk (M:=M) X S.ex;have L3:=Sk (M:=M) X S.sub;have L4:W2 M h (isType (.ref D)) true:=by
  have z:=S.cl;unfold W1 at z;split at z
  .rename_i c' d' cd' pF ho
   intro A' Q' E' s' k q;unfold isType loadHead;exact Ap (QA (k _ _ (X _ _ ho)) (AC q))
  .cases z
 have L5:W2 M h (typeOf (.ref e)) (.ref C):=hc ▸ (Y3 he).andThen .now;have f:=tc_notTuple;unfold excMatches isExcClass VA
 open PySem.W in repeat lk
 exact hq
def XP(X:Cx)(aS:uQ)(σ:St)(E:XK)(x:As)(s2:AA):Prop:=∃H1 s1,Inv X aS σ H1 s1/\CXF X.prog X.w X.stack H1 s1 E x s2
def PEX(X:Cx)(e:Expr)(E:XK)(t:TE):Prop :=
 ∀(aS:uQ) (s:AA) (σ:St) (H:Hp) (Q:VK),Inv X aS σ H s->t σ H Q->wpAny (AM X.prog X.w) X.A (eval e X.env) (EP X aS σ Q) (XP X aS σ E) s
section
variable{k:Nat}{eA:List V}{E:XK}{m:Str}{p:Pos}{o:Expr}{t:TA}
theorem AAz(M:Mk X.K C f)(F:FnOk X.prog X.w X.K X.mg X.base (CXF X.prog X.w) k f fd ps sp)(hr:Room (k+1) X.A)(hg:Gl X x)(hm:X.mg x=uA (.ref C))(hb:Binds X.K fd ps ds)(hd:Vals eA ds)
  (ha:PA X.nox (e::es) t) (gv:autoParam ((x==("__debug__" : Str))=false) zA1._auto_1) (he:autoParam (BQ (e::es) X.env=(false,eval e X.env)::BQ es X.env) zA0._auto_1) (fk:autoParam ((FG pos (BQ es X.env)).any (·.1)=false) zA0._auto_1) :
  PEX X (.Call (.Name x p) (e::es) [] pos) E (ACN C sp eA E t):=by
 intro aS s0 σ H0 Q I0 h0;refine EN (HX I0 hg hm ?_ gv);refine K4 (h₀:=X.base) I0.ok.mod.kin M.kp (C5 (ha pos aS s0 σ H0 _ (I0.wish _) h0) (λus s ⟨vs,H,I1,r,h⟩=>⟨I1.unwish.kIn,?_⟩) λ_ _ z=>z.elim) he fk;have I:=I1.unwish;have hq:=h (s.heap.objs.size+1) s.heap.objs.size (I.hok.fresh (LZ _)) (I.hok.fresh (AF _)) (BH (E7 _));have I2:=Inv.made (C:=C) I;have r2:Vals (V.ref (s.heap.objs.size+1)::(vs++eA)) (AV (s.heap.objs.size+1)::(us++ds)):=.cons rfl (r.append hd);have hl:(AV (s.heap.objs.size+1)::us++ds).length=ps.length:=by
  have e:=r2.length;rw[F.len _ _ _ _ hq] at e;exact e.symm
 refine RC (Ul (f:=f) I.kIn M.makes M.init (beq_iff_eq.mp M.fn) (E8 (F.run _ X.stack _ _ ⟨AV (s.heap.objs.size+1)::us,[]⟩ (AV (s.heap.objs.size+1)::(us++ds)) _ _ E (hr.make C us [])
  (I2.env0.make C us []) (hb _ (AV (s.heap.objs.size+1)::us) I2.kIn hl) r2 hq) λr s' fb=>?_))
 cases r with
 | error e=>exact⟨_,_,I2,fb⟩
 | ok fl =>
  cases fl with
  | ret u =>
   obtain⟨v,H',I3,rv,ev,q3⟩:=I2.after fb;subst ev;exact⟨rv,⟨V.ref (s.heap.objs.size+1),H',I3,rfl,q3⟩⟩
  | next=>exact Ee fb
  | brk=>exact Ee fb
  | cont=>exact Ee fb
end
def goneD(D:Ends)(j:Nat):Ends:={nx:=λσ H=>D.nx (σ.set j uB) H,rt:=D.rt,bk:=λσ H=>D.bk (σ.set j uB) H,ct:=λσ H=>D.ct (σ.set j uB) H}
def AHR(K:Au)(tl:TE):TI:=λσ H R=>tl σ H λx H1=>∃a,x=.ref a/\(((∃xs,SqL K H1 a xs)/\R (Itl K a) H1)\/((∃xs,SqT K H1 a xs)/\R (Itt K a) H1))
theorem AGI{l:Expr}(hl:PE X l tl):PI X tg l (AHR X.K tl):=by
 intro aS s σ H R I h;refine thn (hl aS s σ H _ I h) λv s1 ⟨x,H1,I1,r1,q1⟩=>?_;obtain⟨a,e,q1⟩:=q1;subst e;cases r1;rcases q1 with⟨⟨xs,hq⟩,q⟩| ⟨⟨xs,hq⟩,q⟩
 .obtain⟨bg,rv,p,hz⟩:=I1.list hq
  refine Op p.isList ?_;refine⟨s1.heap.objs.size,[s1.heap.objs.size],_,_,H1,rfl,I1.kept (t':=s1.toks) λb o e=>AH _ e,PX a _,⟨_,AT _ rfl,rfl,rfl⟩,λb hb=>?_,q⟩;have e:b=s1.heap.objs.size:=by simpa using hb
  subst e;exact I1.fpOk (AF _) (I1.hok.fresh (AF _))
 .obtain⟨bg,rv,p,hz⟩:=I1.tuple hq
  refine E6 p ?_;refine⟨s1.heap.objs.size,[s1.heap.objs.size],_,_,H1,rfl,I1.kept (t':=s1.toks) λb o e=>AH _ e,Ld a _,⟨_,AT _ rfl,rfl,rfl⟩,λb hb=>?_,q⟩;have e:b=s1.heap.objs.size:=by simpa using hb
  subst e;exact I1.fpOk (AF _) (I1.hok.fresh (AF _))
end L2
namespace L2
open PySem PySem.Spec PyProof.Rows PySem.W
structure XCl(K:Frag)(C:Addr):Prop where
 ga:C7 K (.ref C) "__getattribute__" = uA (uA (.builtin "BaseException.__getattribute__"))
 gt:C7 K (.ref C) "__getattr__" = uA uB
 cl:C7 K (.ref C) "__class__" = uA (uA (.builtin "object.__class__"))
 ob:mroIn K C (.type "object")=uA true
 be:mroIn K C (.type "BaseException")=uA true
 is:(clsIn K C).isSome=true
section
variable{K:Frag}{g:Array Rs}{d:Drawn}{t:Nat}{os:OsState}
structure XAt(h:Heap)(a:Addr)(oe:Obj)(C:Addr):Prop where
 at_:h.get? a=uA oe
 cls:oe.cls=.ref C
theorem XAt.type{M:ME}(I:XAt h a oe C):Looks M h (typeOf (.ref a)) (.ref C):=I.cls ▸ (Y3 I.at_).andThen .now
theorem AGa{tp:As}(X:K.In h)(Z:XCl K C)(I:XAt h a oe C)(hq:R (.ok (.ret (.ref C))) ⟨h,g,d,t,os⟩) :
  codeAny (AM prog w) A (.call (.builtin "getset_descriptor.__get__") ⟨[.builtin "object.__class__",.ref a,tp],[]⟩) R ⟨h,g,d,t,os⟩:=by
 have L0:=I.type (M:=AM prog w);have L1:Looks (AM prog w) h (isSubtype (.ref C) (.type (".".intercalate ("object.__class__".cutAt '.').dropLast))) true:=by
  rw[F.owner_object_class];exact looks_mroIn X Z.ob
 have ty5:(⟨h,g,d,t,os⟩:AA).TypeIs (.builtin "object.__class__") "getset_descriptor":=QQ;refine MZ Sa.plain F.entry_gs_get (Sa.check _ _ _ _ _ _ _ _ ty5 (F.args_gs_get _ _ _) ?_)
 repeat (any_goals (first| assumption| with_reducible refine L0.at ?_| with_reducible refine L1.at ?_| wp_step))
 refine⟨NV _ (by decide+kernel),EK F.entry_object_class ?_⟩
 repeat (any_goals (first| assumption| with_reducible refine L0.at ?_| wp_step))
theorem ACc{tk:Tok}{Q:Fin->AA->Prop}(X:K.In h)(Z:XCl K C)(I:XAt h a oe C)(hq:Q (.done (.ret (.ref C))) ⟨h,g,d,t,os⟩) :
  wpAny (AM prog w) A (Builtin.«object.__getattribute__» ⟨[.ref a,.str "__class__" tk],[]⟩) Q E ⟨h,g,d,t,os⟩:=by
 have L0:=I.type (M:=AM prog w);have L1:=SZ (M:=AM prog w) X Z.cl;have f5:=QQ;have f6:=Sa.lookup;have f7:=F.slot_gs_set.lookup
 repeat (any_goals (first| assumption| with_reducible refine L0.at ?_| with_reducible refine L1.at ?_| wp_step))
 refine AGa X Z I ?_
 repeat (any_goals (first| assumption| wp_step))
theorem ABR{M:ME}{pI:As}{Q:uO}(X:K.In h)(Z:XCl K C)(I:XAt h a oe C)(hq:Q () ⟨h,g,d,t,os⟩):wpAny M A (UO "BaseException.__getattribute__" ⟨[.ref a,pI],[]⟩) Q E ⟨h,g,d,t,os⟩:=by
 have hk:builtinKind "BaseException.__getattribute__" = uA .slot:=by decide+kernel
 have qw:splitId "BaseException.__getattribute__" = uA ("BaseException","__getattribute__"):=by decide+kernel
 have ha:=F.args_bexc_ga (.ref a) pI;have L0:=I.type (M:=M);have L2:=looks_mroIn (M:=M) X Z.be;simp only[UO,hk,qw];refine Ap ?_
 .unfold VA
  repeat (first| with_reducible refine L0.at ?_| with_reducible refine L2.at ?_| wp_step)
  exact hq
theorem ADl{tk:Tok}(X:K.In h)(Z:XCl K C)(I:XAt h a oe C)(hq:R (.ok (.ret (.ref C))) ⟨h,g,d,t,os⟩) :
  codeAny (AM prog w) A (.call (.builtin "BaseException.__getattribute__") ⟨[.ref a,.str "__class__" tk],[]⟩) R ⟨h,g,d,t,os⟩ :=
 MZ (by decide+kernel) F.entry_bexc_ga (ABR X Z I (ACc X Z I hq))
theorem AGn{tk:Tok}{fill:Bool}(X:K.In h)(Z:XCl K C)(I:XAt h a oe C)(hq:Q (.ref C) ⟨h,g,d,t,os⟩) :
  wpAny (AM prog w) A (getAttrBy (.ref a) (.str "__class__" tk) fill kU) Q E ⟨h,g,d,t,os⟩:=by
 have L0:=I.type (M:=AM prog w);have L1:=SZ (M:=AM prog w) X Z.ga;have L2:=SZ (M:=AM prog w) X Z.gt;have f3:=F.excAttr_ValueError.ga.bind (.ref a);have hx0:(kU&&onTheHeap (Mb "BaseException.__getattribute__"))=false:=by cases kU<;>rfl
 have qP:(Mb "BaseException.__getattribute__" == Mb "object.__getattribute__")=false:=by decide+kernel
 have hx1:(onTheHeap (AV C)&&Mb "BaseException.__getattribute__" == Mb "object.__getattribute__")=false:=by rw[qP];rfl
 repeat (any_goals (first| assumption| with_reducible refine L0.at ?_| with_reducible refine L1.at ?_| with_reducible refine L2.at ?_| wp_step))
 refine ADl X Z I ?_
 repeat (any_goals (first| assumption| wp_step))
theorem AEM{Q:Option As->AA->Prop}(X:K.In s.heap)(Z:XCl K C)(I:XAt s.heap a oe C)(hq:Q (uA (.ref C)) {s with toks:=s.toks+1}):wpAny (AM prog w) A (getAttr? (.ref a) "__class__") Q E s:=by
 obtain⟨h,g,d,t,os⟩:=s;unfold getAttr? getAttrBy?
 repeat (any_goals (first| assumption| with_reducible apply AGn X Z I| wp_step))
set_option tactic.hygienic true in
theorem Ls(Z:XCl K C):KitX K (.ref a) (.ref C) (λh=>XAt h a oe C) where
 ty:=λ_ _ _ I=>I.type
 it:=λ_ _ X _=>by
  have z:=Z.is;unfold clsIn at z;split at z
  .rename_i c' d' cd' pF ho
   intro A' Q' E' s' k q;unfold isType loadHead;exact Ap (QA (k _ _ (X _ _ ho)) (AC q))
  .cases z
 ne:=λh tp dd bg n sl X htp=>by
  refine Bool.eq_false_iff.mpr λq=>?_;have e:C=tp:=Value.ref.inj (beq_iff_eq.mp q);subst e;have z:=Z.is;unfold clsIn at z;split at z
  .rename_i c' d' cd' pF ho
   have z2:=(X _ _ ho).symm.trans htp;cases z2
  .cases z
 ca:=λX I k=>AEM X Z I k
end
def rIsX(K:Frag)(a C:Addr):List V->Hp->VK->Prop:=λxs H Q =>
 (∃(D:Addr) (b:Bool),xs=[.ref a,.ref D]/\kitOne K (.ref C) (.ref D)=uA b/\Q (.bl b) H)\/(∃(T:String) (b:Bool),xs=[.ref a,.ty T]/\kitOne K (.ref C) (.type T)=uA b/\Q (.bl b) H) \/
 (∃(tp:Addr) (Ds:uX) (b:Bool),xs=[.ref a,.ref tp]/\SqT K H tp (Ds.map V.ref)/\kitAny K (.ref C) (Ds.map AV)=uA b/\Q (.bl b) H)
theorem Ou:∀{Ds:uX}{us:List As},Vals (Ds.map V.ref) us->us=Ds.map AV
 | [],_,.nil=>rfl
 | _::_,_,.cons r t=>by cases r;rw[Ou t];rfl
theorem AFH(hp:(a,oe)∈X.pn)(hc:oe.cls=.ref C)(Z:XCl X.K C):CallR X (.builtin "isinstance") (rIsX X.K a C):=by
 intro aS s σ H xs us Q I rr h;have J:XAt s.heap a oe C:=⟨(I.pin (a,oe) (DO _ hp)).1,hc⟩;have nl:(AV a)≠.builtin "__main__.__loader__#opaque":=by intro z;cases z
 rcases h with⟨D,b,rfl,e,q⟩| ⟨T,b,rfl,e,q⟩| ⟨tp,Ds,b,rfl,ht,e,q⟩
 .obtain⟨u,v,rfl,r1,r2⟩:=rr.two
  cases r1;cases r2;exact kia_one (Ls Z) I.kIn J e nl λtk=>⟨.bl b,H,I.tok _,rfl,q⟩
 .obtain⟨u,v,rfl,r1,r2⟩:=rr.two
  cases r1;cases r2;exact kia_one (Ls Z) I.kIn J e nl λtk=>⟨.bl b,H,I.tok _,rfl,q⟩
 .obtain⟨u,v,rfl,r1,r2⟩:=rr.two
  cases r1;cases r2;obtain⟨bg,rv,⟨o,ho,fF,n,ho3⟩,_⟩:=I.tuple ht;have ei:=Ou rv;subst ei;obtain⟨oc,od,odt,io⟩:=o;dsimp only at fF ho3;subst fF ho3;exact kia_tup (Ls Z) I.kIn J ho e nl λtk=>⟨.bl b,H,I.tok _,rfl,q⟩
end L2
namespace L2
open PySem PySem.Spec PyProof.Rows
abbrev loopR(g:TG)(tb:TS)(D:Ends)(σ:St)(J:It)(H1:Hp):Prop:=∃W:Nat->Nat->St->Hp->Prop,(∃m,W 0 m σ H1)/\∀i m σ H,W i m σ H ->
 (J.stop i H/\D.nx σ H)\/(J.go i H/\∃N:St->Hp->Prop,(∀σ' H',N σ' H'->∃m',m'<m/\W (i+1) m' σ' H')/\∀x H',J.yld i H x H'->g x σ H' λσ2 H2=>tb {D with nx:=N,ct:=N,bk:=D.nx} σ2 H2)
theorem AEy{g:TG}{D:Ends}(hS:SqL K H0 a xs\/SqT K H0 a xs)(Pv:Nat->St->Hp->Prop)(h0:Pv 0 σ H)(hl:∀i σ H',i<=xs.length->Pv i σ H'->Same H0 H')
  (hs:∀i x σ H,xs[i]?=uA x->Pv i σ H->g x σ H λσ2 H2=>tb {D with nx:=Pv (i+1),ct:=Pv (i+1),bk:=D.nx} σ2 H2) (hd:∀σ H,Pv xs.length σ H->D.nx σ H) :
  ((∃xs,SqL K H a xs)/\loopR g tb D σ (Itl K a) H)\/((∃xs,SqT K H a xs)/\loopR g tb D σ (Itt K a) H) :=
 hS.elim (λz=>.inl ⟨⟨_,(hl 0 σ H (A7 _) h0).seq z⟩,FN Pv h0 (λi σ H2 hi p=>(hl i σ H2 hi p).seq z) hs hd⟩) λz=>.inr ⟨⟨_,(hl 0 σ H (A7 _) h0).ts.seq z⟩,AEH Pv h0 (λi σ H2 hi p=>(hl i σ H2 hi p).ts.seq z) hs hd⟩
section
variable{id:String}{o:Expr}{t:TA}{l:Expr}
theorem Hy(hK:X.K=K)(hp:(a,oe)∈X.pn)(hc:oe.cls=.ref C)(Z:XCl K C):CallR X (.builtin "isinstance") (rIsX K a C):=by subst hK;exact AFH hp hc Z
end
section
variable{st:Stmt}{rest:List Stmt}{t u:TS}
def AHP(t u:TS):TS:=λD σ H=>∃M:St->Hp->Prop,t {D with nx:=M} σ H/\∀σ' H',M σ' H'->u D σ' H'
theorem Hx(h1:PS X st t)(h2:PSs X rest u):PSs X (st::rest) (AHP t u):=by
 intro aS s σ H D I h;obtain⟨M,ha,hb⟩:=h;refine Kb (thn (h1 aS s σ H {D with nx:=M} I ha) λf s1 q=>?_);cases f with
 | next =>
  obtain⟨σ',H',I',q⟩:=q;exact h2 aS s1 σ' H' D I' (hb _ _ q)
 | ret v=>exact q
 | brk=>exact q
 | cont=>exact q
end
end L2
namespace L2
open PySem PySem.Spec PyProof.Rows PySem.W
theorem Vals.app(h:Vals xs us)(k:Vals ys vs):Vals (xs++ys) (us++vs):=by
 induction h with
 | nil=>exact k
 | cons r t ih=>exact .cons r ih
def rAddL(K:Au):R2:=λx y H Q=>∃a b xs ys,x=.ref a/\y=.ref b/\SqL K H a xs/\SqL K H b ys/\xs.length+ys.length<=sizeLine/\∀p,H p=none->Q (.ref p) (upd H p (.lst (xs++ys)))
theorem YL:OpR X (Hb .Add) (rAddL X.K):=by
 intro aS s σ H x y v u Q I rx ry h;obtain⟨a,b,xs,ys,rfl,rfl,ha,hb,hz,q⟩:=h;cases rx;cases ry;obtain⟨vs,r1,p1,_⟩:=I.list ha;obtain⟨ws,r2,p2,_⟩:=I.list hb;have hl:=p1.isList;have rm:=p2.isList;obtain⟨⟨cls,dd,data,sl⟩,ho,hc,n,hd⟩:=id hl;obtain⟨⟨nv,kA,X0,kD⟩,fF,gL,n2,gE⟩:=id rm;simp only at hc hd gL gE;subst hc hd gL gE;have e:vs.toArray++ws.toArray=(vs++ws).toArray:=by simp
 have l1:=r1.length;have l2:=r2.length;refine OT ⟨_,ho,rfl⟩ ⟨_,fF,rfl⟩ noFill_list_add seq_list_add PySem.F.slot_list_add PySem.F.entry_list_add (PySem.F.args_list_add_2 _ _) (list_addW a b vs.toArray ws.toArray n n2 dd kA sl kD (by rw[A8,A8];lia)) ⟨ho,fF,?_⟩;rw[e];refine⟨.ref s.heap.objs.size,_,I.laid (t':=s.toks) (o:=.lst (xs++ys)) (λb ob q=>AH _ q) (AF _) ?_,rfl,q _ (I.hok.fresh (AF _))⟩;exact⟨by rw[BN];exact hz,_,0,Vals.app r1 r2,AT _ rfl⟩
structure Own(K:Frag)(C:Addr):Prop where
 ha:C7 K (.ref C) "__class__" = uA (uA (.builtin "object.__class__"))
 hn:specialIn K (.builtin "object.__class__") "__get__" = uA (uA (.builtin "getset_descriptor.__get__"))
 tk:takesIn K (.builtin "object.__class__")=uA true
 hm:mroIn K C (.type "object")=uA true
 is:kitOne K (.ref C) (.ref C)=uA true
theorem passN:Passes (CXF P w) X E0:=λ_ _ _ _ _ _ _ h=>by
 obtain⟨a,cls,H2,_,_,h⟩:=h;exact h.elim
end L2
namespace L2
open PySem PySem.Spec PyProof.Rows
section
variable{κ:Type}[DecidableEq κ]
noncomputable def valV(bb:List (κ×V))(k:κ):Option V:=(bb.find? λkv=>decide (kv.1=k)).map (·.2)
noncomputable def putK(bb:List (κ×V))(k:κ)(v:V):List (κ×V) :=
 if(bb.any λkv=>decide (kv.1=k))=true then bb.map (λkv=>if kv.1=k then(kv.1,v) else kv) else bb++[(k,v)]
theorem CT{p:κ×V}{r:List (κ×V)}{k:κ}(e:p.1=k):valV (p::r) k=uA p.2:=by simp[valV,F8,e]
theorem CV{p:κ×V}{r:List (κ×V)}{k:κ}(e:¬ p.1=k):valV (p::r) k=valV r k:=by simp[valV,F8,e]
theorem Gm(k:κ):∀bb:List (κ×V),(bb.any λkv=>decide (kv.1=k))=(valV bb k).isSome
 | []=>rfl
 | p::r=>by
  rw[IR];by_cases e:p.1=k
  .simp only[CT e,uF e,Bool.true_or,Option.isSome_some]
  .rw[CV e,uG e,W3];exact Gm k r
theorem Ss(k j:κ)(y:V):∀bb:List (κ×V),valV (bb.map λkv=>if kv.1=k then(kv.1,y) else kv) j=(valV bb j).map λx=>if j=k then y else x
 | []=>rfl
 | p::r=>by
  have ih:=Ss k j y r;rw[BU];by_cases h:p.1=k
  .rw[uE h]
   by_cases e:p.1=j
   .rw[CT (p:=(p.1,y)) e,CT e,M0,uE (e.symm.trans h)]
   .rw[CV (p:=(p.1,y)) e,CV e,ih]
  .rw[uD h]
   by_cases e:p.1=j
   .rw[CT (p:=p) e,CT e,M0,uD (λz=>h (e.trans z))]
   .rw[CV (p:=p) e,CV e,ih]
theorem OD(k j:κ)(y:V):∀bb:List (κ×V),valV bb k=none->valV (bb++[(k,y)]) j=if j=k then uA y else valV bb j
 | [],_=>by
  by_cases e:k=j
  .rw[uE e.symm];exact CT (p:=(k,y)) e
  .rw[uD (λz=>e z.symm)];exact CV (p:=(k,y)) e
 | p::r,hn=>by
  rw[UP];have hk:¬ p.1=k:=λz=>by rw[CT z] at hn;cases hn
  rw[CV hk] at hn;have ih:=OD k j y r hn;by_cases e:p.1=j
  .rw[CT e,CT e,uD (λz=>hk (e.trans z))]
  .rw[CV e,CV e,ih]
theorem Ef(bb:List (κ×V))(k j:κ)(y:V):valV (putK bb k y) j=if j=k then uA y else valV bb j:=by
 unfold putK;by_cases a:(bb.any λkv=>decide (kv.1=k))=true
 .rw[uE a,Ss]
  rw[Gm] at a;by_cases e:j=k
  .obtain⟨x,hx⟩:=F4.mp a
   rw[uE e,e,hx,M0,uE rfl]
  .rw[uD e]
   cases valV bb j with
   | none=>rfl
   | some x=>rw[M0,uD e]
 .rw[uD a]
  refine OD k j y bb ?_;rw[Gm] at a;cases q:valV bb k with
  | none=>rfl
  | some x=>rw[q] at a;exact(a rfl).elim
theorem Ca(bb:List (κ×V))(k:κ)(v:V):(putK bb k v).length<=bb.length+1:=by
 unfold putK;split
 .rw[AB];exact uS
 .rw[BN,D0,IY];lia
theorem JG{bb:List (κ×V)}{k:κ}(v:V)(h:valV bb k=uB):putK bb k v=bb++[(k,v)]:=by
 unfold putK;rw[Gm,h];exact uD (by decide)
theorem RelO.isSome_eq{o:Option V}{u:Option As}(r:RelO o u):o.isSome=u.isSome:=by
 cases o with
 | none=>cases u with
  | none=>rfl
  | some _=>exact r.elim
 | some _=>cases u with
  | none=>exact r.elim
  | some _=>rfl
theorem RelO.getD{o:Option V}{u:Option As}{d:V}{d':As}(r:RelO o u)(rd:RelV d d'):RelV (o.getD d) (u.getD d'):=by
 cases o with
 | none=>cases u with
  | none=>exact rd
  | some _=>exact r.elim
 | some _=>cases u with
  | none=>exact r.elim
  | some _=>exact r
theorem KV.val{bb:List (κ×V)}{vs:List (κ×As)}(r:KV bb vs)(k:κ):RelO (valV bb k) (OP vs k):=by
 unfold KV at r
 induction r with
 | nil=>exact HZ
 | @cons p q ps qs h t ih =>
  obtain⟨h1,h2⟩:=h;by_cases e:p.1=k
  .have e':=h1.symm.trans e
   have b:OP (q::qs) k=uA q.2:=by simp[OP,F8,e']
   rw[CT e,b];exact h2
  .have e':¬ q.1=k:=λz=>e (h1.trans z)
   have b:OP (q::qs) k=OP qs k:=by simp[OP,F8,e']
   rw[CV e,b];exact ih
theorem KV.any{bb:List (κ×V)}{vs:List (κ×As)}(r:KV bb vs)(k:κ):(bb.any λkv=>decide (kv.1=k))=vs.any λkv=>decide (kv.1=k):=by
 unfold KV at r
 induction r with
 | nil=>rfl
 | cons h t ih=>rw[IR,IR,ih,h.1]
theorem KV.repl{bb:List (κ×V)}{vs:List (κ×As)}(r:KV bb vs)(k:κ)(ry:RelV y u) :
  KV (bb.map λkv=>if kv.1=k then(kv.1,y) else kv) (vs.map λkv=>if kv.1=k then(kv.1,u) else kv):=by
 unfold KV at r ⊢
 induction r with
 | nil=>exact .nil
 | @cons p q ps qs h t ih =>
  rw[BU,BU];refine .cons ?_ ih;obtain⟨h1,h2⟩:=h;by_cases e:p.1=k
  .rw[uE e,uE (h1.symm.trans e)];exact⟨h1,ry⟩
  .rw[uD e,uD (λz=>e (h1.trans z))];exact⟨h1,h2⟩
theorem KV.put{bb:List (κ×V)}{vs:List (κ×As)}(r:KV bb vs)(k:κ)(ry:RelV y u):KV (putK bb k y) (stored vs k u):=by
 unfold putK stored;rw[r.any k];by_cases e:(vs.any λkv=>decide (kv.1=k))=true
 .rw[uE e,uE e];exact r.repl k ry
 .rw[uD e,uD e];exact T8 r ⟨rfl,ry⟩
theorem KV.length{bb:List (κ×V)}{vs:List (κ×As)}(r:KV bb vs):bb.length=vs.length:=AZ r
end
theorem Ob{k:Key}(r:RelV (kV k) u):(CG P w).is k u=true:=by
 cases k with
 | inl i=>obtain⟨t,e⟩:=r;subst e;exact Tg P w i t
 | inr x=>obtain⟨t,e⟩:=r;subst e;exact Ti P w x t
theorem Nf{P:AJ}{w:AQ}:∀{ks:List Key}{us:List As},Vals (ks.map kV) us->ItemsAre (CG P w) ks us
 | [],_,r=>by rw[MS] at r;cases r;exact .nil
 | k::ks,_,r=>by
  rw[BU] at r;cases r with
  | cons h t=>exact .cons (Ob h) (Nf t)
abbrev KT(H:Hp):List (List Key×V)->List (List Key×Addr×As)->Prop:=A1 λp q=>p.1=q.1/\H q.2.1=uA (.tup (p.1.map kV))/\RelV p.2 q.2.2
theorem KT.val{xs:List (List Key×Addr×As)}(r:KT H bb xs)(k:List Key):RelO (valV bb k) ((Jn xs k).map (·.2)):=by
 induction r with
 | nil=>exact HZ
 | @cons p q ps qs h t ih =>
  obtain⟨h1,_,h2⟩:=h;by_cases e:p.1=k
  .have e':=h1.symm.trans e
   have b:Jn (q::qs) k=uA q.2:=by simp[Jn,F8,e']
   rw[CT e,b];exact h2
  .have e':¬ q.1=k:=λz=>e (h1.trans z)
   have b:Jn (q::qs) k=Jn qs k:=by simp[Jn,F8,e']
   rw[CV e,b];exact ih
theorem KT.repl{xs:List (List Key×Addr×As)}(r:KT H bb xs)(k:List Key)(ry:RelV y u) :
  KT H (bb.map λkv=>if kv.1=k then(kv.1,y) else kv) (xs.map (putAt k u)):=by
 induction r with
 | nil=>exact .nil
 | @cons p q ps qs h t ih =>
  rw[BU,BU];refine .cons ?_ ih;obtain⟨h1,h2,h3⟩:=h;unfold putAt;by_cases e:p.1=k
  .rw[uE e,uE (h1.symm.trans e)];exact⟨h1,h2,ry⟩
  .rw[uD e,uD (λz=>e (h1.trans z))];exact⟨h1,h2,h3⟩
theorem KT.put{xs:List (List Key×Addr×As)}(r:KT H bb xs)(k:List Key)(hb:H b=uA (.tup (k.map kV)))(ry:RelV y u) :
  KT H (putK bb k y) (Ts xs k b u):=by
 have e:(bb.any λkv=>decide (kv.1=k))=(Jn xs k).isSome:=by
  rw[Gm,(r.val k).isSome_eq,LU]
 unfold putK Ts;rw[e];by_cases q:(Jn xs k).isSome=true
 .rw[uE q,uE q];exact r.repl k ry
 .rw[uD q,uD q];exact T8 r ⟨rfl,hb,ry⟩
theorem KT.keeps{xs:List (List Key×Addr×As)}(r:KT H bb xs)(ht:∀b ys,H b=uA (.tup ys)->H' b=uA (.tup ys)):KT H' bb xs :=
 uY r λ_ _ z=>⟨z.1,ht _ _ z.2.1,z.2.2⟩
theorem AFO{u:HO}(ok:HOk P w H h)(e:Rd H a u):ObjOk P w H h a u:=e.ok ok
theorem PN{bb:List (Key×V)}(ok:HOk P w H h)(e:Rd H a (.dK bb)):bb.length<=sizeLine/\(a==EG)=false/\∃vs,KV bb vs/\h.DictOf (CG P w) a vs :=
 show ObjOk P w H h a (.dK bb) from AFO ok e
theorem AFX{bb:List (Key×V)}(ok:HOk P w H h)(e:H a=uA (.dK bb)):bb.length<=sizeLine/\(a==EG)=false/\∃vs,KV bb vs/\h.DictOf (CG P w) a vs:=PN ok (.inl e)
theorem Kg{ks:List Key}(ok:HOk P w H h)(e:H a=uA (.tup (ks.map kV))):(NN (CG P w)).is h ks a:=by
 obtain⟨_,bg,r,o,h1,h2,n,h3⟩:=(ok a _ e);exact⟨o,bg.toArray,n,h1,h2,h3,by simpa using Nf r⟩
theorem Oh(ok:HOk P w H h)(e:Rd H a (.dT bb)):bb.length<=sizeLine/\(a==EG)=false /\
  ∃xs,KT H bb xs/\h.DictOfH (NN (CG P w)) a xs:=by
 obtain⟨z,y,xs,r,o,es,ep,h1,h2,h3,h4,h5⟩:=(AFO ok e);refine⟨z,y,xs,r,o,es,ep,h1,h2,h3,h4,λx hx=>?_,h5⟩;have all:∀{l:List (List Key×V)}{m:List (List Key×Addr×As)},KT H l m->∀x∈m,(NN (CG P w)).is h x.1 x.2.1:=by
  intro l m q
  induction q with
  | nil=>intro x hx;exact nomatch hx
  | @cons p q ps qs hq t ih =>
   intro x hx;rcases AS.mp hx with e| hx
   .subst e
    exact Kg ok (by rw[<- hq.1];exact hq.2.1)
   .exact ih x hx
 exact all r x hx
theorem AGj(ok:HOk P w H h)(e:H a=uA (.dT bb)):bb.length<=sizeLine/\(a==EG)=false /\
  ∃xs,KT H bb xs/\h.DictOfH (NN (CG P w)) a xs:=Oh ok (.inl e)
def DGet(H:Hp)(a:Addr)(y:V)(r:Option V):Prop :=
 (∃bb k,Rd H a (.dK bb)/\y=kV k/\r=valV bb k)\/∃bb k b,Rd H a (.dT bb)/\y=.ref b/\H b=uA (.tup (k.map kV))/\r=valV bb k
def DPut(H:Hp)(a:Addr)(y v:V)(H':Hp):Prop :=
 (∃bb k,H a=uA (.dK bb)/\y=kV k/\bb.length<sizeLine/\H'=upd H a (.dK (putK bb k v))) \/
 ∃bb k b,H a=uA (.dT bb)/\y=.ref b/\H b=uA (.tup (k.map kV))/\bb.length<sizeLine/\H'=upd H a (.dT (putK bb k v))
theorem DGet.k{H:Hp}{a:Addr}{bb:List (Key×V)}{k:Key}(e:H a=uA (.dK bb)):DGet H a (kV k) (valV bb k):=.inl ⟨bb,k,.inl e,rfl,rfl⟩
theorem um{k:List Key}(e:H a=uA (.dT bb))(eb:H b=uA (.tup (k.map kV))):DGet H a (.ref b) (valV bb k):=.inr ⟨bb,k,b,.inl e,rfl,eb,rfl⟩
section
variable{r:As}{o:Option V}
theorem Inv.big(I:Inv X aS σ H s):EG<s.heap.objs.size:=by
 have h:=(I.mod.glob.keeps I.bk).lt;exact Su (by decide) h
theorem Yo(hu:A.units+1<C0)(I:Inv X aS σ H s)(g:DGet H a y (uA v))(ry:RelV y u)(h:∀w' s',Inv X aS σ H s'->RelV v w'->Q w' s') :
  wpAny (AM X.prog X.w) A (QO (.ref a) u) Q E s:=by
 rcases g with⟨bb,k,e,ey,l⟩| ⟨bb,k,b,e,ey,eb,l⟩
 .subst ey
  obtain⟨z,hd,vs,de,dd⟩:=PN I.hok e;obtain⟨w',hw,f8⟩:=ug (v:=v) (o:=OP vs k) (by rw[l];exact de.val k);exact wpAny_getItem_of (Ob ry) dd.mapOf hw (h w' _ (I.tok _) f8)
 .subst ey
  cases ry;obtain⟨z,hd,xs,de,dd⟩:=Oh I.hok e;obtain⟨w',hw,f8⟩:=ug (v:=v) (o:=(Jn xs k).map (·.2)) (by rw[l];exact de.val k);obtain⟨p,hp,n4⟩:=L8.mp hw;refine S3 (K6 hu) (Kg I.hok eb) dd hp ?_;rw[n4];exact h w' _ (I.tok _) f8
theorem AHV(hu:A.units+1<C0)(I:Inv X aS σ H s)(g:DGet H a y o)(ry:RelV y u)(h:∀s',Inv X aS σ H s'->Q (.bool o.isSome) s') :
  wpAny (AM X.prog X.w) A (D9 .In u (.ref a)) Q E s:=by
 rcases g with⟨bb,k,e,ey,l⟩| ⟨bb,k,b,e,ey,eb,l⟩
 .subst ey
  obtain⟨z,hd,vs,de,dd⟩:=PN I.hok e;refine wpAny_in_of (Ob ry) hd dd.mapOf ?_;rw[<- (de.val k).isSome_eq,<- l];exact h _ (I.tok _)
 .subst ey
  cases ry;obtain⟨z,hd,xs,de,dd⟩:=Oh I.hok e;refine wpAny_in_heap (K6 hu) (Kg I.hok eb) hd dd ?_;have q:=(de.val k).isSome_eq;rw[LU] at q;rw[<- q,<- l];exact h _ (I.tok _)
theorem KC{ob:HO}(I:Inv X aS σ H s)(mu:Mut (H a))(hs:EH a s.heap h')(he:∃q,h'.get? a=uA q)(new:ObjOk X.prog X.w (upd H a ob) h' a ob) :
  Inv X aS σ (upd H a ob) {s with heap:=h',toks:=t'} :=
 I.write (x:=a) (e:=a) mu (.inl rfl) (λb q hb z=>(hs.2 b hb).trans z) he new
theorem ADP{bb:List (Key×V)}{vs:List (Key×As)}(z:bb.length<=sizeLine)(hd:(a==EG)=false)(de:KV bb vs)(dd:h'.DictOf (CG P w) a vs) :
  ObjOk P w H' h' a (.dK bb):=⟨z,hd,vs,de,dd⟩
theorem Yn{Q:uO}(hu:A.units+1<C0)(I:Inv X aS σ H s)(g:DPut H a y v H')(ry:RelV y u)(rv:RelV v r)(h:∀s',Inv X aS σ H' s'->Q () s') :
  wpAny (AM X.prog X.w) A (V8 (.ref a) u r) Q E s:=by
 rcases g with⟨bb,k,e,ey,l,eH⟩| ⟨bb,k,b,e,ey,eb,l,eH⟩
 .subst ey eH
  obtain⟨z,hd,vs,de,dd⟩:=AFX I.hok e;have hz:vs.length<=sizeLine:=by rw[<- de.length];exact z
  have hl:(putK bb k v).length<=sizeLine:=by have:=Ca bb k v;exact wQ this l
  refine wpAny_setItem_pairs (hsz:=hz) (Ob ry) dd λh' mm hs=>h _ ?_;have he:∃q,h'.get? a=uA q:=let ⟨q,_,_,hq,_⟩:=mm;⟨q,hq⟩
  exact KC I (by rw[e];exact HZ) hs he (ADP hl hd (de.put k rv) mm)
 .subst ey eH
  cases ry;obtain⟨z,hd,xs,de,dd⟩:=AGj I.hok e;have hz:xs.length<=sizeLine:=by rw[<- AZ de];exact z
  have hl:(putK bb k v).length<=sizeLine:=by have:=Ca bb k v;exact wQ this l
  refine S4 (hsz:=hz) (K6 hu) (Kg I.hok eb) dd λh' mm hs=>h _ ?_;obtain⟨q,es,ep,hq,h2,h3,h4,_,h5⟩:=mm;refine KC I (by rw[e];exact HZ) hs ⟨q,hq⟩ ⟨hl,hd,_,(de.put k eb rv).keeps λc ys ec=>?_,q,es,ep,hq,h2,h3,h4,h5⟩;rw[Ah (Ck ec e (λz=>nomatch z))];exact ec
end
def NoSl(i:Expr):Prop:=∀ov iv,PY i false ov iv=operate [ov,iv] (QO ov iv)
theorem Xu{env:Env}{cm:Expr}{id:String}
  (hl:typeLookup (.type T) "__getitem__" = pure (uA (.builtin id))) (hs:NoSl cm)
  (h:wpAny (AM prog w) A (eval bq env) (λo s₁=>wpAny (AM prog w) A (eval cm env) (λi s₂=>s₂.TypeIs o T/\wpAny (AM prog w) A (QO o i) Q E s₂) E s₁) E s) :
  wpAny (AM prog w) A (eval (.Subscript bq cm pos) env) Q E s:=by
 refine Subscript_ (C5 h (λo s₁ h₁=>C5 h₁ (λi s₂ h₂=>?_) λ_ _ x=>x) λ_ _ x=>x);obtain⟨hT,h₂⟩:=h₂;unfold subscriptTail;refine Ap ?_;rw[getitemInPython_of_ne hT.not_modules];refine Ap (JA hT hl ?_);have fin:wpAny (AM prog w) A (PY cm false o i) (λr s₃=>wpAny (AM prog w) A (letTemporaryGo bq o r >>= λ_=>pure r) Q E s₃) E s₂:=by
  rw[hs o i];exact wpAny_operating (C5 h₂ (λr s₃ h₃=>Ap (wpAny_letTemporaryGo (AC h₃))) λ_ _ x=>x)
 first
  | exact AC (Ap fin)
  | exact Ap (AC (Ap fin))
  | exact Ap fin
theorem TF{o:Option V}(I:Inv X aS σ H s)(g:DGet H a y o):s.TypeIs (.ref a) "dict":=by
 rcases g with⟨bb,k,e,_,_⟩| ⟨bb,k,b,e,_,_,_⟩
 .obtain⟨_,_,vs,_,dd⟩:=PN I.hok e
  exact dd.typeIs
 .obtain⟨_,_,xs,_,dd⟩:=Oh I.hok e
  exact dd.typeIs
def AGo(td ty:TE):TE:=λσ H Q=>td σ H λx H1=>ty σ H1 λy H2=>∃a v,x=.ref a/\DGet H2 a y (uA v)/\Q v H2
def AHb(ty td:TE):TE:=λσ H Q=>ty σ H λy H1=>td σ H1 λx H2=>∃a o,x=.ref a/\DGet H2 a y o/\Q (.bl o.isSome) H2
def AGr(td ty tv:TE):TS:=λD σ H=>tv σ H λv H1=>td σ H1 λx H2=>ty σ H2 λy H3=>∃a H4,x=.ref a/\DPut H3 a y v H4/\D.nx σ H4
section
variable{o i:Expr}
theorem Qv(hu:X.A.units+1<C0)(ho:PE X o td)(hi:PE X i ty)(hs:NoSl i):PE X (.Subscript o i pos) (AGo td ty):=by
 intro aS s σ H Q I h;refine Xu OG.lookup hs (thn (ho aS s σ H _ I h) λu s1 ⟨x,H1,I1,rx,q1⟩=>thn (hi aS s1 σ H1 _ I1 q1) λiv s2 ⟨y,H2,I2,ry,a,v,ex,g,q2⟩=>?_);subst ex;obtain rfl:u=AV a:=rx;exact⟨TF I2 g,Yo hu I2 g ry λw' s3 I3 f8=>⟨v,H2,I3,f8,q2⟩⟩
theorem AAx(hu:X.A.units+1<C0)(hi:PE X i ty)(ho:PE X o td):PC X .In i o (AHb ty td):=by
 intro aS s σ H Q I h;refine thn (hi aS s σ H _ I h) λiv s1 ⟨y,H1,I1,ry,q1⟩=>thn (ho aS s1 σ H1 _ I1 q1) λu s2 ⟨x,H2,I2,rx,a,ov,ex,g,q2⟩=>?_;subst ex;obtain rfl:u=AV a:=rx;exact AHV hu I2 g ry λs3 I3=>⟨.bl ov.isSome,H2,I3,rfl,q2⟩
theorem Jw(hu:X.A.units+1<C0)(ho:PE X o td)(hi:PE X i ty)(hv:PE X bq tv)(hs:K2 bq (uA (.Subscript o i b7)) pos.line X.env=pure false) :
  PS X (.Assign [.Subscript o i b7] bq pos) (AGr td ty tv):=by
 intro aS s σ H D I h;refine P3 (thn (hv aS s σ H _ I h) λr s1 ⟨v,H1,I1,rv,q1⟩=>thn (ho aS s1 σ H1 _ I1 q1) λu s2 ⟨x,H2,I2,rx,q2⟩=>thn (hi aS s2 σ H2 _ I2 q2) λiv s3 ⟨y,H3,I3,ry,a,H4,ex,g,q3⟩=>?_) hs;subst ex;obtain rfl:u=AV a:=rx;exact Yn hu I3 g ry rv λs4 I4=>⟨σ,H4,I4,q3⟩
end
theorem ABv(h:Heap)(hb:EG<h.objs.size):ObjOk P w H (h.push {cls:=.type "dict",data:=.dict #[]}) h.objs.size (.dK []) :=
 ⟨A7 _,beq_eq_false_iff_ne.mpr (CF (BH hb)),[],.nil,aE h⟩
theorem ABx(h:Heap)(hb:EG<h.objs.size):ObjOk P w H (h.push {cls:=.type "dict",data:=.dict #[]}) h.objs.size (.dT []) :=
 ⟨A7 _,beq_eq_false_iff_ne.mpr (CF (BH hb)),[],.nil,_,#[],0,AT _ rfl,⟨rfl,rfl,rfl⟩,rfl,rfl,LD⟩
def AFw:TE:=λ_ H Q=>∀p,H p=none->Q (.ref p) (upd H p (.dT []))
theorem ABz:PE X (.Dict [] [] pos) AFw:=λaS s σ H Q I h =>
 wpAny_Dict_empty ⟨.ref s.heap.objs.size,_,I.laid (a:=s.heap.objs.size) (o:=.dT []) (t':=s.toks) (λ_ _ q=>AH _ q) (AF _) (ABx s.heap I.big),rfl,h _ (I.hok.fresh (AF _))⟩
def VJ:List (TE×TE)->St->Hp->(List (V×V)->Hp->Prop)->Prop
 | [],_,H,Q=>Q [] H
 | (tk,tv)::r,σ,H,Q=>tk σ H λx H1=>tv σ H1 λy H2=>VJ r σ H2 λps H3=>Q ((x,y)::ps) H3
abbrev VV:List (V×V)->List (As×As)->Prop:=A1 λp q=>RelV p.1 q.1/\RelV p.2 q.2
def PPs(X:Cx)(pos:Pos)(keys:List (Option Expr))(eJ:uU)(oB:List (TE×TE)):Prop :=
 ∀(aS:uQ) (s:AA) (σ:St) (H:Hp) (Q:List (V×V)->Hp->Prop),Inv X aS σ H s->VJ oB σ H Q ->
  wpAny (AM X.prog X.w) X.A (evalPairs (pairTrees keys eJ X.env pos)) (λvs s'=>∃ps H',Inv X aS σ H' s'/\VV ps vs/\Q ps H') X.xe s
theorem Xk:PPs X pos [] [] []:=λaS s σ H Q I h=>pairTrees_nil_walk ⟨[],H,I,.nil,h⟩
theorem Mh{k v:Expr}{ks:List (Option Expr)}{vs:uU}{tk:TE}(hk:PE X k tk)(hv:PE X v tv)(hr:PPs X pos ks vs oB) :
  PPs X pos (uA k::ks) (v::vs) ((tk,tv)::oB):=λaS s σ H Q I h =>
 pairTrees_cons_walk (thn (hk aS s σ H _ I h) λu s1 ⟨x,H1,I1,rx,q1⟩=>thn (hv aS s1 σ H1 _ I1 q1) λw2 s2 ⟨y,H2,I2,ry,q2⟩ =>
  thn (hr aS s2 σ H2 _ I2 q2) λws s3 ⟨ps,H3,I3,de,q3⟩=>⟨(x,y)::ps,H3,I3,.cons ⟨rx,ry⟩ de,q3⟩)
noncomputable def mergeK(bb more:List (Key×V)):List (Key×V):=more.foldl (λbX kv=>putK bX kv.1 kv.2) bb
theorem KV.merge:∀{more:List (Key×V)}{rs:List (Key×As)}{bb:List (Key×V)}{vs:List (Key×As)},KV more rs->KV bb vs->KV (mergeK bb more) (merged vs rs):=by
 intro more rs bb vs r;unfold KV at r
 induction r generalizing bb vs with
 | nil=>intro q;exact q
 | @cons p q ps qs h t ih =>
  intro r0;have e:KV (putK bb p.1 p.2) (stored vs q.1 q.2):=by
   have:=r0.put p.1 h.2;rw[<- h.1];exact this
  exact ih e
theorem Hl:∀(more bb:List (Key×V)),(mergeK bb more).length<=bb.length+more.length
 | [],bb=>by show bb.length<=bb.length+0;exact uS
 | p::r,bb=>by
  have h1:=Hl r (putK bb p.1 p.2);have h2:=Ca bb p.1 p.2;show(mergeK (putK bb p.1 p.2) r).length<=_;rw[D0];lia
theorem Kv{P:AJ}{w:AQ}:∀{bb:List (Key×V)}{ws:List (As×As)},VV (bb.map λkv=>(kV kv.1,kv.2)) ws->∃rs,Carries (CG P w) ws rs/\KV bb rs
 | [],_,r=>by rw[MS] at r;cases r;exact⟨[],HZ,.nil⟩
 | p::bb,_,r=>by
  rw[BU] at r;cases r with
  | @cons a b as bs h t =>
   obtain⟨rs,c,q⟩:=Kv (P:=P) (w:=w) t;obtain⟨b1,b2⟩:=b;exact⟨(p.1,b2)::rs,⟨Ob h.1,rfl,c⟩,.cons ⟨rfl,h.2⟩ q⟩
def AGv(oB:List (TE×TE)):TE:=λσ H Q=>∀p,H p=none->VJ oB σ (upd H p (.dK [])) λps H2=>H2 p=uA (.dK [])/\∃bb:List (Key×V),ps=bb.map (λkv=>(kV kv.1,kv.2))/\bb.length<=15/\Q (.ref p) (upd H2 p (.dK (mergeK [] bb)))
theorem Xb{keys:List (Option Expr)}{eJ:uU}(h:PPs X pos keys eJ oB)(cw:keys.all (·.isSome)=true)(hl:keys.length=eJ.length)(h0:keys≠[])
  (h15:keys.length<=15):PE X (.Dict keys eJ pos) (AGv oB):=by
 intro aS s σ H Q I q;have hn:=I.hok.fresh (AF s.heap.objs.size);have I1:=I.laid (a:=s.heap.objs.size) (o:=.dK []) (h':=s.heap.push {cls:=.type "dict",data:=.dict #[]}) (t':=s.toks) (λ_ _ q=>AH _ q) (AF _) (ABv s.heap I.big);refine wpAny_Dict_walk (knd:=CG X.prog X.w) cw hl h0 h15 (thn (h aS _ σ _ _ I1 (q _ hn)) λws s2 ⟨ps,H2,I2,de,e,bb,ep,lk,q2⟩=>?_);subst ep;obtain⟨rs,c,rk⟩:=Kv (P:=X.prog) (w:=X.w) de;obtain⟨z,hd,vs0,r0,dd⟩:=AFX I2.hok e;cases r0;refine⟨rs,c,dd,λh' mm hs=>⟨.ref s.heap.objs.size,_,?_,rfl,q2⟩⟩;have hz:(mergeK [] bb).length<=sizeLine:=by
  have h1:=Hl bb [];rw[IY] at h1;rw[FY];lia
 have he:∃q,h'.get? s.heap.objs.size=uA q:=let ⟨q,_,_,hq,_⟩:=mm;⟨q,hq⟩
 exact KC I2 (by rw[e];exact HZ) hs he (ADP hz hd (rk.merge .nil) mm)
structure M2(X:Cx)(o:Expr)(m:Str)(c8:Pos)(e f:Expr)(b9:Pos):Prop where
 base:N2 o m X.env (eval o X.env)=eval o X.env
 few:((FG b9 (BQ [e,f] X.env)).all (λx=>!x.1)&&(UI b9 (PQ [] X.env)).all (λx=>x.1.isSome)
  && decide (([e,f]:uU).length+([]:List Wp).length+(if([]:List Wp).isEmpty then 0 else 1)<30))=true
 line:(c8.endLine==b9.line)=true
 trees:FG b9 (BQ [e,f] X.env)=[(false,eval e X.env),(false,eval f X.env)]
def IsD(H:Hp)(a:Addr):Prop:=(∃bb,Rd H a (.dK bb))\/∃bb,Rd H a (.dT bb)
theorem AFd(I:Inv X aS σ H s)(d:IsD H a) :
  s.TypeIs (.ref a) "dict"/\(∀b,AV a=.ref b->∃ob,s.heap.get? b=uA ob/\ob.dict=uB)/\(a==EG)=false:=by
 rcases d with⟨bb,e⟩| ⟨bb,e⟩
 .obtain⟨_,hd,vs,_,dd⟩:=PN I.hok e
  refine⟨dd.typeIs,λb q=>?_,hd⟩;cases q;obtain⟨ob,_,_,h1,h2,_⟩:=dd;exact⟨ob,h1,h2.2.1⟩
 .obtain⟨_,hd,xs,_,dd⟩:=Oh I.hok e
  refine⟨dd.typeIs,λb q=>?_,hd⟩;cases q;obtain⟨ob,_,_,h1,h2,_⟩:=dd;exact⟨ob,h1,h2.2.1⟩
section
variable{d:V}{r:As}{o:Option V}
theorem AFi(hu:A.units+1<C0)(I:Inv X aS σ H s)(g:DGet H a y o)(ry:RelV y u)(rd:RelV d r)(h:∀w' s',Inv X aS σ H s'->RelV (o.getD d) w'->Q w' s') :
  wpAny (AM X.prog X.w) A (call (.builtin "dict.get") [.ref a,u,r]) Q E s:=by
 rcases g with⟨bb,k,e,ey,l⟩| ⟨bb,k,b,e,ey,eb,l⟩
 .subst ey
  obtain⟨z,hd,vs,de,dd⟩:=PN I.hok e;refine S5 My dd.typeIs P4 (O6 _ _ _) (meets_dict_get_default (CG X.prog X.w) a (Ob ry) hd r) ⟨_,dd.mapOf,h _ _ (I.tok _) ?_⟩;rw[l];exact(de.val k).getD rd
 .subst ey
  cases ry;obtain⟨z,hd,xs,de,dd⟩:=Oh I.hok e;refine S5 My dd.typeIs P4 (O6 _ _ _) (meetsH_dict_get_default (NN (CG X.prog X.w)) a b hd r) ⟨K6 hu,k,xs,Kg I.hok eb,dd,h _ _ (I.tok _) ?_⟩;rw[l];exact(de.val k).getD rd
end
def AFz(td ty tx:TE):TE:=λσ H Q=>td σ H λx H1=>∃a,x=.ref a/\IsD H1 a/\ty σ H1 λy H2=>tx σ H2 λz H3=>∃o,DGet H3 a y o/\Q (o.getD z) H3
section
variable{o f:Expr}{tx:TE}
theorem AAh(hu:X.A.units+1<C0)(ho:PE X o td)(he:PE X e ty)(hf:PE X f tx)(m:M2 X o "get" c8 e f b9):PE X (.Call (.Attribute o "get" c8) [e,f] [] b9) (AFz td ty tx):=by
 intro aS s σ H Q I h;refine wpAny_Call_method m.base m.few m.line PySem.F.plainAttrs_dict My PySem.F.type_dict_get (thn (ho aS s σ H _ I h) λu s1 ⟨x,H1,I1,rx,a,ex,d,q1⟩=>?_);subst ex;obtain rfl:u=AV a:=rx;obtain⟨t1,t2,_⟩:=AFd I1 d;refine⟨t1,t2,?_⟩;rw[m.trees];refine P0 rfl (MT (FR (thn (he aS s1 σ H1 _ I1 q1) λiv s2 ⟨y,H2,I2,ry,q2⟩ =>
  FR (thn (hf aS s2 σ H2 _ I2 q2) λfv s3 ⟨z,H3,I3,rz,ov,g,q3⟩=>HQ ?_))))
 exact AFi hu I3 g ry rz λw' s4 I4 f8=>⟨_,H3,I4,f8,q3⟩
end
end L2
namespace L2
open PySem PySem.Spec PyProof.Rows
open Sem (wp)
theorem AAX{es:Array NS}(hd:(d==EG)=false)(hT:s.TypeIs (.ref d) "dict")(ho:s.heap.get? d=uA o)(i7:o.data=.dict es ep)
  (hQ:Q (.ref s.heap.objs.size) {s with heap:=s.heap.push {cls:=.type "dict_keyiterator",data:=.fields #[.ref d,.int 0 0,.int es.size 0,.int ep 0]}}) :
  wpAny (AM prog w) A (Qr (.ref d)) Q E s:=by
 refine OA hT UQ (Dx UQ hT F.entry_dict_iter ?_ (F.args_dict_iter_1 _));unfold Builtin.«dict.__iter__»;refine Ap ?_;unfold X3;refine Ap (wpAny_notOrdered_dict hT ?_);refine AC ?_;show wpAny _ _ (QR d >>= _) _ _ s;unfold QR;rw[uD (by rw[hd];exact By)];refine Ap (AC ?_);refine Ap (LV ho i7 ?_);refine Ap (Po ho i7 ?_);refine Ap (C8 (AC ⟨_,rfl, "dict_keyiterator",_,⟨_,AT _ rfl,rfl⟩,Fm.lookup,?_⟩));simpa [EM] using hQ
theorem ACg{es:Array NS}{od:Obj}{Q:Option As->AA->Prop}(df:s.heap.IsKeyIter it d i es.size ep)
  (tz:s.heap.get? d=uA od) (sg:od.data=.dict es ep) (hlt':i<es.size)
  (hQ:∀h',h'.IsKeyIter it d (i+1) es.size ep->EH it s.heap h'->Q (uA es[i].key) {s with heap:=h'}) :
  wpAny (AM prog w) A (IU (.ref it)) Q E s:=by
 obtain⟨o,ho,hc,hd⟩:=id df;unfold IU;refine Ap (KG (wpAny_callSpecial?_slot (name:=F6 "__next__") df.typeIs Fm
  (Dx Fm df.typeIs M7 ?_ (M1 _))))
 refine Ap (AC ?_);refine Ap ?_;refine Ap ?_
 first| refine Ap (G3 df.typeIs (AC ?_))| refine Ap (IB df.typeIs (AC ?_))
 refine Ap (QU ho hd ?_);have hown:NB "dict_keyiterator" = false:=by decide
 show wpAny _ _ (if(AV d==CY)=true then _ else _) _ _ s;rw[uD (show ¬ ((AV d==CY)=true) from By)];refine Ap (AC ?_);refine Ap (LV tz sg ?_);rw[uD (by simp)];refine Ap (AC ?_);refine Ap (Po tz sg ?_);rw[uD (by simp)];refine AC ?_;simp only[show ¬ ((i:Int)<0) from wt,if_false,Cf,Be hlt'];refine Ap ?_
 first| refine Ap (G3 df.typeIs (AC ?_))| refine Ap (IB df.typeIs (AC ?_))
 refine Ap (QY df.typeIs ?_);show wpAny _ _ (Y0 (.ref it) 1 (EM ((i:Int)+1)) >>= _) _ _ s;refine Ap (FU ho hd (by simp) ?_);have iO:(s.heap.update it (G2 (·.setIfInBounds 1 (EM ((i:Int)+1))))).IsKeyIter it d (i+1) es.size ep :=
  ⟨_,Db _ ho (EX (Da hd _)),(J1 ..).trans hc,by rw[Da hd];simp[EM]⟩
 refine Ap (D8 ?_);refine Ap (QY (s:={s with heap:=s.heap.update it (G2 (·.setIfInBounds 1 (EM ((i:Int)+1))))}) iO.typeIs ?_);exact AC (AC ⟨_,rfl,AC (hQ _ iO (D4 ..))⟩)
theorem AAL{es:Array NS}{od:Obj}{Q:Option As->AA->Prop}(hh:A.handled=uB)(df:s.heap.IsKeyIter it d i es.size ep)
  (tz:s.heap.get? d=uA od) (sg:od.data=.dict es ep) (sw:es.size<=i)
  (hQ:∀h',T6 it s.heap h'->Q uB {s with heap:=h'}):wpAny (AM prog w) A (IU (.ref it)) Q E s:=by
 obtain⟨o,ho,hc,hd⟩:=id df;unfold IU;refine Ap (KG (wpAny_callSpecial?_slot (name:=F6 "__next__") df.typeIs Fm
  (Dx Fm df.typeIs M7 ?_ (M1 _))))
 refine Ap (AC ?_);refine Ap ?_;refine Ap ?_
 first| refine Ap (G3 df.typeIs (AC ?_))| refine Ap (IB df.typeIs (AC ?_))
 refine Ap (QU ho hd ?_);have hown:NB "dict_keyiterator" = false:=by decide
 show wpAny _ _ (if(AV d==CY)=true then _ else _) _ _ s;rw[uD (show ¬ ((AV d==CY)=true) from By)];refine Ap (AC ?_);refine Ap (LV tz sg ?_);rw[uD (by simp)];refine Ap (AC ?_);refine Ap (Po tz sg ?_);rw[uD (by simp)];refine AC ?_;simp only[show ¬ ((i:Int)<0) from wt,if_false,Cf,Hk sw];refine Ap ?_
 first| refine Ap (G3 df.typeIs (AC ?_))| refine Ap (IB df.typeIs (AC ?_))
 show wpAny _ _ (Y0 (.ref it) 0 .none >>= _) _ _ s;refine Ap (FU ho hd (by simp) ?_);refine Ap ?_;refine Ap (C8 ?_ (by size_fits));refine Ap (m:=J4 _ _) (L7 (a:=CY) (by first| rfl| (simp only[J4];rfl)) ?_);refine C8 ?_ (by size_fits);refine Ap (R9 ?_);rw[show A.in1.handled=uB from hh];refine Ap (AC (T7 ?_));refine Ap (IC (T:="StopIteration") (b:=true) ⟨_,AT _ rfl,rfl⟩ Q0 ?_);exact AC (hQ _ (((D4 ..).extBut.push _).push _))
end L2
namespace L2
open PySem PySem.Spec PyProof.Rows
section
variable{es:Array NS}
theorem Vu(hh:A.handled=uB)(I:Addr)(gI:d≠I)(hd:o.data=.dict es ep) :
  Walks prog w A I [I,d] [I] es.size (λi v=>∃e,es[i]?=uA e/\v=e.key) (λi h=>h.IsKeyIter I d i es.size ep/\h.get? d=uA o) where
 sub:=λb hb=>by simp at hb;simp[hb]
 frame:=λ_ _ _ st hk=>⟨st.1.at λo e=>hk I (by simp) o e,hk d (by simp) o st.2⟩
 item:=λi s Q E hi st hQ=>by
  refine ACg st.1 st.2 hd hi λh' iO kR=>?_;exact hQ _ h' s.toks ⟨es[i],by simp[hi],rfl⟩ ⟨iO,kR.extBut d o gI st.2⟩ λb o hb e=>kR.extBut b o (λh=>hb (by simp[h])) e
 done:=λs Q E st hQ=>AAL hh st.1 st.2 hd (AF _) λh' he'=>hQ h' s.toks λb o hb e=>he' b o (λh=>hb (by simp[h])) e
 self:=λ_ _ _ _ st hQ=>wpAny_pyIter_keyiter st.1 hQ
theorem AAl(lo:(d==EG)=false)(hx:o.ExactDict)(hd:o.data=.dict es ep) :
  PySem.W.KdlSrc prog w "dict" d d es.size (λi v=>∃e,es[i]?=uA e/\v=e.key) (λh=>h.get? d=uA o) where
 type:=λ_ hm=>⟨o,hm,hx.1⟩
 there:=λ_ hm=>⟨AW hm,AW hm⟩
 keep:=λ_ _ hm hk=>hk d (.inl rfl) o hm
 notList:=by decide
 notTuple:=by decide
 hint:=λ_ _ _ _ hm hq=>PySem.W.kdl_hint_dict ⟨o,hm,hx.1⟩ hq
 iter:=λ_ _ hh hm=>⟨_,_,(λ_ _ hq=>AAX lo ⟨o,hm,hx.1⟩ hm hd hq),Vu hh _ (BH (AW hm)) hd,⟨⟨_,AT _ rfl,rfl,rfl⟩,AH _ hm⟩⟩
end
def KeyL(H:Hp):List (List Key×V)->List V->Prop:=A1 λkv y=>∃b,y=.ref b/\H b=uA (.tup (kv.1.map kV))
theorem YT{H:Hp}:∀{bb:List (List Key×V)}{xs:List (List Key×Addr×As)},KT H bb xs->KeyL H bb (xs.map λx=>.ref x.2.1)
 | _,_,.nil=>.nil
 | _,_,.cons h t=>.cons ⟨_,rfl,h.2.1⟩ (YT t)
theorem Qn(hc:X.calm=true):CallR X (.type "list") (λxs H Q=>∃p bb,xs=[.ref p]/\H p=uA (.dT bb)/\∀l ys,H l=none->KeyL H bb ys->Q (.ref l) (upd H l (.lst ys))):=by
 intro aS s σ H xs us Q I rr h;obtain⟨p,bb,rfl,hp,q⟩:=h;obtain⟨u,rfl,ru⟩:=rr.one;cases ru;obtain⟨z,lo,ts,kt,o,es,ep,h1,h2,h3,h4,h5⟩:=(I.hok p _ hp);have hl:es.size=bb.length:=by
  rw[<- A2,h4,AB];exact(AZ kt).symm
 refine PySem.W.kdl_call (AAl lo h2 h3) (I.ok.hd hc) h1 (by rw[hl];exact z) λh' tk bi c' hk hS bj=>?_;have hn:=I.hok.fresh (AF _);refine⟨.ref s.heap.objs.size,_,I.laid (a:=s.heap.objs.size) (o:=.lst (ts.map λx=>V.ref x.2.1)) (t':=tk) hk (AF _) ⟨?_,bi.toList,c',?_,?_⟩,rfl,q _ _ hn (YT kt)⟩
 .rw[AB,<- AZ kt];exact z
 .refine Jt (by rw[AB];exact(AZ kt).symm.trans (hl.symm.trans (bj.1.symm.trans (A2).symm))) λi x u e1 e2=>?_
  have e2':bi[i]?=uA u:=by simpa using e2
  obtain⟨e,e3,rfl⟩:=bj.2 i u e2';rw[<- BV,h4,AY] at e3;rw[AY] at e1;cases g:ts[i]? with
  | none=>rw[g] at e1;cases e1
  | some t =>
   rw[g] at e1 e3;cases e1;cases e3;rfl
 .simpa using hS
theorem Fj:∀ns:uJ,HT.lexLt ns ns=false
 | []=>rfl
 | x::xs=>by rw[HT.Cd,uE rfl];exact Fj xs
def rAddT(K:Au):R2:=λx y H Q=>∃a b xs ys,x=.ref a/\y=.ref b/\SqT K H a xs/\SqT K H b ys/\xs.length+ys.length<=sizeLine /\
 (xs=[]->Q (.ref b) H)/\(xs≠[]->ys=[]->Q (.ref a) H)/\(xs≠[]->ys≠[]->∀p,H p=none->Q (.ref p) (upd H p (.tup (xs++ys))))
theorem YH:OpR X (Hb .Add) (rAddT X.K):=by
 intro aS s σ H x y v u Q I rx ry h;obtain⟨a,b,xs,ys,rfl,rfl,ha,hb,hz,q0,q1,q2⟩:=h;by_cases e:xs=[]
 .cases rx;cases ry
  obtain⟨bg,r1,p1,_⟩:=I.tuple ha;obtain⟨gX,r2,p2,_⟩:=I.tuple hb;subst e;cases r1;obtain⟨⟨cls,dd,data,sl⟩,ho,hc,n,hd⟩:=id p1;obtain⟨⟨nv,kA,X0,kD⟩,fF,gL,n2,gE⟩:=id p2;simp only at hc hd gL gE;subst hc hd gL gE;exact OT ⟨_,ho,rfl⟩ ⟨_,fF,rfl⟩ OU R8 L6 LI (K5 _ _)
   (tuple_addW0 a b #[] gX.toArray n n2 dd kA sl kD rfl) ⟨ho,fF,⟨.ref b,H,I,rfl,q0 rfl⟩⟩
 .exact AEW aS s σ H _ _ v u Q I rx ry ⟨a,b,xs,ys,rfl,rfl,ha,hb,e,hz,q1 e,q2 e⟩
end L2
namespace L2
open PySem PySem.Spec PyProof.Rows
open AutoSeq1 (wpAny_loadPart')
theorem NQ{Q:List As->AA->Prop}{r:Addr}{a b c:Int}{t u v:Tok}(hh:A.handled=uB)(hr:IsRange s.heap r a b c t u v)(g7:KO a b c=true)
  (hn:Fs a b c=n) (bv:n<=2 ^ 24)
  (hQ:∀h' tk bX,(∀b o,s.heap.get? b=uA o->h'.get? b=uA o)->ItemsOf (λi v=>∃t,v=.int (a+i*c) t) bX n->Q bX.toList {s with heap:=h',toks:=tk}) :
  wpAny (AM prog w) A (QP (.ref r)) Q E s:=by
 unfold QP;refine Ap (Lv (EK NX ?_));rw[Fn NY _];refine Ap (C8 ?_);refine AC ⟨Mc IN _,EK O7 ?_⟩;rw[Fn IN _];have hS:(s.heap.push {cls:=.type "list",data:=.seq ([]:List As).toArray}).get? s.heap.objs.size=uA {cls:=.type "list",data:=.seq #[] 0}:=AT _ rfl;have l7:∀(h':Heap) (tk:Nat) (bi:Array As) (c':Nat),(∀b o,b≠s.heap.objs.size->(s.heap.push {cls:=.type "list",data:=.seq ([]:List As).toArray}).get? b=uA o->h'.get? b=uA o)->h'.get? s.heap.objs.size=uA {cls:=.type "list",dict:=uB,data:=.seq bi c',slots:=#[]} ->
   ItemsOf (λi v=>∃t,v=.int (a+i*c) t) bi n->wpAny (AM prog w) A (match AV s.heap.objs.size with
   | AV a=>do
    match (<- load a).data with
     | Data.seq xs _=>pure xs.toList
     | _=>unsupported "internal:collect"
   | _=>unsupported "internal:collect") Q E {s with heap:=h',toks:=tk}:=λh' tk bi c' hk fi bj=>by
  refine Ap (RA fi ?_);refine AC ?_;exact hQ h' tk bi (λb o e=>hk b o (BH (AW e)) (AH _ e)) bj
 refine C5 (wpAny_extend_range (A:=A) (R:=λr s'=>∃h' tk bi c',r=.ok (.ret (.ref s.heap.objs.size))/\s'={s with heap:=h',toks:=tk}/\(∀b o,b≠s.heap.objs.size->(s.heap.push {cls:=.type "list",data:=.seq ([]:List As).toArray}).get? b=uA o->h'.get? b=uA o)/\h'.get? s.heap.objs.size=uA {cls:=.type "list",dict:=uB,data:=.seq bi c',slots:=#[]}/\ItemsOf (λi v=>∃t,v=.int (a+i*c) t) bi n)
  (s:={s with heap:=s.heap.push {cls:=.type "list",data:=.seq ([]:List As).toArray}}) hh (AH _ hr) g7 hn bv s.heap.objs.size (.ref s.heap.objs.size) 0 hS λh' tk bi c' hk fi bj=>⟨h',tk,bi,c',rfl,rfl,hk,fi,bj⟩) (λfin s' h=>?_) (λe s' h=>?_)
 .cases fin with
  | done f =>
   obtain⟨h',tk,bi,c',e,rfl,hk,fi,bj⟩:=h;cases e;exact l7 h' tk bi c' hk fi bj
  | again c'=>exact⟨h.1,E8 h.2 λr pK hr=>by obtain⟨h',tk,bi,c',rfl,rfl,hk,fi,bj⟩:=hr;exact l7 h' tk bi c' hk fi bj⟩
 .obtain⟨_,_,_,_,e,_⟩:=h
  cases e
theorem meets_tuple_range(r:Addr)(a b c:Int)(t u v:Tok)(n:Nat)(g7:KO a b c=true)(hn:Fs a b c=n)(bv:n<=1000) :
  Meets (Builtin.«tuple.__new__» ⟨[.type "tuple",.ref r],[]⟩)
   (λA R s=>A.handled=uB/\IsRange s.heap r a b c t u v/\∀(h':Heap) (tk:Nat) (bX:Array As),(∀b o',s.heap.get? b=uA o'->h'.get? b=uA o')->ItemsOf (λi v=>∃t,v=.int (a+i*c) t) bX n ->
    R (.ok (.ret (.ref h'.objs.size))) {s with heap:=h'.push {cls:=.type "tuple",data:=.seq bX},toks:=tk}) :=
 .of_wp λprog w A R s h=>by
  obtain⟨hp,g,d,tk,os⟩:=s;obtain⟨hh,ht,h⟩:=h;have nX:=sub_tuple_self;have hinit:=init_tuple_lookup;have hmh:=madeHere_tuple;have hT:W4 ⟨hp,g,d,tk,os⟩ (.ref r) "range":=⟨_,ht,rfl⟩
  wp_walk using wpAny_loadPart' ht,MW hT,NQ (A:=A.in1) hh ht g7 hn (by lia)
  intro h' tk' bX hk bj;show wpAny _ _ (K7 bX.toList.toArray >>= λv=>ret v) _ _ _;unfold K7;refine Ap (C8 ?_ (by show bX.toList.toArray.size<=sizeLine;rw[MX,bj.1];exact small bv));refine AC ⟨_,rfl,?_⟩;have e:bX.toList.toArray=bX:=by simp
  rw[e];exact h h' tk' bX hk bj
theorem Gq(hc:X.calm=true):CallR X (.type "tuple") (λxs H Q=>∃r j,xs=[.ref r]/\H r=uA (.rng 0 j)/\0<=j/\j<=1000/\∀l,H l=none->Q (.ref l) (upd H l (.tup ((below j.toNat).map V.int)))):=by
 intro aS s σ H xs us Q I rr h;obtain⟨r,j,rfl,hr,j0,j1,q⟩:=h;obtain⟨u,rfl,ru⟩:=rr.one;cases ru;obtain⟨t1,t2,t3,e⟩:=I.hok r _ hr;refine SV PySem.F.called_tuple (by decide) (PySem.F.typeCall_tuple_1 _) (PySem.F.newCall_tuple_1 _) (λobj=>PySem.F.args_object_init_2 obj _) PySem.F.entry_tuple_new
  (meets_tuple_range r 0 j 1 t1 t2 t3 j.toNat (WI (by lia) (by lia) (by lia) (by lia)) (by rw[R7];split<;>lia) (wP j1)) ⟨I.ok.hd hc,e,λh' tk bX hk bj=>⟨⟨_,AT _ rfl,rfl⟩,?_⟩⟩
 have I1:Inv X aS σ H {s with heap:=h',toks:=tk}:=I.kept hk;have hn:=I1.hok.fresh (AF _);refine⟨.ref h'.objs.size,_,I1.laid (a:=h'.objs.size) (o:=.tup ((below j.toNat).map V.int)) (t':=tk) (λb o e=>AH _ e) (AF _) ⟨?_,bX.toList,?_,⟨_,AT _ rfl,rfl,0,by simp⟩⟩,rfl,q _ hn⟩
 .rw[AB,AB,A9]
  exact small (wP j1)
 .refine Jt (by simp[bj.1]) λi x u h1 h2=>?_
  have kH:bX[i]?=uA u:=by simpa using h2
  obtain⟨t,rfl⟩:=bj.2 i u kH;have hi:i<j.toNat:=by
   have:=(Cn.mp kH).1;rw[bj.1] at this;exact this
  rw[AY,AY,EF hi] at h1;have ex:=(BO h1).symm;subst ex;exact⟨t,by rw[T4,Sz]⟩
end L2
namespace ST
open PySem PySem.SetTable
theorem Bk:∀{l₁ l₂:uL},l₁.Nodup->(∀x∈l₁,x∈l₂)->l₁.length<=l₂.length
 | [],_,_,_=>A7 _
 | a::t,l₂,nd,hs=>by
  obtain⟨n1,n2⟩:=DE.mp nd;have ha:=hs a AI;have hl:=ID ha;have ih:=Bk (l₂:=l₂.erase a) n2 λx hx=>(Kk (λ(e:x=a)=>n1 (by rw[<- e];exact hx))).mpr (hs x (AL _ hx));have:0<l₂.length:=JS ha;simp;exact w6 ih hl this
end ST
namespace L2
open PySem PySem.Spec PyProof.Rows
theorem Uq{prog:AJ}{w:AQ}:∀{ns:uJ}{us:List As},Vals (ns.map V.int) us->ItemsAre (Lm prog w) ns us
 | [],_,.nil=>.nil
 | n::ns,_,.cons ⟨t,e⟩ r=>by
  subst e;exact .cons (intKind_is prog w n t) (Uq r)
end L2
namespace SI
open PySem PySem.SetTable ST PyProof.Rows
section
variable{es:Array (Int×As)}{t:CU}{ks:uJ}
def Added(ks:uJ)(k:Int)(cK:uJ):Prop:=(k∈ks/\cK=ks)\/(k∉ks/\cK.Perm (k::ks))
end
end SI
namespace RT
open PySem
theorem noMul:fillsNumberSlot (.type "tuple") "mul" = pure false:=fillsNumberSlot_seq (id:="tuple.__mul__") (r:=uA (.builtin "tuple.__rmul__")) JU.lookup (by decide+kernel) O8.lookup (by decide+kernel)
theorem reps:seqRepeat? (.type "tuple")=pure (uA (.builtin "tuple.__mul__")):=by
 unfold seqRepeat?;rw[seqSlot_of (T:="tuple") (name:="__mul__") (id:="tuple.__mul__") JU.lookup (by decide+kernel),seqSlot_of (T:="tuple") (name:="__rmul__") (id:="tuple.__rmul__") O8.lookup (by decide+kernel)];rfl
theorem declines(a:Int)(t:Tok)(l:Addr)(c:Nat)(bg:Array As)(dc:Option Addr)(sl:Array (Option As)) :
  Meets (Builtin.«int.__rmul__» ⟨[.int a t,.ref l],[]⟩) (λ_ R s=>s.heap.get? l=uA {cls:=.type "tuple",dict:=dc,data:=.seq bg c,slots:=sl}/\R (.ok (.ret RH)) s) :=
 .of_wp λP w A R s h=>by
  obtain⟨hp,g,d,tk,os⟩:=s;obtain⟨hl,h⟩:=h
  wp_walk
  exact⟨_,rfl,h⟩
theorem times(l:Addr)(c:Nat)(bg:List As)(dc:Option Addr)(sl:Array (Option As))(k:Int)(t:Tok)(k1:1<k)(k2:k<100)(ne:bg≠[])(small:bg.length<100) :
  Meets (Builtin.«tuple.__mul__» ⟨[.ref l,.int k t],[]⟩) (λ_ R s=>s.heap.get? l=uA {cls:=.type "tuple",dict:=dc,data:=.seq bg.toArray c,slots:=sl} /\
   R (.ok (.ret (.ref s.heap.objs.size))) {s with heap:=s.heap.push {cls:=.type "tuple",data:=.seq (Cb k.toNat bg).flatten.toArray}}) :=
 .of_wp λP w A R s h=>by
  obtain⟨hp,g,d,tk,os⟩:=s;obtain⟨hl,h⟩:=h;have ie:bg.toArray.isEmpty=false:=by cases bg with
   | nil=>exact uI rfl ne
   | cons=>rfl
  have sz:bg.toArray.size=bg.length:=by simp
  have c1:¬ (decide (k < -2 ^ 63)||decide (k >= 2 ^ 63))=true:=by
   rw[uG (by lia),uG (by lia)];exact By
  have c2:¬ (bg.toArray.isEmpty||k==1)=true:=by
   rw[ie,W3];intro z;have:=eq_of_beq z;lia
  have c3:¬ (decide (k<=0)||bg.toArray.isEmpty)=true:=by
   rw[ie,W5,uG (by lia)];exact By
  have le:(bg.toArray.size:Int)*k<=100*100:=Int.mul_le_mul (by lia) (vU k2) (by lia) (by decide);have c4:¬ (bg.toArray.size:Int)*k>(2 ^ 63-1) / 8:=by lia
  have c5:¬ N6 ((bg.toArray.size:Int)*k)=true:=by
   unfold N6;intro z;have:=uH z;have hs:(sizeLine:Nat)=16777216:=rfl;lia
  have fl:Z4 (λx1 x2=>x1++x2) #[] (Cb k.toNat bg.toArray)=(Cb k.toNat bg).flatten.toArray:=by
   have:=L2.foldl_rep bg k.toNat [];rw[Pp] at this;exact this
  have ln:(Cb k.toNat bg).flatten.length<=sizeLine:=by
   rw[L2.len_rep];have:k.toNat*bg.length<=100*100:=WC (yr k2) (vy small);exact BY this (by decide)
  wp_walk
  rw[uD c1];refine Ap (K8 hl rfl ?_);rw[uD c2];rw[uD c3];rw[uD c4];rw[uD c5];unfold K7;rw[fl];refine Ap (C8 (hd:=?_) (AC ⟨_,rfl,h⟩));show(Cb k.toNat bg).flatten.toArray.size<=sizeLine;rw[A8];exact ln
theorem once(l:Addr)(c:Nat)(bg:List As)(dc:Option Addr)(sl:Array (Option As))(t:Tok) :
  Meets (Builtin.«tuple.__mul__» ⟨[.ref l,.int 1 t],[]⟩) (λ_ R s=>s.heap.get? l=uA {cls:=.type "tuple",dict:=dc,data:=.seq bg.toArray c,slots:=sl}/\R (.ok (.ret (.ref l))) s) :=
 .of_wp λP w A R s h=>by
  obtain⟨hp,g,d,tk,os⟩:=s;obtain⟨hl,h⟩:=h
  wp_walk
  exact⟨_,rfl,h⟩
end RT
namespace L2
open PySem
def rRepT:R2:=λx y H Q=>∃l k xs,x=.ref l/\y=.int k/\H l=uA (.tup xs)/\1<=k/\k<100/\xs≠[]/\xs.length<100 /\
 (k=1->Q (.ref l) H)/\(1<k->∀p,H p=none->Q (.ref p) (upd H p (.tup (Cb k.toNat xs).flatten)))
theorem ADm:OpR X (Hb .Mult) rRepT:=by
 intro aS s σ H x y v u Q I rx ry h;obtain⟨l,k,xs,rfl,rfl,hH,h1,h2,ne,sm,q1,q2⟩:=h;cases rx;obtain⟨t,rfl⟩:=ry;obtain⟨z,bg,r,⟨⟨oc,od,odt,io⟩,e,hc,c,hd⟩⟩:=(I.hok l _ hH);subst hc hd;have lr:=r.length;have ne':bg≠[]:=λz=>by rw[z] at lr;exact ne (G4.mp (by simpa using lr))
 refine wpAny_binaryOp_repeat_ref (T:="tuple") (U:="int") (by decide) ⟨_,e,rfl⟩ (λs'=>U6 s' k t) RT.noMul PySem.F.fills_int_mul Q1 RT.reps PySem.F.slot_int_index.lookup
  (MV Q1 (U6 s k t) PySem.F.entry_int_rmul (PySem.F.args_int_rmul_2 _ _) (RT.declines k t l c bg.toArray od io) ⟨e,rfl,⟨_,e,rfl⟩,?_⟩)
 by_cases c1:k=1
 .subst c1
  refine MV JU ⟨_,e,rfl⟩ O9 (OY _ _) (RT.once l c bg od io t) ⟨e,?_⟩;exact⟨.ref l,H,I,rfl,q1 rfl⟩
 .refine MV JU ⟨_,e,rfl⟩ O9 (OY _ _) (RT.times l c bg od io k t (yt h1 c1) h2 ne' (vO sm lr)) ⟨e,?_⟩
  have hf:=I.hok.fresh (AF _);refine⟨.ref s.heap.objs.size,_,I.laid (t':=s.toks) (o:=.tup (Cb k.toNat xs).flatten) (λb u e=>AH _ e) (AF _) ?_,rfl,q2 (yt h1 c1) _ hf⟩;refine⟨?_,(Cb k.toNat bg).flatten,r.rep k.toNat,⟨_,AT _ rfl,rfl,_,rfl⟩⟩;rw[len_rep];have:k.toNat*xs.length<=100*100:=WC (yr h2) (vy sm);exact BY this (by decide)
end L2
namespace NK
open PySem
noncomputable def oIs:Option Int->As->Bool
 | some i,v=>NJ i v
 | none,v=>match v with
  | .none=>true
  | _=>false
noncomputable def oHash:Option Int->Int
 | some i=>hashInt i
 | none=>JE 0xFCA86420
theorem CQ:∀{k:Option Int}{v:As},oIs k v=true->(∃i t,k=uA i/\v=NM i t)\/(k=uB/\v=CY)
 | some i,v,h=>by
  obtain⟨t,e⟩:=G0 (k:=i) (v:=v) h;exact .inl ⟨i,t,rfl,e⟩
 | none,v,h=>by
  cases v<;>first| exact .inr ⟨rfl,rfl⟩| cases h
theorem hash_none{Q:Int->AA->Prop}(h:Q (JE 0xFCA86420) {s with toks:=s.toks+1}):wpAny (AM P w) A (pyHash .none) Q E s :=
 PySem.W.pyHash_slot (T:="NoneType") rfl PySem.F.slot_NoneType_hash PySem.F.entry_NoneType_hash (PySem.F.args_NoneType_hash_1 _) (UR _) (.inl rfl) (Ap (AC (Ap (wpAny_mkInt (AC ⟨_,_,rfl,h⟩)))))
noncomputable def optKind(P:AJ)(w:AQ):KeyKind P w (Option Int) where
 is:=oIs
 hash:=oHash
 inj:=λv a b ha hb=>by
  rcases CQ ha with⟨i,t,rfl,rfl⟩| ⟨rfl,rfl⟩
  .rcases CQ hb with⟨j,u,rfl,e⟩| ⟨rfl,e⟩
   .injection e with e1 _;rw[e1]
   .cases e
  .rcases CQ hb with⟨j,u,rfl,e⟩| ⟨rfl,e⟩
   .cases e
   .rfl
 byValue:=λk v h=>by
  rcases CQ h with⟨i,t,rfl,rfl⟩| ⟨rfl,rfl⟩<;>rfl
 pyHash:=λhv h=>by
  rcases CQ hv with⟨i,t,rfl,rfl⟩| ⟨rfl,rfl⟩
  .exact UC h
  .exact hash_none h
 eqBool:=λhu hv h=>by
  rcases CQ hu with⟨i,t,rfl,rfl⟩| ⟨rfl,rfl⟩
  .rcases CQ hv with⟨j,u,rfl,rfl⟩| ⟨rfl,rfl⟩
   .have e:decide ((uA i:Option Int)=uA j)=(i==j):=by
     by_cases c:i=j
     .subst c;simp
     .rw[uG (λz=>c (BO z))]
      exact(beq_eq_false_iff_ne.mpr c).symm
    rw[e] at h;exact UD h
   .exact Si i t _ _ _ _ h
  .rcases CQ hv with⟨j,u,rfl,rfl⟩| ⟨rfl,rfl⟩
   .exact Sf j u _ _ _ _ h
   .exact Pl .none _ _ _ _ h
 «strs»:=λk x t v h=>by
  rcases CQ h with⟨i,u,rfl,e⟩| ⟨rfl,e⟩
  .cases e
  .cases e
end NK
namespace L2
open PySem
noncomputable def oV:Option Int->V
 | some i=>.int i
 | none=>.non
theorem AHJ{k:Option Int}(r:RelV (oV k) u):(NK.optKind P w).is k u=true:=by
 cases k with
 | some i =>
  obtain⟨t,rfl⟩:=r;show NJ i (.int i t)=true;simp[NJ]
 | none =>
  cases r;rfl
end L2
namespace NK
open PySem
inductive Sh
 | o
 | T (r:Sh)
 | N
 | C (a r:Sh)
 | S (a:Sh)
def El:Sh->Type
 | .o=>Option Int
 | .T r=>El r
 | .N=>Unit
 | .C a r=>El a×El r
 | .S a=>List (El a)
noncomputable instance elDec (h:Sh):DecidableEq (El h):=λ_ _=>LJ _
def IsE(g:Heap):(h:Sh)->El h->List As->Prop
 | .o,k,vs=>∃v,vs=[v]/\oIs k v=true
 | .T r,k,vs=>∃x ob bg c,vs=[.ref x]/\g.get? x=uA ob/\ob.cls=.type "tuple"/\ob.data=.seq bg c/\IsE g r k bg.toList
 | .N,_,vs=>vs=[]
 | .C a r,k,vs=>∃v us,vs=v::us/\IsE g a k.1 [v]/\IsE g r k.2 us
 | .S a,k,vs=>A1 (λk v=>IsE g a k [v]) k vs
noncomputable def dep:Sh->Nat
 | .o=>0
 | .T r=>dep r+1
 | .N=>0
 | .C a r=>max (dep a) (dep r)
 | .S a=>dep a
noncomputable def hsE:(h:Sh)->El h->uJ
 | .o,k=>[oHash k]
 | .T r,k=>[JE (DS (hsE r k))]
 | .N,_=>[]
 | .C a r,k=>hsE a k.1++hsE r k.2
 | .S a,k=>(show List (El a) from k).flatMap (hsE a)
noncomputable def drE:(h:Sh)->El h->Nat
 | .o,_=>1
 | .T r,k=>drE r k+1
 | .N,_=>0
 | .C a r,k=>drE a k.1+drE r k.2
 | .S a,k=>((show List (El a) from k).map (drE a)).sum
theorem IsE.keep{g:Heap}{y:Addr}{es ep}(e:g.get? y=uA ob)(d:ob.data=.dict es ep)(sb:EH y g g'):∀(h:Sh) (k:El h) (vs:List As),IsE g h k vs->IsE g' h k vs
 | .o,_,_,w=>w
 | .T r,k,vs,⟨x,o1,bg,c,e0,e1,c1,d1,w⟩=>⟨x,o1,bg,c,e0,(sb.2 x λz=>by rw[z,e] at e1;cases e1;rw[d] at d1;cases d1).trans e1,c1,d1,IsE.keep e d sb r k _ w⟩
 | .N,_,_,w=>w
 | .C a r,k,vs,⟨v,us,e0,w1,w2⟩=>⟨v,us,e0,IsE.keep e d sb a _ _ w1,IsE.keep e d sb r _ _ w2⟩
 | .S a,k,vs,w=>L2.Paired.imp (λk v=>IsE.keep e d sb a k [v]) w
theorem Lw{α β:Type}{F:α->β->Prop}(h:∀a b c,F a c->F b c->a=b):∀{l₁ l₂:List α}{l:List β},A1 F l₁ l->A1 F l₂ l->l₁=l₂
 | _,_,_,.nil,.nil=>rfl
 | _,_,_,.cons a b,.cons c d=>by rw[h _ _ _ a c,Lw h b d]
theorem IsE.inj{g:Heap}:∀(h:Sh) (k k':El h) (vs:List As),IsE g h k vs->IsE g h k' vs->k=k'
 | .o,k,k',vs,⟨v,e,w⟩,⟨v',e',w'⟩=>by
  rw[e] at e';injection e' with e' _
  subst e';rcases CQ w with⟨i,t,rfl,rfl⟩| ⟨rfl,rfl⟩<;>rcases CQ w' with⟨j,u,rfl,e⟩| ⟨rfl,e⟩
  .injection e with e _;rw[e]
  .cases e
  .cases e
  .rfl
 | .T r,k,k',vs,⟨x,ob,bg,c,e0,e1,_,d1,w⟩,⟨x',ob',its',c',e0',e1',_,d1',w'⟩=>by
  rw[e0] at e0';injection e0' with e0' _
  injection e0' with e0'
  subst e0';rw[e1] at e1';cases e1';rw[d1] at d1';injection d1' with d1' _
  subst d1';exact IsE.inj r k k' _ w w'
 | .N,_,_,_,_,_=>rfl
 | .C a r,k,k',vs,⟨v,us,e0,w1,w2⟩,⟨v',us',e0',w1',w2'⟩=>by
  rw[e0] at e0';injection e0' with e1 e2
  subst e1;subst e2;exact NC (IsE.inj a _ _ _ w1 w1') (IsE.inj r _ _ _ w2 w2')
 | .S a,k,k',vs,w,w'=>Lw (λx y v=>IsE.inj a x y [v]) w w'
def PHs(P:AJ)(w:AQ)(n:Nat)(g:Heap)(v:As)(hd:Int×Nat):Prop:=∀(A:BB) (E:As->AA->Prop) (s:AA) (R:Int->AA->Prop),s.heap=g->A.units+n<C0->R hd.1 {s with toks:=s.toks+hd.2}->wpAny (AM P w) A (pyHash v) R E s
theorem PHs.mono{g:Heap}{v:As}{hd:Int×Nat}(h:PHs P w n g v hd)(l:n<=m):PHs P w m g v hd:=λA E s R e u r=>h A E s R e (ym u l) r
theorem ABi{g:Heap}{x:Addr}{bg:Array As}{c:Nat}(e:g.get? x=uA ob)(hc:ob.cls=.type "tuple")(d:ob.data=.seq bg c){hd:List (Int×Nat)}(r:A1 (PHs P w n g) bg.toList hd):PHs P w (n+1) g (.ref x) (JE (DS (hd.map (·.1))),(hd.map (·.2)).sum+1):=by
 intro A E s R eg hu q;subst eg;have ty:s.TypeIs (.ref x) "tuple":=⟨ob,e,hc⟩;unfold pyHash
 first| unfold pyHashByItsType| skip
 first| refine Ap (wpAny_cRoomFor_or (.inr (u5 hu)) ?_)| skip
 refine Ap (JA ty IP.lookup ?_);rw[uD (by rw[UR];exact By)];refine Ap (JA ty IP.lookup ?_);refine Ap (wpAny_callSpecialIfBoundUnlessNone?_slot ty IP (Dx IP ty PySem.F.entry_tuple_hash ?_ (PySem.F.args_tuple_hash_1 _)));show wpAny _ _ (W6 (.ref x) >>= _) _ _ _;refine Ap (K8 e d (Ap ?_));rw[<- K9];refine Hc _ (λrest (z:Array Int) s'=>∃l1 l2,hd=l1++l2/\A1 (PHs P w n s.heap) rest l2/\z.toList=l1.map (·.1)/\s'={s with toks:=s.toks+(l1.map (·.2)).sum}) _ ?_ ?_ _ _ ⟨[],hd,rfl,r,rfl,rfl⟩
 .rintro y rest z s' ⟨l1,l2,e1,pr,ez,rfl⟩
  cases pr with
  | @cons _ p _ l2' h1 pr =>
   refine Ap (h1 _ _ _ _ rfl (by show A.units+1+n<C0;exact vA hu) ?_);have done:∃m1 m2,hd=m1++m2/\A1 (PHs P w n s.heap) rest m2/\(z.push p.1).toList=m1.map (·.1)/\({s with toks:=s.toks+(l1.map (·.2)).sum+p.2}:AA)={s with toks:=s.toks+(m1.map (·.2)).sum}:=by
    refine⟨l1++[p],l2',by rw[e1,B9];rfl,pr,by rw[HR,ez,BE];rfl,?_⟩
    congr 1
    rw[BE,Ps];show _=s.toks+(_+(p.2+0));lia
   first
    | exact AC done
    | exact Ap (AC (AC done))
 .rintro z s' ⟨l1,l2,e1,pr,ez,rfl⟩
  cases pr;rw[B3] at e1;subst e1;have ez':z=(hd.map (·.1)).toArray:=by rw[<- ez,MX]
  subst ez';show wpAny _ _ (retInt (DS (hd.map (·.1)).toArray.toList)) _ _ _;rw[List.toList_toArray];refine VC ?_;unfold JE at q;generalize DS (hd.map (·.1))=hv at q;show wpAny _ _ (if(decide (-(2:Int) ^ 63<=hv)&&decide (hv<2 ^ 63))=true then _ else _) _ _ _;by_cases c0:(decide (-(2:Int) ^ 63<=hv)&&decide (hv<2 ^ 63))=true
  .rw[uE c0] at q ⊢
   exact AC q
  .rw[uD c0] at q ⊢
   exact Ap (F7 (AC q))
theorem Eh{α β:Type}{F:α->β->Prop}:∀{a b:List α}{c d:List β},A1 F a c->A1 F b d->A1 F (a++b) (c++d)
 | _,_,_,_,.nil,h=>h
 | _,_,_,_,.cons x y,h=>.cons x (Eh y h)
theorem uo{g:Heap}:∀(h:Sh) (k:El h) (vs:List As),IsE g h k vs->∃hd,A1 (PHs P w (dep h) g) vs hd/\hd.map (·.1)=hsE h k/\(hd.map (·.2)).sum=drE h k
 | .o,k,vs,⟨v,e,z⟩=>by
  subst e;exact⟨[(oHash k,1)],.cons (λA E s R eg hu q=>(optKind P w).pyHash z q) .nil,rfl,rfl⟩
 | .T r,k,vs,⟨x,ob,bg,c,e0,e1,c1,d1,z⟩=>by
  subst e0;obtain⟨hd,h1,h2,h3⟩:=uo r k _ z;exact⟨[_],.cons (ABi e1 c1 d1 h1) .nil,by show [JE (DS (hd.map (·.1)))]=[JE (DS (hsE r k))];rw[h2],by show((hd.map (·.2)).sum+1)+0=drE r k+1;rw[h3]⟩
 | .N,k,vs,z=>by
  subst z;exact⟨[],.nil,rfl,rfl⟩
 | .C a r,k,vs,⟨v,us,e0,w1,w2⟩=>by
  subst e0;obtain⟨d1,p1,q1,r1⟩:=uo a k.1 _ w1;obtain⟨d2,p2,q2,r2⟩:=uo r k.2 _ w2;refine⟨d1++d2,Eh (a:=[v]) (L2.Paired.imp (λ_ _ h=>h.mono (Pt ..)) p1) (L2.Paired.imp (λ_ _ h=>h.mono (OZ ..)) p2),by rw[BE,q1,q2];rfl,by rw[BE,Ps,r1,r2];rfl⟩
 | .S a,k,vs,z=>by
  change A1 _ k vs at z;show ∃hd,_/\_=k.flatMap (hsE a)/\_=(k.map (drE a)).sum;generalize (show List (El a) from k)=ks at z ⊢
  induction z with
  | nil=>exact⟨[],.nil,rfl,rfl⟩
  | @cons k0 v ks vs h t ih =>
   obtain⟨d1,p1,q1,r1⟩:=uo a k0 _ h;obtain⟨d2,p2,q2,r2⟩:=ih;exact⟨d1++d2,Eh (a:=[v]) p1 p2,by rw[BE,q1,q2,List.flatMap_cons],by rw[BE,Ps,r1,r2,BU,List.sum_cons]⟩
def PEq(P:AJ)(w:AQ)(n:Nat)(g:Heap)(uv:As×As)(b:Bool):Prop:=∀(A:BB) (E:As->AA->Prop) (s:AA) (R:uN),s.heap=g->A.units+n<C0->R b s->wpAny (AM P w) A (eqBool uv.1 uv.2) R E s
theorem PEq.mono{g:Heap}{v:As×As}{b:Bool}(h:PEq P w n g v b)(l:n<=m):PEq P w m g v b:=λA E s R e u r=>h A E s R e (ym u l) r
theorem AEO{x y:Addr}{i1 i2:Array As}(hu:A.units+n<C0)(e1:s.heap.get? x=uA o1)(k1:o1.cls=.type "tuple")(d1:o1.data=.seq i1 c1)(e2:s.heap.get? y=uA o2)(k2:o2.cls=.type "tuple")(d2:o2.data=.seq i2 c2){bs:List Bool}(r:A1 (PEq P w n s.heap) (i1.toList.zip i2.toList) bs)
  {R:Fin->AA->Prop} (q:R (.done (.ret (.bool (bs.all id&&(i1.size==i2.size))))) s):wpAny (AM P w) A (Builtin.«tuple.__eq__» ⟨[.ref x,.ref y],[]⟩) R E s:=by
 have ty:s.TypeIs (.ref y) "tuple":=⟨o2,e2,k2⟩;show wpAny _ _ (VA (.ref y) (.type "tuple") >>= _) _ _ _;refine Ap (IC ty Q2 ?_);simp only[N7,Ct,if_false];refine Ap (K8 e1 d1 (Ap (K8 e2 d2 (Ap ?_))));refine Hc _ (λrest z s'=>z.1=uB/\s'=s/\∃b2,A1 (PEq P w n s.heap) rest b2/\bs.all id=b2.all id) _ ?_ ?_ _ _ ⟨rfl,rfl,bs,r,rfl⟩
 .rintro⟨u,v⟩ rest z s' ⟨hz,rfl,b2,pr,eb⟩
  cases pr with
  | @cons _ b _ b2' h1 pr =>
   refine Ap (h1 _ _ _ _ rfl hu ?_);cases b with
   | true =>
    exact AC ⟨rfl,rfl,b2',pr,eb⟩
   | false =>
    rw[eb] at q;exact Ap (AC (AC (AC q)))
 .rintro⟨z1,z2⟩ s' ⟨hz,rfl,b2,pr,eb⟩
  cases pr;subst hz;refine AC ?_;rw[eb] at q;exact q
theorem AFy{g:Heap}{x y:Addr}{i1 i2:Array As}(e1:g.get? x=uA o1)(k1:o1.cls=.type "tuple")(d1:o1.data=.seq i1 c1)(e2:g.get? y=uA o2)(k2:o2.cls=.type "tuple")(d2:o2.data=.seq i2 c2){bs:List Bool}(r:A1 (PEq P w n g) (i1.toList.zip i2.toList) bs){b:Bool}(eb:(bs.all id&&(i1.size==i2.size))=b)(sm:x=y->b=true):PEq P w (n+1) g (.ref x,.ref y) b:=by
 intro A E s R eg hu q;subst eg;have ty:s.TypeIs (.ref x) "tuple":=⟨o1,e1,k1⟩;have ty2:s.TypeIs (.ref y) "tuple":=⟨o2,e2,k2⟩;unfold eqBool
 try with_reducible refine D8 ?_
 by_cases c:(AV x==AV y)=true
 .rw[uE c]
  have qY:x=y:=by have z:=eq_of_beq c;injection z
  rw[sm qY] at q;exact Ap (F7 (AC q))
 .rw[uD c]
  refine Ap (wpAny_richCompare_same_room (op:=.Eq) ty ty2 MA (Dx MA ty PySem.F.entry_tuple_eq (AEO ?_ e1 k1 d1 e2 k2 d2 r ⟨_,rfl,(λe=>nomatch e),G1 (by rw[eb];exact q)⟩) (PySem.F.args_tuple_eq_2 _ _)) (u5 hu));show A.units+1+n<C0;exact vA hu
theorem IsE.eq{g:Heap}:∀(h:Sh) (k k':El h) (us vs:List As),IsE g h k us->IsE g h k' vs->∃bs,A1 (PEq P w (dep h) g) (us.zip vs) bs/\((bs.all id&&(us.length==vs.length))=true↔k=k')
 | .o,k,k',us,vs,⟨v,e,z⟩,⟨v',e',z'⟩=>by
  subst e;subst e';change Option Int at k;change Option Int at k';exact⟨[decide (k=k')],.cons (λA E s R eg hu q=>(optKind P w).eqBool z z' q) .nil,by simp;exact Z3⟩
 | .T r,k,k',us,vs,⟨x,o1,i1,c1,e0,e1,t1,d1,z⟩,⟨x',o2,i2,c2,e0',e2,t2,d2,z'⟩=>by
  subst e0;subst e0';obtain⟨bs,p,q⟩:=IsE.eq r k k' _ _ z z';rw[A2,A2] at q;refine⟨[bs.all id&&(i1.size==i2.size)],.cons (AFy e1 t1 d1 e2 t2 d2 p rfl λqY=>q.mpr ?_) .nil,?_⟩
  .subst qY
   rw[e1] at e2;cases e2;rw[d1] at d2;injection d2 with d2 _
   subst d2;exact IsE.inj r k k' _ z z'
  .rw[show([bs.all id&&(i1.size==i2.size)].all id&&(DI [AV x]==DI [AV x']))=(bs.all id&&(i1.size==i2.size)) by simp]
   exact q
 | .N,k,k',us,vs,z,z'=>by
  subst z;subst z';exact⟨[],.nil,λ_=>rfl,λ_=>rfl⟩
 | .C a r,k,k',us,vs,⟨v,us0,e0,w1,w2⟩,⟨v',us',e0',w1',w2'⟩=>by
  subst e0;subst e0';obtain⟨b1,p1,q1⟩:=IsE.eq a k.1 k'.1 _ _ w1 w1';obtain⟨b2,p2,q2⟩:=IsE.eq r k.2 k'.2 _ _ w2 w2';refine⟨b1++b2,Eh (a:=[(v,v')]) (L2.Paired.imp (λ_ _ h=>h.mono (Pt ..)) p1) (L2.Paired.imp (λ_ _ h=>h.mono (OZ ..)) p2),?_⟩;have q1':b1.all id=true↔k.1=k'.1:=by rw[<- q1];simp
  rw[VE,WE,show(DI (v::us0)==DI (v'::us'))=(us0.length==us'.length) by simp,EB,q2,q1'];exact⟨λ⟨h1,h2⟩=>NC h1 h2,λh=>by rw[h];exact⟨rfl,rfl⟩⟩
 | .S a,k,k',us,vs,z,z'=>by
  induction z generalizing k' vs with
  | nil =>
   cases z' with
   | nil=>exact⟨[],.nil,λ_=>rfl,λ_=>rfl⟩
   | cons h t=>exact⟨[],.nil,by simp⟩
  | @cons k0 v ks us h t ih =>
   cases z' with
   | nil=>exact⟨[],.nil,by simp⟩
   | @cons k1 v' cK vs h' t' =>
    obtain⟨b1,p1,q1⟩:=IsE.eq a k0 k1 _ _ h h';obtain⟨b2,p2,q2⟩:=ih _ _ t';refine⟨b1++b2,Eh (a:=[(v,v')]) p1 p2,?_⟩;have q1':b1.all id=true↔k0=k1:=by rw[<- q1];simp
    rw[VE,WE,show(DI (v::us)==DI (v'::vs))=(us.length==vs.length) by simp,EB,q2,q1'];exact⟨λ⟨h1,h2⟩=>show(k0::ks:List (El a))=k1::cK by rw[h1,h2],λh=>by injection h with h1 h2;exact⟨h1,h2⟩⟩
def PQu(P:AJ)(w:AQ)(m:Nat)(g:Heap)(v:As):Prop:=∀(n:Nat) (A:BB) (E:As->AA->Prop) (s:AA) (R:uN),s.heap=g->R true s->wpAny (AM P w) A (eqIsQuiet (n+m) v) R E s
theorem PQu.mono{g:Heap}{v:As}(h:PQu P w n g v)(l:n<=m):PQu P w m g v:=λk A E s R e r=>by
 have:=h (k+(m-n)) A E s R e r;rw[show k+(m-n)+n=k+m by lia] at this;exact this
theorem AAT{g:Heap}{x:Addr}{bg:Array As}{c:Nat}(e:g.get? x=uA ob)(hc:ob.cls=.type "tuple")(d:ob.data=.seq bg c)(al:∀v∈bg.toList,PQu P w m g v):PQu P w (m+1) g (.ref x):=by
 intro n A E s R eg r;subst eg;have ty:s.TypeIs (.ref x) "tuple":=⟨ob,e,hc⟩;unfold eqIsQuiet;refine Ap (JA ty MA.lookup ?_);refine Ap (IC ty Q2 ?_);simp only[N7,Ct,if_false];refine Ap (Fk e d (Ap ?_));rw[<- K9];refine Hc _ (λrest z s'=>z.1=uB/\s'=s/\∀v∈rest,PQu P w m s.heap v) _ (λv rest z s' ⟨hz,es,al⟩=>?_) (λz s' ⟨hz,es,_⟩=>?_) _ _ ⟨rfl,rfl,al⟩
 .subst es
  refine Ap (al v AI n _ _ _ _ rfl ?_);exact AC ⟨rfl,rfl,λu h=>al u (AL _ h)⟩
 .subst es
  obtain⟨z1,z2⟩:=z;subst hz;exact AC r
theorem IsE.quiet{g:Heap}:∀(h:Sh) (k:El h) (vs:List As),IsE g h k vs->∀v∈vs,PQu P w (dep h) g v
 | .o,k,vs,⟨v,e,z⟩=>by
  subst e;intro u hu;rw[Bi.mp hu];intro n A E s R eg r;rw[eqIsQuiet_byValue _ ((optKind P w).byValue _ _ z)];exact AC r
 | .T r,k,vs,⟨x,ob,bg,c,e0,e1,c1,d1,z⟩=>by
  subst e0;intro u hu;rw[Bi.mp hu];exact AAT e1 c1 d1 (IsE.quiet r k _ z)
 | .N,k,vs,z=>by
  subst z;intro u hu;cases hu
 | .C a r,k,vs,⟨v,us,e0,w1,w2⟩=>by
  subst e0;intro u hu;rcases AS.mp hu with rfl| hu
  .exact(IsE.quiet a k.1 _ w1 _ (Bi.mpr rfl)).mono (Pt ..)
  .exact(IsE.quiet r k.2 _ w2 _ hu).mono (OZ ..)
 | .S a,k,vs,z=>by
  change A1 _ (show List (El a) from k) vs at z;generalize (show List (El a) from k)=ks at z
  induction z with
  | nil=>intro u hu;cases hu
  | @cons k0 v ks vs h t ih =>
   intro u hu;rcases AS.mp hu with rfl| hu
   .exact IsE.quiet a k0 _ h _ (Bi.mpr rfl)
   .exact ih u hu
noncomputable def shKind(P:AJ)(w:AQ)(r:Sh)(d7:dep r<=7):HeapKind P w (El (.T r)) where
 is:=λg k x=>IsE g (.T r) k [.ref x]
 hash:=λk=>JE (DS (hsE r k))
 draws:=λk=>drE r k+1
 room:=λA=>A.units+(dep r+1)<C0
 inj:=λa b=>IsE.inj _ _ _ _ a b
 keeps:=λa b c d=>IsE.keep b c d _ _ _ a
 pyHash:=λ{A E s k a Q} hu h q=>by
  obtain⟨hd,p,h1,h2⟩:=uo (P:=P) (w:=w) _ _ _ h;cases p with
  | @cons _ x _ _ p t =>
   cases t;refine p _ _ _ _ rfl hu ?_;injection h1 with h1 _
   have kH:x.2+0=drE r k+1:=h2;have h1':x.1=JE (DS (hsE r k)):=h1;rw[h1',show x.2=drE r k+1 from xq kH];exact q
 eqBool:=λ{A E s x y a b Q} hu h h' q=>by
  obtain⟨bs,p,e⟩:=IsE.eq (P:=P) (w:=w) _ _ _ _ _ h h';cases p with
  | @cons _ c _ _ p t =>
   cases t;refine p _ _ _ _ rfl hu ?_;have:c=decide (x=y):=by rw[DV,decide_eq_true_iff,<- e];simp
   rw[this];exact q
 quiet:=λ{A E s k a Q} h q=>by
  have:=(IsE.quiet (P:=P) (w:=w) _ _ _ h _ (Bi.mpr rfl)).mono (show dep (.T r)<=8 from OV d7);exact this 0 _ _ _ _ rfl q
end NK
namespace L2
open PySem
def AtE(K:Au)(H:Hp):(h:NK.Sh)->NK.El h->List V->Prop
 | .o,k,vs=>vs=[oV k]
 | .T r,k,vs=>∃b xs,vs=[.ref b]/\SqT K H b xs/\AtE K H r k xs
 | .N,_,vs=>vs=[]
 | .C a r,k,vs=>∃v us,vs=v::us/\AtE K H a k.1 [v]/\AtE K H r k.2 us
 | .S a,k,vs=>A1 (λk v=>AtE K H a k [v]) k vs
theorem AtE.ts(t:TSm H H'):∀(h:NK.Sh) (k:NK.El h) (vs:List V),AtE K H h k vs->AtE K H' h k vs
 | .o,_,_,z=>z
 | .T r,k,_,⟨b,xs,e,s,z⟩=>⟨b,xs,e,t.seq s,AtE.ts t r k xs z⟩
 | .N,_,_,z=>z
 | .C a r,k,_,⟨v,us,e,z1,z2⟩=>⟨v,us,e,AtE.ts t a _ _ z1,AtE.ts t r _ _ z2⟩
 | .S a,k,vs,z=>Paired.imp (λk v=>AtE.ts t a k [v]) z
theorem AtE.is(I:Inv X aS σ H s):∀(h:NK.Sh) (k:NK.El h) (vs:List V) (us:List As),AtE X.K H h k vs->Vals vs us->NK.IsE s.heap h k us
 | .o,k,_,us,z,r=>by
  subst z;cases r with
  | cons r1 r=>cases r;exact⟨_,rfl,AHJ (P:=X.prog) (w:=X.w) r1⟩
 | .T q,k,_,us,⟨b,xs,e,sq,z⟩,r=>by
  subst e;obtain⟨bg,ri,⟨o,h1,h2,n,h3⟩,_⟩:=I.tuple sq;cases r with
  | cons r1 r =>
   cases r;cases r1;exact⟨b,o,bg.toArray,n,rfl,h1,h2,h3,by simpa using AtE.is I q k xs bg z ri⟩
 | .N,k,_,us,z,r=>by
  subst z;cases r;rfl
 | .C a q,k,_,us,⟨v,vs,e,z1,z2⟩,r=>by
  subst e;cases r with
  | cons r1 r=>exact⟨_,_,rfl,AtE.is I a _ [v] _ z1 (.cons r1 .nil),AtE.is I q _ _ _ z2 r⟩
 | .S a,k,vs,us,z,r=>by
  change A1 _ k vs at z;show A1 (λk v=>NK.IsE s.heap a k [v]) k us;generalize (show List (NK.El a) from k)=ks at z ⊢
  induction z generalizing us with
  | nil=>cases r;exact .nil
  | @cons k0 v ks vs h t ih =>
   cases r with
   | cons r1 r=>exact .cons (AtE.is I a k0 [v] _ h (.cons r1 .nil)) (ih _ r)
noncomputable abbrev shS:NK.Sh:=.T (.C (.T (.S .o)) (.C (.T (.S .o)) (.C (.T (.S (.T (.S .o)))) .N)))
noncomputable abbrev shR:NK.Sh:=.C .o (.C shS .N)
abbrev YKey:=NK.El (.T shR)
noncomputable abbrev yK(P:AJ)(w:AQ):HeapKind P w YKey:=NK.shKind P w shR (by decide)
noncomputable def dY(P:AJ)(w:AQ)(a:Addr)(xs:List (YKey×Addr×As)):HO:=.ext λg=>∃o es ep,g.get? a=uA o/\o.ExactDict/\o.data=.dict es ep/\es.toList=xs.map (entryOfKey (yK P w))/\(xs.map (·.1)).Nodup
def YAt(K:Au)(H:Hp)(p:YKey)(x:Addr):Prop:=AtE K H (.T shR) p [.ref x]
theorem YAt.ts{p:YKey}{x:Addr}(h:YAt K H p x)(t:TSm H H'):YAt K H' p x:=AtE.ts t _ _ _ h
abbrev KY(K:Au)(H:Hp):List (YKey×V)->List (YKey×Addr×As)->Prop:=A1 λp q=>p.1=q.1/\YAt K H p.1 q.2.1/\RelV p.2 q.2.2
def DY(K:Au)(P:AJ)(w:AQ)(H:Hp)(a:Addr)(bb:List (YKey×V)):Prop:=bb.length<=sizeLine/\(a==EG)=false/\∃xs,H a=uA (dY P w a xs)/\KY K H bb xs
theorem DY.keep{bb:List (YKey×V)}(h:DY K P w H a bb)(e:∀o,H a=uA o->H' a=uA o)(t:TSm H H'):DY K P w H' a bb:=by
 obtain⟨z,y,xs,e1,r⟩:=h;exact⟨z,y,xs,e _ e1,Paired.imp (λ_ _ q=>⟨q.1,q.2.1.ts t,q.2.2⟩) r⟩
theorem KY.val{bb:List (YKey×V)}{xs:List (YKey×Addr×As)}(r:KY K H bb xs)(k:YKey):RelO (valV bb k) ((Jn xs k).map (·.2)):=by
 induction r with
 | nil=>exact HZ
 | @cons p q ps qs h t ih =>
  by_cases e:p.1=k
  .have b:Jn (q::qs) k=uA q.2:=by simp[Jn,F8,h.1.symm.trans e]
   rw[CT e,b];exact h.2.2
  .have b:Jn (q::qs) k=Jn qs k:=by simp[Jn,F8,show ¬ q.1=k from λz=>e (h.1.trans z)]
   rw[CV e,b];exact ih
theorem KY.put{bb:List (YKey×V)}{xs:List (YKey×Addr×As)}(r:KY K H bb xs){k:YKey}(hb:YAt K H k b)(ry:RelV y u)(new:valV bb k=uB):KY K H (putK bb k y) (Ts xs k b u):=by
 have e:Jn xs k=uB:=by
  have z:=(r.val k).isSome_eq;rw[new,LU] at z;cases g:Jn xs k with
  | none=>rfl
  | some q=>rw[g] at z;cases z
 rw[JG y new,storedH_new e];exact T8 r ⟨rfl,hb,ry⟩
theorem Ig{p:YKey}{x:Addr}(I:Inv X aS σ H s)(e:YAt X.K H p x):(yK X.prog X.w).is s.heap p x:=AtE.is I _ _ _ _ e (.cons rfl .nil)
theorem XQ{bb:List (YKey×V)}(I:Inv X aS σ H s)(d:DY X.K X.prog X.w H a bb):bb.length<=sizeLine/\(a==EG)=false/\∃xs,H a=uA (dY X.prog X.w a xs)/\KY X.K H bb xs/\s.heap.DictOfH (yK X.prog X.w) a xs:=by
 obtain⟨z,y,xs,e,r⟩:=d;obtain⟨⟨o,es,ep,h1,h2,h3,h4,h5⟩,_⟩:=(I.hok a _ e);refine⟨z,y,xs,e,r,o,es,ep,h1,h2,h3,h4,λx hx=>?_,h5⟩;obtain⟨i,hi⟩:=FV.mp hx;obtain⟨p,_,e1,e2,_⟩:=Paired.get r hi;rw[<- e1];exact Ig I e2
theorem ABL{xs:List (YKey×Addr×As)}(d:h.DictOfH (yK P w) a xs):ObjOk P w H' h a (dY P w a xs):=by
 obtain⟨o,es,ep,h1,h2,h3,h4,_,h5⟩:=d;refine⟨⟨o,es,ep,h1,h2,h3,h4,h5⟩,⟨o,h1⟩,λg1 g2 ⟨o',cE,l8,z1,z2⟩ st=>⟨o',cE,l8,st _ z1,z2⟩⟩
def YGet(K:Au)(P:AJ)(w:AQ)(H:Hp)(a:Addr)(y:V)(r:Option V):Prop:=∃bb p x,DY K P w H a bb/\y=.ref x/\YAt K H p x/\valV bb p=r
theorem AGC{r:Option V}(I:Inv X aS σ H s)(g:YGet X.K X.prog X.w H a y r):s.TypeIs (.ref a) "dict":=by
 obtain⟨bb,p,x,d,_⟩:=g;obtain⟨_,_,xs,_,_,dd⟩:=XQ I d;exact dd.typeIs
theorem Zx(hu:A.units+5<C0)(I:Inv X aS σ H s)(g:YGet X.K X.prog X.w H a y (uA v))(ry:RelV y u)(q:∀w' s',Inv X aS σ H s'->RelV v w'->Q w' s'):wpAny (AM X.prog X.w) A (QO (.ref a) u) Q E s:=by
 obtain⟨bb,p,x,d,rfl,k,l⟩:=g;cases ry;obtain⟨z,hd,xs,e,de,dd⟩:=XQ I d;obtain⟨w',hw,f8⟩:=ug (v:=v) (o:=(Jn xs p).map (·.2)) (by rw[<- l];exact de.val p);obtain⟨pv,hp,n4⟩:=L8.mp hw;refine S3 (knd:=yK X.prog X.w) (k:=p) (by show A.units+1+4<C0;exact w9 hu) (Ig I k) dd hp ?_;rw[n4];exact q w' _ (I.tok _) f8
theorem ADW{r:Option V}(hu:A.units+5<C0)(I:Inv X aS σ H s)(g:YGet X.K X.prog X.w H a y r)(ry:RelV y u)(q:∀s',Inv X aS σ H s'->Q (.bool (!r.isSome)) s'):wpAny (AM X.prog X.w) A (D9 .NotIn u (.ref a)) Q E s:=by
 obtain⟨bb,p,x,d,rfl,k,l⟩:=g;cases ry;obtain⟨z,hd,xs,e,de,dd⟩:=XQ I d;refine V5 (knd:=yK X.prog X.w) (k:=p) (by show A.units+1+4<C0;exact w9 hu) (Ig I k) hd dd ?_;have c:=(de.val p).isSome_eq;rw[LU] at c;rw[<- c,l];exact q _ (I.tok _)
theorem ZL{r:As}{bb:List (YKey×V)}{p:YKey}{x:Addr}{Q:uO}(hu:A.units+5<C0)(I:Inv X aS σ H s)(d:DY X.K X.prog X.w H a bb)(ey:y=.ref x)(k:YAt X.K H p x)(new:valV bb p=uB)(hl:bb.length<sizeLine)(ry:RelV y u)(rv:RelV v r)
  (q:∀(H':Hp) s',(∀b,b≠a->H' b=H b)->DY X.K X.prog X.w H' a (putK bb p v)->Inv X aS σ H' s'->Q () s'):wpAny (AM X.prog X.w) A (V8 (.ref a) u r) Q E s:=by
 subst ey;cases ry;obtain⟨z,hd,xs,e,de,dd⟩:=XQ I d;have hz:xs.length<=sizeLine:=by rw[<- AZ de];exact z
 refine S4 (hsz:=hz) (knd:=yK X.prog X.w) (k:=p) (by show A.units+1+4<C0;exact w9 hu) (Ig I k) dd λh' mm hs=>?_;have he:∃o,h'.get? a=uA o:=let ⟨o,_,_,ho,_⟩:=mm;⟨o,ho⟩
 have tE:TSm H (upd H a (dY X.prog X.w a (Ts xs p x r))):=λb u hb t=>by
  rw[Ah (λz=>by
   rw[z,e] at hb;cases hb;obtain⟨ys,e| ⟨o,e⟩⟩:=t
   .cases e
   .cases e)]
  exact hb
 refine q (upd H a (dY X.prog X.w a (Ts xs p x r))) _ (λb hb=>Ah hb) ⟨?_,hd,_,Ab,Paired.imp (λ_ _ c=>⟨c.1,c.2.1.ts tE,c.2.2⟩) (KY.put de k rv new)⟩ (KC I (by rw[e];exact HZ) hs he (ABL mm));rw[JG v new,BN,D5];exact hl
def AGM(K:Au)(P:AJ)(w:AQ):TE:=λ_ H Q=>∀p,H p=none->DY K P w (upd H p (dY P w p [])) p []->Q (.ref p) (upd H p (dY P w p []))
def AGs(K:Au)(P:AJ)(w:AQ)(td ty:TE):TE:=λσ H Q=>td σ H λx H1=>ty σ H1 λy H2=>∃a v,x=.ref a/\YGet K P w H2 a y (uA v)/\Q v H2
def ADY(K:Au)(P:AJ)(w:AQ)(ty td:TE):TE:=λσ H Q=>ty σ H λy H1=>td σ H1 λx H2=>∃a r,x=.ref a/\YGet K P w H2 a y r/\Q (.bl (!r.isSome)) H2
def AHF(K:Au)(P:AJ)(w:AQ)(td ty tv:TE):TS:=λD σ H=>tv σ H λv H1=>td σ H1 λx H2=>ty σ H2 λy H3=>∃a bb p b,x=.ref a/\y=.ref b/\DY K P w H3 a bb/\YAt K H3 p b/\valV bb p=uB/\bb.length<sizeLine /\
 ∀H4,(∀c,c≠a->H4 c=H3 c)->DY K P w H4 a (putK bb p v)->D.nx σ H4
section
variable{o i:Expr}
theorem ABk:PE X (.Dict [] [] pos) (AGM X.K X.prog X.w):=λaS s σ H Q I h=>by
 have hn:=I.hok.fresh (AF s.heap.objs.size);have ns:=beq_eq_false_iff_ne.mpr (CF (BH I.big));refine wpAny_Dict_empty ⟨.ref s.heap.objs.size,_,I.laid (a:=s.heap.objs.size) (o:=dY X.prog X.w s.heap.objs.size []) (t':=s.toks) (λ_ _ q=>AH _ q) (AF _) (ABL (ay _)),rfl,h _ hn ⟨A7 _,ns,[],Ab,.nil⟩⟩
theorem AEJ(hu:X.A.units+5<C0)(ho:PE X o td)(hi:PE X i ty)(hs:NoSl i):PE X (.Subscript o i pos) (AGs X.K X.prog X.w td ty):=by
 intro aS s σ H Q I h;refine Xu OG.lookup hs (thn (ho aS s σ H _ I h) λu s1 ⟨x,H1,I1,rx,q1⟩=>thn (hi aS s1 σ H1 _ I1 q1) λiv s2 ⟨y,H2,I2,ry,a,v,ex,g,q2⟩=>?_);subst ex;obtain rfl:u=AV a:=rx;exact⟨AGC I2 g,Zx hu I2 g ry λw' s3 I3 f8=>⟨v,H2,I3,f8,q2⟩⟩
theorem AAR(hu:X.A.units+5<C0)(hi:PE X i ty)(ho:PE X o td):PC X .NotIn i o (ADY X.K X.prog X.w ty td):=by
 intro aS s σ H Q I h;refine thn (hi aS s σ H _ I h) λiv s1 ⟨y,H1,I1,ry,q1⟩=>thn (ho aS s1 σ H1 _ I1 q1) λu s2 ⟨x,H2,I2,rx,a,r,ex,g,q2⟩=>?_;subst ex;obtain rfl:u=AV a:=rx;exact ADW hu I2 g ry λs3 I3=>⟨.bl (!r.isSome),H2,I3,rfl,q2⟩
theorem ADz(hu:X.A.units+5<C0)(ho:PE X o td)(hi:PE X i ty)(hv:PE X bq tv)(hs:K2 bq (uA (.Subscript o i b7)) pos.line X.env=pure false):PS X (.Assign [.Subscript o i b7] bq pos) (AHF X.K X.prog X.w td ty tv):=by
 intro aS s σ H D I h;refine P3 (thn (hv aS s σ H _ I h) λr s1 ⟨v,H1,I1,rv,q1⟩=>thn (ho aS s1 σ H1 _ I1 q1) λu s2 ⟨x,H2,I2,rx,q2⟩=>thn (hi aS s2 σ H2 _ I2 q2) λiv s3 ⟨y,H3,I3,ry,a,bb,p,b,ex,ey,d,k,new,hl,q3⟩=>?_) hs;subst ex;obtain rfl:u=AV a:=rx;exact ZL hu I3 d ey k new hl ry rv λH4 s4 mM d4 I4=>⟨σ,H4,I4,q3 H4 mM d4⟩
end
end L2
namespace K45
open PySem L2
noncomputable def top(i:Nat):Stmt:=HM.main.body.getD i (.Pass ⟨0,0,0,0⟩)
abbrev Lb:Stmt:=inClass (top 22) 0
abbrev ABZ:Stmt:=inClass (top 22) 1
abbrev ADG:Stmt:=inClass (top 22) 2
abbrev sAt:Stmt:=inClass (top 22) 3
abbrev AGV:Stmt:=top 23
abbrev AGD:Stmt:=top 24
abbrev AFe:Stmt:=top 25
abbrev Py:Stmt:=top 28
abbrev Pn:Stmt:=top 29
abbrev Vf:Stmt:=top 48
abbrev KR:Stmt:=top 50
abbrev Qy:Stmt:=inClass (top 49) 0
abbrev KD:Stmt:=inClass (top 49) 1
abbrev ACT:Stmt:=inClass (top 49) 2
abbrev Wx:Stmt:=inClass (top 33) 0
abbrev Ve:Stmt:=inClass (top 33) 2
abbrev Pu:Stmt:=inClass (top 33) 3
abbrev ACS:Stmt:=inClass (top 33) 4
abbrev Iv:Stmt:=inClass (top 33) 5
abbrev AGg:Stmt:=inClass (top 33) 6
abbrev Ip:Stmt:=top 35
abbrev QD:Stmt:=top 36
abbrev Hw:Stmt:=top 37
abbrev Qc:Stmt:=top 38
abbrev Kp:Stmt:=top 31
abbrev ABt:Stmt:=top 52
abbrev AFf:Stmt:=top 53
abbrev Uw:Stmt:=top 54
abbrev Hs:Stmt:=top 55
abbrev Ju:Stmt:=top 57
abbrev Rm:Stmt:=top 61
theorem ja:¬ (("amount" : Str) = "joints"):=by decide+kernel
noncomputable def flds(z:Int)(j:Addr):List (Str×V):=putF "joints" (.ref j) (putF "amount" (.int z) [])
theorem Jk(z:Int)(j:Addr):(flds z j).lookup ("amount" : Str)=uA (.int z):=by
 unfold flds;rw[Aj,uD ja,Aj,uE rfl]
theorem Jj(z:Int)(j:Addr):(flds z j).lookup ("joints" : Str)=uA (.ref j):=by
 unfold flds;rw[Aj,uE rfl]
theorem AEe(z:Int)(j:Addr){m:Str}(h1:¬ m = "joints")(h2:¬ m = "amount"):(flds z j).lookup m=uB:=by
 unfold flds;rw[Aj,uD h1,Aj,uD h2]
 all_goals rfl
structure Txt(K:Au)(mg:Str->Option As)(C:Addr):Prop where
 cl:Cls K C
 nA:NoAttr K C "amount"
 nJ:NoAttr K C "joints"
 mgC:mg "Web" = uA (.ref C)
 mp:∃t,mg "MOST_POINTS" = uA (.int 10 t)
 mt:∃t,mg "MOST_TIES" = uA (.int 12 t)
 len:mg "len" = uB
 range:mg "range" = uB
 int:mg "int" = uB
 max:mg "max" = uB
 min:mg "min" = uB
 sorted:mg "sorted" = uB
 tuple:mg "tuple" = uB
 list:mg "list" = uB
 bool:mg "bool" = uB
 enum:mg "enumerate" = uB
 isi:mg "isinstance" = uB
def WebAt(K:Au)(C:Addr)(H:Hp)(p:Addr)(z:Int)(as:uK):Prop:=∃dx j,H p=uA (.ins C dx (flds z j))/\rTup K (rPair K) H as (.ref j)
theorem WebAt.same{z:Int}(h:WebAt K C H p z as)(e:Same H H'):WebAt K C H' p z as:=by
 obtain⟨dx,j,h1,h2⟩:=h;exact⟨dx,j,e _ _ h1,Ao (Ao Ax) _ _ _ _ e.ts h2⟩
def Va(K:Au):Sp:=λvs H Q _=>∃(a:Addr) (ns:uJ) (k:Int),vs=[.ref a,.int k]/\SqL K H a (ns.map V.int)/\0<=k/\∀c:Int,Q (.int c) H
def AFW:Sp:=λvs H Q _=>∃(c k:Int),vs=[.int c,.int k]/\∀r:Int,Q (.int r) H
def AFY:Sp:=λvs H Q _=>∃(p t:Int),vs=[.int p,.int t]/\1<=p/\p<=10/\0<=t/\t<=12/\Q .non H
def AFV(K:Au):Sp:=λvs H Q _=>∃(m a b:Int) (t:Addr),vs=[.int m,.ref t]/\SqT K H t [.int a,.int b]/\0<=a/\a<b/\b<m/\Q .non H
def AFL(K:Au):Sp:=λvs H Q _=>∃(m:Int) (l:Addr) (xs:List V) (as:uK),vs=[.int m,.ref l]/\SqL K H l xs/\A1 (rSeq K H) as xs/\OkTies m as/\as.length<=12 /\
 ∀(j:Addr) (H':Hp),Same H H'->rTup K (rPair K) H' (as.map srt) (.ref j)->Q (.ref j) H'
def LR(K:Au)(C:Addr):Sp:=λvs H Q _=>∃(p dx l:Addr) (m:Int) (xs:List V) (as:uK),vs=[.ref p,.int m,.ref l]/\H p=uA (.ins C dx [])/\SqL K H l xs/\A1 (rSeq K H) as xs/\OkTies m as/\as.length<=12/\1<=m/\m<=10 /\
 ∀(H':Hp),(∀b o,H b=uA o->b≠p->H' b=uA o)->WebAt K C H' p m (as.map srt)->Q .non H'
def Ux(K:Au)(C:Addr):Sp:=λvs H Q _=>∃(p:Addr) (m:Int) (as:uK),vs=[.ref p]/\WebAt K C H p m as/\Q (.int m) H
def Qq(K:Au)(C:Addr):Sp:=λvs H Q _=>∃(p:Addr) (m:Int) (as:uK),vs=[.ref p]/\WebAt K C H p m as/\∀(l:Addr) (H':Hp),Same H H'->H l=none->rLst K (rPair K) H' as (.ref l)->Q (.ref l) H'
def AHK(K:Au)(C:Addr):Sp:=λvs H Q _=>∃(p:Addr) (m x:Int) (as:uK),vs=[.ref p,.int x]/\WebAt K C H p m as/\as.length<=12 /\
 ∀(l:Addr) (H':Hp),Same H H'->H l=none->H' l=uA (.lst ((hits x as).map V.int))->Q (.ref l) H'
def Tc(K:Au):Sp:=λvs H Q _=>∃(a:Addr) (ns:uJ),vs=[.ref a]/\SqL K H a (ns.map V.int)/\ns.length<=63/\∀H',Q (.bl true) H'
theorem AHO:FnScope zl0 zl0 (Ai AGV):=fscp (by decide+kernel)
theorem AGQ(F:Fun K "refuse_amounts" "refuse_amounts" AGV f fd)(T:Txt K mg C):FnOk P w K mg base CX0 1 f fd zl0 AFY:=by
 refine F.ok AHO (λvs H Q E h=>?_) (λbE A outer s H vs Q E hr h=>?_)
 .obtain⟨p,t,rfl,_⟩:=h
  rfl
 obtain⟨p,t,rfl,h1,h2,h3,h4,q⟩:=h;obtain⟨t1,e1⟩:=T.mp;obtain⟨t2,e2⟩:=T.mt;refine⟨_,Ae (Bv (uZ (Ho (Ar Lx (pv 0) Ag) (Gn (Ar Yj (pv 0) (CJ (v:=.int 10) rfl e1 ⟨t1,rfl⟩))))) FQ BP)
  (Ak (Bv (Ar Yj (pv 1) (CJ (v:=.int 12) rfl e2 ⟨t2,rfl⟩)) FQ BP)),?_⟩
 refine⟨_,rfl,_,_,rfl,rfl,_,rfl,?_⟩;refine iteN (vT h1) ?_;refine⟨_,rfl,_,_,rfl,rfl,_,rfl,?_⟩;refine iteN (vT h2) ?_;refine⟨_,rfl,_,_,rfl,rfl,_,rfl,?_⟩;refine iteN (vT h4) ?_;exact q
theorem AHA:FnScope zl1 zl1 (Ai AFe):=fscp (by decide+kernel)
theorem at0{a b:V}:atI [a,b] 0=uA a:=rfl
theorem at1{a b:V}:atI [a,b] 1=uA b:=rfl
theorem AGf(F:Fun K "refuse_points" "refuse_points" AFe f fd):FnOk P w K mg base CX0 1 f fd zl1 (AFV K):=by
 refine F.ok AHA (λvs H Q E h=>?_) (λbE A outer s H vs Q E hr h=>?_)
 .obtain⟨m,a,b,t,rfl,_⟩:=h
  rfl
 obtain⟨m,a,b,t,rfl,hT,h0,h1,h2,q⟩:=h;refine⟨_,Ae (Bv (uZ (Ho (Ar Lx (Aq Ay (pv 1) Ag) Ag) (Gn (Ar AGu (Aq Ay (pv 1) Ag) (pv 0))))) FQ BP)
  (Ak (Bv (Ar Du (Aq Ay (pv 1) Ag) (Aq Ay (pv 1) Ag)) FQ BP)),?_⟩
 refine⟨_,rfl,t,_,_,_,rfl,rfl,hT,at0,_,_,rfl,rfl,_,rfl,?_⟩;refine iteN (vT h0) ?_;refine⟨_,rfl,t,_,_,_,rfl,rfl,hT,at1,_,rfl,_,_,rfl,rfl,_,rfl,?_⟩;refine iteN (by lia) ?_;refine⟨_,rfl,t,_,_,_,rfl,rfl,hT,at0,_,rfl,t,_,_,_,rfl,rfl,hT,at1,rfl,_,rfl,?_⟩;refine iteN (λe=>?_) q;have:=V.int.inj e;lia
theorem Xl:FnScope ["many","ties","checked","handed","tie"] zl19 (Ai AGD):=fscp (by decide+kernel)
theorem AFh(F:Fun K "checked_ties" "checked_ties" AGD f fd)(T:Txt K mg C)(GP:Cal P w K mg base 1 fP mw "refuse_points" zl1 (AFV K)) :
  FnOk P w K mg base CX0 2 f fd zl19 (AFL K):=by
 refine F.ok Xl (λvs H Q E h=>?_) (λbE A outer s H vs Q E hr h=>?_)
 .obtain⟨m,l,xs,as,rfl,_⟩:=h
  rfl
 obtain⟨m,l,xs,as,rfl,hS,pa,ok,h12,q⟩:=h;refine⟨_,Ae (Am (i:=2) Xl.nd (Cv Ad))
  (Ae (Dq DZ rfl (Cw (pv 1)) (Bu (i:=3) Xl.nd)
   (Ae (Am (i:=4) Xl.nd (BL BW rfl T.tuple Cc (Aa (BK Gf rfl T.sorted IE (Aa (pv 3) Ad)) Ad)))
   (Ae (Fw (Az GP hr rfl (Aa (pv 0) (Aa (pv 4) Ad))))
   (Ae (Bv (Ar (ABK (JD Fi) (Cg hr)) (pv 4) (pv 2) rfl) FQ BP)
   (Ak (Fw (PK Fu F9 Go Ec (pv 2) (Aa (pv 4) Ad))))))))
  (Ak (Av (BL BW rfl T.tuple Cc (Aa (pv 2) Ad))))),?_⟩
 refine⟨A7 _,λc hc=>?_⟩;have lx:=AZ pa;refine⟨_,rfl,l,rfl,⟨_,(u4 hc _).seq hS⟩,FN (K:=K) (a:=l) (xs:=xs) (λi σ H2=>∃(hv tv:Option V) (ys:List V),σ=[uA (.int m),uA (.ref l),uA (.ref c),hv,tv]/\Same H H2/\H2 c=uA (.lst ys)/\A1 (rPair K H2) ((as.take i).map srt) ys)
  ⟨uB,uB,[],rfl,u4 hc _,Ab,.nil⟩ (λi σ H2 _ ⟨_,_,_,_,sm,_⟩=>sm.seq hS) ?_ ?_⟩
 .rintro i x σ H2 hx ⟨hv,tv,ys,rfl,sm,hC,pc⟩
  obtain⟨t,ht,rt0⟩:=Paired.get pa hx;obtain⟨p,rfl,hp⟩:=ADM rt0;obtain⟨a,b,rfl,a0,a1,b0,b1,nab⟩:=ok.ok t (BI ht);have n4:SqL K H2 p ([a,b].map V.int)\/SqT K H2 p ([a,b].map V.int):=hp.elim (λz=>.inl (sm.seq z)) λz=>.inr (sm.ts.seq z);refine⟨_,rfl,p,[a,b],rfl,n4,(by show 2<64;decide),λl1 ms fz perm pw=>?_⟩;have em:=JT perm pw;subst em;refine⟨l1,_,rfl,.inl ⟨ut Ab,λt1 qS=>?_⟩⟩;have hT:(upd (upd H2 l1 (.lst ((srt [a,b]).map V.int))) t1 (.tup ((srt [a,b]).map V.int))) t1=uA (.tup ((srt [a,b]).map V.int)):=Ab;have s1:Same H2 (upd (upd H2 l1 (.lst ((srt [a,b]).map V.int))) t1 (.tup ((srt [a,b]).map V.int))):=(u4 fz _).trans (u4 qS _);generalize hH3:upd (upd H2 l1 (.lst ((srt [a,b]).map V.int))) t1 (.tup ((srt [a,b]).map V.int))=H3 at hT s1 ⊢;have bv:(srt [a,b]).length=2:=by rw[Dm];split<;>rfl
  have pts:∃u v:Int,srt [a,b]=[u,v]/\0<=u/\u<v/\v<m:=by
   rw[Dm];split
   .exact⟨b,a,rfl,b0,by lia,a1⟩
   .exact⟨a,b,rfl,a0,by lia,b1⟩
  obtain⟨u,v,euv,u0,uv,vm⟩:=pts;have qj:SqT K H3 t1 [.int u,.int v]:=by
   have e:=uu (K:=K) hT;rw[euv] at e;exact e
  refine⟨_,rfl,_,rfl,m,u,v,t1,rfl,qj,u0,uv,vm,?_⟩;have hC3:=s1 _ _ hC;have pc3:=Paired.imp (λa b=>Ao Ax H2 H3 a b s1.ts) pc;have rt:rPair K H3 (srt [a,b]) (.ref t1):=Gy hT;refine⟨_,rfl,_,rfl,_,_,rt,.inl ⟨c,ys,rfl,ut hC3,pc3⟩,_,rfl,?_⟩;refine iteN (ok.take_new ht) ?_;have hys:ys.length<=12:=by
   rw[<- AZ pc,AB,B7];exact vx h12
  refine⟨_,rfl,.inl ⟨rfl,_,ut hC3⟩,_,rfl,c,ys,_,rfl,rfl,hC3,BZ (by lia),?_⟩;refine⟨_,_,_,rfl,λb o e=>?_,Ab,?_⟩
  .rw[Ah (Af e hc)]
   exact s1 _ _ (sm b o e)
  .have e:as.take (i+1)=as.take i++[[a,b]]:=by rw[CC,ht];rfl
   rw[e,BE,S6];have ts:TSm H3 (upd H3 c (.lst (ys++[.ref t1]))):=u3 hC3;exact Paired.app (Paired.imp (λa b=>Ao Ax H3 _ a b ts) pc3) (uz (Ao Ax H3 _ _ _ ts rt))
 .rintro σ H2 ⟨hv,tv,ys,rfl,sm,hC,pc⟩
  rw[<- lx,CO] at pc;refine⟨_,rfl,c,_,rfl,.inl ⟨ut hC,λj hj=>?_⟩⟩;refine q j _ (sm.trans (u4 hj _)) ⟨j,ys,rfl,uu Ab,?_⟩;exact Paired.imp (λa b=>Ao Ax H2 _ a b (TSm.new hj)) pc
theorem Wm:FnScope zl2 zl2 (Ai Lb):=fscp (by decide+kernel)
theorem IV(F:Fun K "__init__" "Web.__init__" Lb f fd)(T:Txt K mg C)
  (GA:Cal P w K mg base 1 fA pG "refuse_amounts" zl0 AFY)
  (GC:Cal P w K mg base 2 fC tO "checked_ties" zl19 (AFL K)) :
  FnOk P w K mg base CX0 3 f fd zl2 (LR K C):=by
 refine F.ok Wm (λvs H Q E h=>?_) (λbE A outer s H vs Q E hr h=>?_)
 .obtain⟨p,dx,l,m,xs,as,rfl,_⟩:=h
  rfl
 obtain⟨p,dx,l,m,xs,as,rfl,hP,hS,pa,ok,h12,h1,h10,q⟩:=h;have lx:=AZ pa;refine⟨_,Ae (Fw (Az GA (hr.mono (by decide)) rfl (Aa (pv 1) (Aa (BK Bc rfl T.len DF (Aa (pv 2) Ad)) Ad))))
  (Ae (DP (pv 0) (pv 1) rfl)
  (Ak (DP (pv 0) (Az GC hr rfl (Aa (pv 1) (Aa (pv 2) Ad))) rfl))),?_⟩
 refine⟨_,rfl,_,rfl,l,_,rfl,.inl hS,m,_,rfl,h1,h10,vf,by lia,?_⟩;refine⟨_,rfl,_,rfl,p,C,dx,[],rfl,hP,T.cl,T.nA,(by decide),?_⟩;have ts:TSm H (upd H p (.ins C dx (putF "amount" (.int m) []))):=λb u hb t=>by
  rw[Ah ?_]
  .exact hb
  .rintro rfl
   rw[hP] at hb;cases hb;obtain⟨ys,e| ⟨o,e⟩⟩:=t
   .cases e
   .cases e
 have sl:∀{a:Addr}{zs:List V},SqL K H a zs->SqL K (upd H p (.ins C dx (putF "amount" (.int m) []))) a zs:=λ{a zs} h=>by
  rcases h with(h| ⟨o,h⟩)| h
  .exact .inl (.inl (by rw[Ah (Ck h hP (by intro z;cases z))];exact h))
  .exact .inl (.inr ⟨o,by rw[Ah (Ck h hP (by intro z;cases z))];exact h⟩)
  .exact .inr h
 have pa':A1 (rSeq K (upd H p (.ins C dx (putF "amount" (.int m) [])))) as xs:=Paired.imp (λt x h=>by
  rcases h with⟨q,zs,rfl,hq,pz⟩| h
  .exact .inl ⟨q,zs,rfl,sl hq,pz⟩
  .exact .inr (Ao Ax _ _ _ _ ts h)) pa
 refine⟨_,rfl,_,rfl,m,l,xs,as,rfl,sl hS,pa',ok,h12,λj H' sm rj=>?_⟩;have hP':=sm _ _ Ab;refine⟨_,rfl,p,C,dx,_,rfl,hP',T.cl,T.nJ,(by show 1<1000;decide),?_⟩;refine q _ (λb o e hb=>?_) ⟨dx,j,Ab,?_⟩
 .rw[Ah hb]
  exact sm _ _ (by rw[Ah hb];exact e)
 .refine Ao (Ao Ax) _ _ _ _ (λb u hb t=>?_) rj
  rw[Ah ?_]
  .exact hb
  .rintro rfl
   rw[hP'] at hb;cases hb;obtain⟨ys,e| ⟨o,e⟩⟩:=t
   .cases e
   .cases e
theorem scSize:FnScope zl3 zl3 (Ai ABZ):=fscp (by decide+kernel)
theorem AEm(F:Fun K "size" "Web.size" ABZ f fd)(T:Txt K mg C):FnOk P w K mg base CX0 1 f fd zl3 (Ux K C):=by
 refine F.ok scSize (λvs H Q E h=>?_) (λbE A outer s H vs Q E hr h=>?_)
 .obtain⟨p,m,as,rfl,_⟩:=h
  rfl
 obtain⟨p,m,as,rfl,⟨dx,j,hP,hj⟩,q⟩:=h;refine⟨_,Ak (Av (Br (pv 0) rfl)),?_⟩;exact⟨_,rfl,p,C,dx,_,_,rfl,hP,T.cl,T.nA,Jk _ _,q⟩
theorem AFb:FnScope zl3 zl3 (Ai ADG):=fscp (by decide+kernel)
theorem AEw(F:Fun K "ties" "Web.ties" ADG f fd)(T:Txt K mg C):FnOk P w K mg base CX0 1 f fd zl3 (Qq K C):=by
 refine F.ok AFb (λvs H Q E h=>?_) (λbE A outer s H vs Q E hr h=>?_)
 .obtain⟨p,m,as,rfl,_⟩:=h
  rfl
 obtain⟨p,m,as,rfl,⟨dx,j,hP,j',xs,ej,hj,pj⟩,q⟩:=h;cases ej;refine⟨_,Ak (Av (BL JB rfl T.list JY (Aa (Br (pv 0) rfl) Ad))),?_⟩;refine⟨_,rfl,p,C,dx,_,_,rfl,hP,T.cl,T.nJ,Jj _ _,j,xs,rfl,.inr hj,λl hl=>?_⟩;refine q l _ (u4 hl _) hl ⟨l,xs,rfl,ut Ab,?_⟩;exact Paired.imp (λa b=>Ao Ax H _ a b (TSm.new hl)) pj
theorem AHU:FnScope zl4 zl4 (Ai sAt):=fscp (by decide+kernel)
theorem AGq(F:Fun K "at" "Web.at" sAt f fd)(T:Txt K mg C):FnOk P w K mg base CX0 1 f fd zl4 (AHK K C):=by
 refine F.ok AHU (λvs H Q E h=>?_) (λbE A outer s H vs Q E hr h=>?_)
 .obtain⟨p,m,x,as,rfl,_⟩:=h
  rfl
 obtain⟨p,m,x,as,rfl,⟨dx,j,hP,j',xs,ej,hj,pj⟩,h12,q⟩:=h;cases ej;refine⟨_,Ak (Av (Ce (Ai sAt) ["number","tie"] ["point"] [1] rfl rfl (by decide+kernel) ⟨⟨rfl,by decide+kernel⟩,trivial⟩ (Ii rfl T.enum (Aa (Br (pv 0) rfl) Ad))
  (λ_ _ _=>Ek (K:=K) (n:=2) rfl rfl (Bt (BJ (i:=0)) (Bt (BJ (i:=1)) En)))
  (λ_ _ _=>Cq (Ar (Fz (K:=K) rfl) (pv 2) (pv 1) rfl))
  (λ_ _ _=>pv 0))),?_⟩
 refine⟨_,rfl,p,C,dx,_,_,rfl,hP,T.cl,T.nJ,Jj _ _,j,rfl,⟨_,hj⟩,λD hD=>?_⟩;have lx:=AZ pj;refine Fq (xs:=xs) (λi τ H2=>∃n t:Option V,τ=[n,t,uA (.int x)]/\Same H H2/\H2 D=uA (.lst ((hits x (as.take i)).map V.int))) ⟨uB,uB,rfl,u4 hD _,Ab⟩
  (λi τ H2 _ ⟨_,_,_,sm,_⟩=>sm.ts.seq hj) ?_ ?_
 .rintro i y τ H2 T1 hy fm ⟨n,t,rfl,sm,qG⟩
  obtain⟨qu,ht,rt⟩:=Paired.get pj hy;obtain⟨q1,rfl,pY⟩:=Bx rt;have s1:Same H2 (upd H2 T1 (.tup [.int i,.ref q1])):=u4 fm _;refine⟨T1,_,rfl,uu Ab,rfl,_,_,rfl,_,_,rfl,rfl,?_⟩;refine⟨_,rfl,_,rfl,q1,_,rfl,.inr (s1.ts.seq (sm.ts.seq pY)),rfl,?_,_,rfl,?_⟩
  .simp[flatV]
  .rw[uD (by decide),FZ]
   have hD3:=s1 _ _ qG;have dk:=(AO.mp ht).1;refine ite2 (λc=>?_) (λc=>?_)
   .have c':=uH c
    refine⟨_,rfl,_,hD3,?_,_,_,rfl,λb o e=>?_,?_⟩
    .have:(hits x (as.take i)).length<=(as.take i).length:=MP x 0 (as.take i)
     rw[AB];rw[B7] at this;exact BZ (by lia)
    .rw[Ah (Af e hD)]
     exact s1 _ _ (sm b o e)
    .rw[Ab,Ow ht,uE c',BE]
     rfl
   .have c':¬ x∈qu:=λz=>c (uF z)
    refine⟨_,_,rfl,sm.trans s1,?_⟩;rw[hD3,Ow ht,uD c',B3]
 .rintro τ H2 ⟨n,t,rfl,sm,qG⟩
  rw[<- lx,CO] at qG;exact q D H2 sm hD qG
end K45
namespace G
abbrev Row:=Nat×Nat×Nat
def Low(aI:List Row)(t k l:Nat):Prop:=l<k/\(l<=1\/∃r,aI[l-2]?=uA r/\t<r.1)
def Ok(n:Nat)(aI:List Row):Prop:=∀(i:Nat) (r:Row),aI[i]?=uA r->r.1<n/\Low aI r.1 (i+2) r.2.1/\Low aI r.1 (i+2) r.2.2
structure Least(n:Nat)(aI:List Row):Prop where
 ok:Ok n aI
 pos:∀(i:Nat) (r:Row),aI[i]?=uA r->r.2.2≠0
 one:∀(i j:Nat) (r:Row),aI[i]?=uA r->aI[j]?=uA r->i=j
noncomputable def rank(n:Nat)(aI:List Row)(k:Nat):Nat:=if k<2 then n+1-k else(aI.getD (k-2) (0,0,0)).1
noncomputable def ledF(aI:List Row):Nat->Nat->uL->Bool
 | 0,_,_=>false
 | f+1,k,s=>if k<=1 then decide (k=1/\s=[]) else
  let r:=aI.getD (k-2) (0,0,0)
  match s with
  | []=>ledF aI f r.2.1 []
  | x::xs=>if x<r.1 then false else if x=r.1 then ledF aI f r.2.2 xs else ledF aI f r.2.1 (x::xs)
noncomputable def led(aI:List Row)(k:Nat)(s:uL):Bool:=ledF aI (k+1) k s
def Knot(aI:List Row)(k:Nat):Prop:=k<aI.length+2
section
variable{aI:List Row}
theorem Bm{k:Nat}(h:Knot aI k)(h2:2<=k):aI[k-2]?=uA (aI.getD (k-2) (0,0,0)):=by
 have:k-2<aI.length:=by unfold Knot at h;exact v7 h h2
 rw[AG this,AD,AG this];rfl
theorem Ok.low(o:Ok n aI){r:Row}(h:aI[i]?=uA r):r.1<n/\r.2.1<i+2/\r.2.2<i+2/\r.1<rank n aI r.2.1/\r.1<rank n aI r.2.2/\Knot aI r.2.1/\Knot aI r.2.2:=by
 obtain⟨h1,h2,h3⟩:=o i r h;have hi:=(AO.mp h).1;have rk:∀l,Low aI r.1 (i+2) l->r.1<rank n aI l/\Knot aI l:=by
  intro l hl;obtain⟨a,b⟩:=hl;refine⟨?_,by unfold Knot;lia⟩;unfold rank;by_cases c:l<2
  .rw[uE c];lia
  .rw[uD c]
   rcases b with b| ⟨r',e,z⟩
   ·lia
   .rw[AD,e];exact z
 exact⟨h1,h2.1,h3.1,(rk _ h2).1,(rk _ h3).1,(rk _ h2).2,(rk _ h3).2⟩
theorem Zu(o:Ok n aI):∀(f k:Nat) (s:uL),k<f->Knot aI k->ledF aI (f+1) k s=ledF aI f k s:=by
 intro f
 induction f with
 | zero=>intro k s h;lia
 | succ f ih =>
  intro k s hk kn;unfold ledF;by_cases c:k<=1
  .rw[uE c,uE c]
  rw[uD c,uD c];obtain⟨h1,h2,h3,_,_,k1,k2⟩:=o.low (Bm kn (vc c));have e1:∀s,ledF aI (f+1) (aI.getD (k-2) (0,0,0)).2.1 s=ledF aI f (aI.getD (k-2) (0,0,0)).2.1 s:=λs=>ih _ _ (wd h2 hk c) k1;have e2:∀s,ledF aI (f+1) (aI.getD (k-2) (0,0,0)).2.2 s=ledF aI f (aI.getD (k-2) (0,0,0)).2.2 s:=λs=>ih _ _ (wd h3 hk c) k2;cases s with
  | nil=>exact e1 _
  | cons x xs =>
   show(if _ then _ else if _ then ledF aI (f+1) _ _ else ledF aI (f+1) _ _)=_;rw[e1,e2]
theorem Jx(o:Ok n aI){k:Nat}(s:uL)(kn:Knot aI k):∀d,ledF aI (k+1+d) k s=led aI k s
 | 0=>rfl
 | d+1=>by rw[show k+1+(d+1)=(k+1+d)+1 from wN,Zu o _ k s (by lia) kn,Jx o s kn d]
theorem DW(s:uL):led aI 1 s=decide (s=[]):=by
 unfold led ledF;simp
theorem Cp(s:uL):led aI 0 s=false:=by
 unfold led ledF;simp
theorem Dd(o:Ok n aI){k:Nat}(kn:Knot aI k)(h2:2<=k):led aI k []=led aI (aI.getD (k-2) (0,0,0)).2.1 []:=by
 obtain⟨h1,kH,h3,_,_,k1,k2⟩:=o.low (Bm kn h2);unfold led
 conv=>lhs;unfold ledF
 rw[uD (v6 h2)];have:=Jx o [] k1 (k-(aI.getD (k-2) (0,0,0)).2.1-1);rw[show(aI.getD (k-2) (0,0,0)).2.1+1+(k-(aI.getD (k-2) (0,0,0)).2.1-1)=k from xf kH h2] at this;exact this
theorem Bp(o:Ok n aI){k x:Nat}{xs:uL}(kn:Knot aI k)(h2:2<=k):led aI k (x::xs) =
  if x<(aI.getD (k-2) (0,0,0)).1 then false else if x=(aI.getD (k-2) (0,0,0)).1 then led aI (aI.getD (k-2) (0,0,0)).2.2 xs else led aI (aI.getD (k-2) (0,0,0)).2.1 (x::xs):=by
 obtain⟨h1,kH,h3,_,_,k1,k2⟩:=o.low (Bm kn h2);unfold led
 conv=>lhs;unfold ledF
 rw[uD (v6 h2)];have e1:=Jx o (x::xs) k1 (k-(aI.getD (k-2) (0,0,0)).2.1-1);rw[show(aI.getD (k-2) (0,0,0)).2.1+1+(k-(aI.getD (k-2) (0,0,0)).2.1-1)=k from xf kH h2] at e1;have e2:=Jx o xs k2 (k-(aI.getD (k-2) (0,0,0)).2.2-1);rw[show(aI.getD (k-2) (0,0,0)).2.2+1+(k-(aI.getD (k-2) (0,0,0)).2.2-1)=k from xf h3 h2] at e2;show(if _ then _ else if _ then ledF aI k _ _ else ledF aI k _ _)=_;rw[e1,e2];rfl
def Way(n:Nat)(aI:List Row)(k:Nat)(s:uL):Prop:=led aI k s=true/\s.Pairwise (· < ·)/\∀x∈s,x<n/\rank n aI k<=x
theorem ABn(L:Least n aI){k:Nat}{s:uL}(kn:Knot aI k)(h2:2<=k)(w:Way n aI (aI.getD (k-2) (0,0,0)).2.2 s):Way n aI k ((aI.getD (k-2) (0,0,0)).1::s):=by
 obtain⟨w1,w2,w3⟩:=w;obtain⟨h1,kH,h3,r1,r2,k1,k2⟩:=L.ok.low (Bm kn h2);have rk:rank n aI k=(aI.getD (k-2) (0,0,0)).1:=by unfold rank;rw[uD (u8 h2)]
 refine⟨?_,?_,?_⟩
 .rw[Bp L.ok kn h2,uD vM,uE rfl];exact w1
 .exact SW (λx hx=>by have:=(w3 x hx).2;exact uP r2 this) w2
 .intro x hx
  rcases AS.mp hx with rfl| hx
  .exact⟨h1,vt rk⟩
  .have:=w3 x hx
   exact⟨this.1,by lia⟩
theorem ADv:Way n aI 1 []:=⟨by rw[DW];rfl,.nil,λx hx=>nomatch hx⟩
theorem off(o:Ok n aI){b x:Nat}{xs:uL}(kb:Knot aI b)(h:x<rank n aI b):led aI b (x::xs)=false:=by
 unfold rank at h;by_cases c:b<2
 .have hb:b=0\/b=1:=wa c
  rcases hb with rfl| rfl
  .exact Cp _
  .rw[DW];rfl
 .rw[uD c] at h
  rw[Bp o kb (uR c),uE h]
end
section
variable{t:Nat}{aI aT new:List Row}
noncomputable def tieOf(aI:List Row)(k:Nat):Nat:=(aI.getD (k-2) (0,0,0)).1
noncomputable def outOf(aI:List Row)(k:Nat):Nat:=(aI.getD (k-2) (0,0,0)).2.1
noncomputable def intoOf(aI:List Row)(k:Nat):Nat:=(aI.getD (k-2) (0,0,0)).2.2
structure Closed(aI:List Row)(rc:uL):Prop where
 two:∀k∈rc,2<=k
 knot:∀k∈rc,Knot aI k
 out:∀k∈rc,outOf aI k<=1\/outOf aI k∈rc
 into:∀k∈rc,intoOf aI k<=1\/intoOf aI k∈rc
structure Kept(n t:Nat)(aI:List Row)(rc:uL)(aT:List Row)(pl:Nat->uW):Prop where
 least:Least n aT
 ge:∀r∈aT,t<=r.1
 z:pl 0=uA 0
 o:pl 1=uA 1
 has:∀k∈rc,t<=tieOf aI k->∃p,pl k=uA p/\Knot aT p/\tieOf aI k<=rank n aT p
theorem AAQ(hn:∀k∈rc,tieOf aI k<n):Kept n n aI rc [] (λk=>if k=0 then uA 0 else if k=1 then uA 1 else uB) :=
 ⟨⟨λi r h=>by simp at h,λi r h=>by simp at h,λi j r h=>by simp at h⟩,λr h=>(nomatch h),rfl,rfl,λk hk h=>uI (hn k hk) (u8 h)⟩
theorem Ln{p:Nat}(h:Knot aT p):rank n (aT++new) p=rank n aT p:=by
 unfold rank;by_cases c:p<2
 .rw[uE c,uE c]
 .rw[uD c,uD c,AD,AD,BC (by unfold Knot at h;lia)]
theorem Gz{p:Nat}(h:Knot aT p):Knot (aT++new) p:=by unfold Knot at *;rw[BN];lia
theorem Kept.low(I:Kept n (t+1) aI rc aT pl)(o:Ok n aI)(hn:t<n){l:Nat}(h:l<=1\/l∈rc)(z:l<=1\/t<tieOf aI l):∃p,pl l=uA p/\Knot aT p/\t<rank n aT p:=by
 rcases DC l 2 with c| c
 .have e:l=0\/l=1:=wa c
  rcases e with rfl| rfl
  .exact⟨0,I.z,by unfold Knot;exact ww,by unfold rank;rw[uE (by decide)];lia⟩
  .exact⟨1,I.o,by unfold Knot;exact wG,by unfold rank;rw[uE (by decide)];lia⟩
 .have hr:=h.resolve_left (vR c)
  have hz:=z.resolve_left (vR c);obtain⟨p,h1,h2,h3⟩:=I.has l hr hz;exact⟨p,h1,h2,uP hz h3⟩
noncomputable def rowIn(aI:List Row)(pl:Nat->uW)(k:Nat):Row:=(tieOf aI k,(pl (outOf aI k)).getD 0,(pl (intoOf aI k)).getD 0)
theorem Closed.low(c:Closed aI rc)(o:Ok n aI){k:Nat}(h:k∈rc):tieOf aI k<n/\(outOf aI k<=1\/tieOf aI k<tieOf aI (outOf aI k))/\(intoOf aI k<=1\/tieOf aI k<tieOf aI (intoOf aI k)):=by
 obtain⟨h1,h2,h3⟩:=o _ _ (Bm (c.knot k h) (c.two k h));refine⟨h1,h2.2.imp id λ⟨r,e,z⟩=>?_,h3.2.imp id λ⟨r,e,z⟩=>?_⟩
 .show(aI.getD (k-2) (0,0,0)).1<(aI.getD ((aI.getD (k-2) (0,0,0)).2.1-2) (0,0,0)).1
  rw[AD (l:=aI) (i:=(aI.getD (k-2) (0,0,0)).2.1-2),e];exact z
 .show(aI.getD (k-2) (0,0,0)).1<(aI.getD ((aI.getD (k-2) (0,0,0)).2.2-2) (0,0,0)).1
  rw[AD (l:=aI) (i:=(aI.getD (k-2) (0,0,0)).2.2-2),e];exact z
theorem Kept.row(I:Kept n (t+1) aI rc aT pl)(c:Closed aI rc)(o:Ok n aI)(hn:t<n){k:Nat}(h:k∈rc)(ht:tieOf aI k=t) :
  ∃a b,pl (outOf aI k)=uA a/\pl (intoOf aI k)=uA b/\rowIn aI pl k=(t,a,b)/\Knot aT a/\Knot aT b/\t<rank n aT a/\t<rank n aT b:=by
 obtain⟨_,z1,z2⟩:=c.low o h;obtain⟨a,a1,a2,a3⟩:=I.low o hn (c.out k h) (by rw[<- ht];exact z1);obtain⟨b,b1,b2,b3⟩:=I.low o hn (c.into k h) (by rw[<- ht];exact z2);exact⟨a,b,a1,b1,by unfold rowIn;rw[a1,b1,ht];rfl,a2,b2,a3,b3⟩
theorem AAs{p k:Nat}(h:Knot aT p)(hk:aT.length+2<=k)(z:t<rank n aT p):Low (aT++new) t k p:=by
 refine⟨by unfold Knot at h;exact uP h hk,?_⟩;rcases DC p 2 with c| c
 .exact .inl (vV c)
 .refine .inr ⟨aT.getD (p-2) (0,0,0),?_,?_⟩
  .rw[BC (by unfold Knot at h;lia)]
   exact Bm h c
  .unfold rank at z
   rw[uD (v8 c)] at z;exact z
theorem Kept.step(I:Kept n (t+1) aI rc aT pl)(c:Closed aI rc)(o:Ok n aI)(hn:t<n)(hw:∀r,r∈new->∃k,k∈rc/\tieOf aI k=t/\r=rowIn aI pl k/\r.2.2≠0)(nd:new.Nodup)
  (h1:∀k,k∉rc\/tieOf aI k≠t->jS k=pl k)
  (h2:∀k∈rc,tieOf aI k=t->∃p,jS k=uA p/\((∃i,(aT++new)[i]?=uA (rowIn aI pl k)/\p=i+2)\/(rowIn aI pl k∉aT++new/\p=(rowIn aI pl k).2.1))) :
  Kept n t aI rc (aT++new) jS:=by
 have at_new:∀(i:Nat) (r:Row),aT.length<=i->(aT++new)[i]?=uA r->new[i-aT.length]?=uA r:=λi r hi e=>by rw[CB hi] at e;exact e
 have at_old:∀(i:Nat) (r:Row),i<aT.length->(aT++new)[i]?=uA r->aT[i]?=uA r:=λi r hi e=>by rw[BC hi] at e;exact e
 have tn:∀r∈new,∃a b,r=(t,a,b)/\b≠0/\Knot aT a/\Knot aT b/\t<rank n aT a/\t<rank n aT b:=λr hr=>by
  obtain⟨k,k1,k2,k3,k4⟩:=hw r hr;obtain⟨a,b,_,_,e,x1,x2,x3,x4⟩:=I.row c o hn k1 k2;rw[e] at k3;refine⟨a,b,k3,?_,x1,x2,x3,x4⟩;rw[k3] at k4;exact k4
 have two:∀k∈rc,k≠0/\k≠1:=λk hk=>by have:=c.two k hk;lia
 refine⟨⟨?_,?_,?_⟩,?_,?_,?_,?_⟩
 .intro i r e
  rcases DC i aT.length with hi| hi
  .obtain⟨z1,z2,z3⟩:=I.least.ok i r (at_old i r hi e)
   refine⟨z1,⟨z2.1,z2.2.imp id λ⟨q,e,z⟩=>⟨q,?_,z⟩⟩,⟨z3.1,z3.2.imp id λ⟨q,e,z⟩=>⟨q,?_,z⟩⟩⟩
   .rw[BC (by have:=(AO.mp e).1;exact this)];exact e
   .rw[BC (by have:=(AO.mp e).1;exact this)];exact e
  .obtain⟨a,b,rfl,_,x1,x2,x3,x4⟩:=tn r (BI (at_new i r hi e))
   exact⟨hn,AAs x1 (zu hi) x3,AAs x2 (zu hi) x4⟩
 .intro i r e
  rcases DC i aT.length with hi| hi
  .exact I.least.pos i r (at_old i r hi e)
  .obtain⟨a,b,rfl,x,_⟩:=tn r (BI (at_new i r hi e))
   exact x
 .intro i j r e1 e2
  have pD:∀(i j:Nat),i<aT.length->aT.length<=j->(aT++new)[i]?=uA r->(aT++new)[j]?=uA r->False:=λi j hi hj e1 e2=>by
   have g:=I.ge r (BI (at_old i r hi e1));obtain⟨a,b,rfl,_⟩:=tn r (BI (at_new j r hj e2));have g':=g;lia
  rcases DC i aT.length with hi| hi
  .rcases DC j aT.length with hj| hj
   .exact I.least.one i j r (at_old i r hi e1) (at_old j r hj e2)
   .exact(pD i j hi hj e1 e2).elim
  .rcases DC j aT.length with hj| hj
   .exact(pD j i hj hi e2 e1).elim
   .have a1:=at_new i r hi e1
    have a2:=at_new j r hj e2;have:=(LW (AO.mp a1).1 nd).mp (a1.trans a2.symm);lia
 .intro r hr
  rcases B8.mp hr with hr| hr
  .have:=I.ge r hr;exact u7 this
  .obtain⟨a,b,rfl,_⟩:=tn r hr
   exact AF t
 .rw[h1 0 (.inl λh=>(two 0 h).1 rfl)];exact I.z
 .rw[h1 1 (.inl λh=>(two 1 h).2 rfl)];exact I.o
 .intro k hk kP
  by_cases e:tieOf aI k=t
  .obtain⟨p,p1,p2⟩:=h2 k hk e
   refine⟨p,p1,?_⟩;obtain⟨a,b,_,_,re,x1,x2,x3,x4⟩:=I.row c o hn hk e;rcases p2 with⟨i,i1,rfl⟩| ⟨i1,rfl⟩
   .have il:=(AO.mp i1).1
    refine⟨by unfold Knot;exact wA il,?_⟩;unfold rank;rw[uD yj,Fc,AD,i1,re];show tieOf aI k<=t;exact vt e
   .rw[re]
    refine⟨Gz x1,?_⟩;rw[Ln x1,e];exact C3 x3
  .obtain⟨p,p1,p2,p3⟩:=I.has k hk (vu kP e)
   exact⟨p,by rw[h1 k (.inr e)];exact p1,Gz p2,by rw[Ln p2];exact p3⟩
end
section
variable{lo d t k1 k2 m1 m2:Nat}{ss:uK}{aI more da dA:List Row}
noncomputable def heads(ss:uK):uJ:=(ss.filter λs=>!decide (s=[])).map λs=>s.headD 0
theorem KQ{l k:Nat}(h:Low aI t k l):Low (aI++more) t k l:=⟨h.1,h.2.imp id λ⟨q,e,z⟩=>⟨q,by rw[BC (AO.mp e).1];exact e,z⟩⟩
theorem AGS(o:Ok n aI)(ht:t<n)(h1:Low aI t (aI.length+2) k1)(h2:Low aI t (aI.length+2) k2):Ok n (aI++[(t,k1,k2)]):=by
 intro j r e;rcases DC j aI.length with c| c
 .rw[BC c] at e
  obtain⟨z1,z2,z3⟩:=o j r e;exact⟨z1,KQ z2,KQ z3⟩
 .rw[CB c] at e
  have j0:j=aI.length:=by
   have:=(AO.mp e).1;simp at this;lia
  subst j0;rw[J5] at e;cases e;exact⟨ht,KQ h1,KQ h2⟩
theorem Tp{k:Nat}(kn:Knot aI k)(up:k<=1\/t+1<=tieOf aI k):Low aI t (aI.length+2) k:=by
 refine⟨kn,?_⟩;rcases DC k 2 with c| c
 .exact .inl (vV c)
 .exact .inr ⟨_,Bm kn c,by have:=up.resolve_left (vR c);unfold tieOf at this;exact xN this⟩
theorem ADe{k:Nat}(kn:Knot aI k)(h2:2<=k):tieOf (aI++more) k=tieOf aI k:=by
 unfold tieOf;rw[AD,AD,BC (by unfold Knot at kn;exact v7 kn h2)]
end
section
variable{t:Nat}{aI aT new more:List Row}
theorem ACi(o:Ok n aI):∀(f k:Nat) (s:uL),Knot aI k->ledF (aI++more) f k s=ledF aI f k s:=by
 intro f
 induction f with
 | zero=>intro k s h;rfl
 | succ f ih =>
  intro k s kn;unfold ledF;by_cases c:k<=1
  .rw[uE c,uE c]
  rw[uD c,uD c];have eg:(aI++more).getD (k-2) (0,0,0)=aI.getD (k-2) (0,0,0):=by
   rw[AD,AD,BC (by unfold Knot at kn;lia)]
  obtain⟨h1,h2,h3,_,_,k1,k2⟩:=o.low (Bm kn (vc c));rw[eg];cases s with
  | nil=>exact ih _ _ k1
  | cons x xs =>
   show(if _ then _ else if _ then ledF (aI++more) f _ _ else ledF (aI++more) f _ _)=_;rw[ih _ _ k1,ih _ _ k2]
theorem Dh(o:Ok n aI){k:Nat}(s:uL)(kn:Knot aI k):led (aI++more) k s=led aI k s:=ACi o _ _ _ kn
def RowLt(a b:Row):Prop:=b.1<a.1\/(a.1=b.1/\(a.2.1<b.2.1\/(a.2.1=b.2.1/\a.2.2<b.2.2)))
structure Kept2(n t:Nat)(aI:List Row)(rc:uL)(aT:List Row)(pl:Nat->uW):Prop where
 base:Kept n t aI rc aT pl
 sem:∀k∈rc,t<=tieOf aI k->∀p,pl k=uA p->∀s,led aT p s=led aI k s
 img:∀k∈rc,t<=tieOf aI k->∀p,pl k=uA p->(2<=p/\aT[p-2]?=uA (rowIn aI pl k))\/((rowIn aI pl k).2.2=0/\p=(rowIn aI pl k).2.1)
 sur:∀(i:Nat) (r:Row),aT[i]?=uA r->∃k∈rc,t<=tieOf aI k/\pl k=uA (i+2)
 srt:aT.Pairwise RowLt
theorem WD(hn:∀k∈rc,tieOf aI k<n):Kept2 n n aI rc [] (λk=>if k=0 then uA 0 else if k=1 then uA 1 else uB) :=
 ⟨AAQ hn,λk hk h=>uI (hn k hk) (u8 h),λk hk h=>uI (hn k hk) (u8 h),λi r h=>by simp at h,.nil⟩
theorem Vd(c:Closed aI rc)(o:Ok n aI)(h1:∀k,k∉rc\/tieOf aI k≠t->jS k=pl k){k:Nat}(hk:k∈rc)(ht:t<=tieOf aI k):rowIn aI jS k=rowIn aI pl k:=by
 have two:∀k,k<=1->k∉rc:=λk h z=>by have:=c.two k z;exact yZ this h
 obtain⟨_,z1,z2⟩:=c.low o hk;have e1:jS (outOf aI k)=pl (outOf aI k):=by
  rcases z1 with z| z
  .exact h1 _ (.inl (two _ z))
  .exact h1 _ (.inr (y4 ht z))
 have e2:jS (intoOf aI k)=pl (intoOf aI k):=by
  rcases z2 with z| z
  .exact h1 _ (.inl (two _ z))
  .exact h1 _ (.inr (y4 ht z))
 unfold rowIn;rw[e1,e2]
theorem Kept2.low(I:Kept2 n (t+1) aI rc aT pl){l p:Nat}(h:l<=1\/l∈rc)(z:l<=1\/t<tieOf aI l)(hp:pl l=uA p)(s:uL):led aT p s=led aI l s:=by
 rcases DC l 2 with c| c
 .have e:l=0\/l=1:=wa c
  rcases e with rfl| rfl
  .rw[I.base.z] at hp
   cases hp;rw[Cp,Cp]
  .rw[I.base.o] at hp
   cases hp;rw[DW,DW]
 .exact I.sem l (h.resolve_left (vR c)) (z.resolve_left (vR c)) p hp s
theorem Kept2.step(I:Kept2 n (t+1) aI rc aT pl)(c:Closed aI rc)(o:Ok n aI)(hn:t<n)(hw:∀r,r∈new->∃k,k∈rc/\tieOf aI k=t/\r=rowIn aI pl k/\r.2.2≠0)(nd:new.Nodup)
  (hw2:∀k∈rc,tieOf aI k=t->(rowIn aI pl k).2.2≠0->rowIn aI pl k∈new) (so:new.Pairwise RowLt)
  (h1:∀k,k∉rc\/tieOf aI k≠t->jS k=pl k)
  (h2:∀k∈rc,tieOf aI k=t->∃p,jS k=uA p/\((∃i,(aT++new)[i]?=uA (rowIn aI pl k)/\p=i+2)\/(rowIn aI pl k∉aT++new/\p=(rowIn aI pl k).2.1))) :
  Kept2 n t aI rc (aT++new) jS:=by
 have B:=I.base.step c o hn hw nd h1 h2;have pM:=I.base.least.ok;have at_:∀k∈rc,tieOf aI k=t->∀p,jS k=uA p->(∃i,(aT++new)[i]?=uA (rowIn aI pl k)/\p=i+2)\/((rowIn aI pl k).2.2=0/\p=(rowIn aI pl k).2.1):=λk hk ht p hp=>by
  obtain⟨p',e,h⟩:=h2 k hk ht;rw[hp] at e;cases e;rcases h with h| ⟨nm,e⟩
  .exact .inl h
  .refine .inr ⟨?_,e⟩
   rcases S7 (rowIn aI pl k).2.2 with z| z
   .exact z
   .exact uI (BS _ (hw2 k hk ht (by lia))) nm
 have cz:∀k∈rc,t+1<=tieOf aI k->∀p,jS k=uA p->pl k=uA p:=λk hk ht p hp=>by rw[h1 k (.inr (y6 ht))] at hp;exact hp
 refine⟨B,λk hk ht p hp s=>?_,λk hk ht p hp=>?_,λi r e=>?_,?_⟩
 .by_cases e:tieOf aI k=t
  .obtain⟨a,b,ea,eb,re,x1,x2,x3,x4⟩:=I.base.row c o hn hk e
   obtain⟨_,z1,z2⟩:=c.low o hk;have la:=I.low (c.out k hk) (by rw[<- e];exact z1) ea;have lb:=I.low (c.into k hk) (by rw[<- e];exact z2) eb;have kk:=c.knot k hk;have k2:=c.two k hk;have et:(aI.getD (k-2) (0,0,0)).1=t:=e;rcases at_ k hk e p hp with⟨i,hi,rfl⟩| ⟨w0,rfl⟩
   .have il:=(AO.mp hi).1
    have kp:Knot (aT++new) (i+2):=by unfold Knot;exact wA il
    have eg:(aT++new).getD (i+2-2) (0,0,0)=(t,a,b):=by rw[Fc,AD,hi,re];rfl
    cases s with
    | nil =>
     rw[Dd B.least.ok kp va,eg,Dd o kk k2];rw[Dh pM [] x1];exact la []
    | cons x xs =>
     rw[Bp B.least.ok kp va,eg,Bp o kk k2,et];rw[Dh pM _ x1,Dh pM _ x2,la,lb];rfl
   .rw[re] at w0
    have b0:b=0:=w0;rw[re];rw[Dh pM _ x1,la];have uf:∀s,led aI (intoOf aI k) s=false:=λs=>by rw[<- lb,b0,Cp]
    have ue:∀x xs,x<=t->led aI (outOf aI k) (x::xs)=false:=λx xs h=>by rw[<- la];exact off pM x1 (vb h x3)
    cases s with
    | nil=>rw[Dd o kk k2];rfl
    | cons x xs =>
     rw[Bp o kk k2,et];by_cases c1:x<t
     .rw[uE c1];exact ue x xs (vy c1)
     .rw[uD c1]
      by_cases c2:x=t
      .rw[uE c2]
       show _=led aI (intoOf aI k) xs;rw[uf];exact ue x xs (vt c2)
      .rw[uD c2];rfl
  .have e7:=cz k hk (vu ht e) p hp
   obtain⟨p',e1,e2,_⟩:=I.base.has k hk (vu ht e);rw[e7] at e1;cases e1;rw[Dh pM s e2];exact I.sem k hk (vu ht e) p e7 s
 .rw[Vd c o h1 hk ht]
  by_cases e:tieOf aI k=t
  .rcases at_ k hk e p hp with⟨i,hi,rfl⟩| h
   .exact .inl ⟨va,hi⟩
   .exact .inr h
  .rcases I.img k hk (vu ht e) p (cz k hk (vu ht e) p hp) with⟨h2,h3⟩| h
   .refine .inl ⟨h2,?_⟩
    rw[BC (AO.mp h3).1];exact h3
   .exact .inr h
 .rcases DC i aT.length with hi| hi
  .rw[BC hi] at e
   obtain⟨k,hk,ht,hp⟩:=I.sur i r e;exact⟨k,hk,u7 ht,by rw[h1 k (.inr (y6 ht))];exact hp⟩
  .have e':=e
   rw[CB hi] at e';obtain⟨k,hk,ht,rfl,w0⟩:=hw r (BI e');obtain⟨p,hp,h⟩:=h2 k hk ht;refine⟨k,hk,u6 ht,?_⟩;rcases h with⟨j,hj,rfl⟩| ⟨nm,_⟩
   .rw[B.least.one i j _ e hj]
    exact hp
   .exact uI (BI e) nm
 .refine C6.mpr ⟨I.srt,so,λa ha b hb=>.inl ?_⟩
  have:=I.base.ge a ha;obtain⟨k,_,hk,rfl,_⟩:=hw b hb;show tieOf aI k<a.1;lia
structure Canon(n:Nat)(aT:List Row)(top:Nat):Prop where
 least:Least n aT
 srt:aT.Pairwise RowLt
 knot:Knot aT top
 led:∀p,2<=p->Knot aT p->p=top\/∃r∈aT,r.2.1=p\/r.2.2=p
theorem Kept2.canon(I:Kept2 n 0 aI rc aT pl)(c:Closed aI rc)(o:Ok n aI){top:Nat}(ht:top<=1\/top∈rc)(hp:pl top=uA hd)(par:∀k∈rc,k=top\/∃k'∈rc,k<k'/\(outOf aI k'=k\/intoOf aI k'=k)) :
  Canon n aT hd/\∀s,led aT hd s=led aI top s:=by
 have key:∀d k p,k∈rc->aI.length+2-k<=d->pl k=uA p->2<=p->p=hd\/∃r∈aT,r.2.1=p\/r.2.2=p:=by
  intro d
  induction d with
  | zero =>
   intro k p hk eW _ _;have:=c.knot k hk;unfold Knot at this;lia
  | succ d ih =>
   intro k p hk eW qg p2;rcases par k hk with rfl| ⟨k',bu,lt,ch⟩
   .rw[hp] at qg
    exact .inl (BO qg).symm
   .obtain⟨p',e7,_⟩:=I.base.has k' bu (A7 _)
    have im:=I.img k' bu (A7 _) p' e7;rcases ch with e| e
    .have ep:(rowIn aI pl k').2.1=p:=by
      show(pl (outOf aI k')).getD 0=p;rw[e,qg];rfl
     rcases im with⟨_,h3⟩| ⟨_,h4⟩
     .exact .inr ⟨_,BI h3,.inl ep⟩
     .rw[ep] at h4
      subst h4;have:=c.knot k' bu;unfold Knot at this;exact ih k' p' bu (y8 eW lt) e7 p2
    .have ep:(rowIn aI pl k').2.2=p:=by
      show(pl (intoOf aI k')).getD 0=p;rw[e,qg];rfl
     rcases im with⟨_,h3⟩| ⟨h4,_⟩
     .exact .inr ⟨_,BI h3,.inr ep⟩
     ·lia
 refine⟨⟨I.base.least,I.srt,?_,λp p2 kp=>?_⟩,λs=>?_⟩
 .rcases ht with h| h
  .have:top=0\/top=1:=v9 h
   rcases this with rfl| rfl
   .rw[I.base.z] at hp;cases hp;unfold Knot;exact ww
   .rw[I.base.o] at hp;cases hp;unfold Knot;exact wG
  .obtain⟨p,e,kn,_⟩:=I.base.has top h (A7 _)
   rw[hp] at e;cases e;exact kn
 .obtain⟨k,hk,_,qg⟩:=I.sur (p-2) _ (Bm kp p2)
  rw[show p-2+2=p from wM p2] at qg;exact key _ k p hk (AF _) qg p2
 .rcases ht with h| h
  .have:top=0\/top=1:=v9 h
   rcases this with rfl| rfl
   .rw[I.base.z] at hp;cases hp;rw[Cp,Cp]
   .rw[I.base.o] at hp;cases hp;rw[DW,DW]
  .exact I.sem top h (A7 _) hd hp s
end
section
variable{A B:List Row}{a b k k':Nat}
theorem Ma(L:Least n A):∀(f k:Nat),k<f->Knot A k->k≠0->∃s,Way n A k s/\(2<=k->∃xs,s=rank n A k::xs)/\(k=1->s=[])
 | 0,k,h,_,_=>by lia
 | f+1,k,h,kn,k0=>by
  rcases DC k 2 with c| c
  .have e:k=1:=by lia
   subst e;exact⟨[],ADv,λz=>by lia,λ_=>rfl⟩
  .obtain⟨_,_,h3,_,_,_,k2⟩:=L.ok.low (Bm kn c)
   have w0:=L.pos _ _ (Bm kn c);obtain⟨s,hs,_⟩:=Ma L f _ (w4 h3 h c) k2 w0;refine⟨_,ABn L kn c hs,λ_=>⟨s,?_⟩,λz=>by lia⟩;unfold rank;rw[uD (v8 c)]
structure Sim(A B:List Row)(k k':Nat):Prop where
 ka:Knot A k
 kb:Knot B k'
 eq:∀s,led A k s=led B k' s
theorem Sim.symm(S:Sim A B k k'):Sim B A k' k:=⟨S.kb,S.ka,λs=>(S.eq s).symm⟩
theorem Sim.no(LA:Least n A)(LB:Least n B)(S:Sim A B k k'):¬ rank n A k<rank n B k':=λh=>by
 have k0:k≠0:=λe=>by
  subst e;have:rank n B k'<=n+1:=by
   unfold rank;by_cases c:k'<2
   .rw[uE c];exact vi
   .rw[uD c]
    have:=(LB.ok.low (Bm S.kb (uR c))).1;lia
  have e:rank n A 0=n+1:=by unfold rank;rw[uE (by decide)];rfl
  lia
 obtain⟨s,⟨w1,_,_⟩,s2,s1⟩:=Ma LA _ k (E7 _) S.ka k0;rcases DC k 2 with c| c
 .have e:k=1:=by lia
  subst e;rw[s1 rfl,S.eq] at w1;have e1:rank n A 1=n:=by unfold rank;rw[uE (by decide)];rfl
  have k1:k'=0:=by
   unfold rank at h e1;rw[e1] at h;by_cases c':k'<2
   .rw[uE c'] at h;lia
   .rw[uD c'] at h
    have:=(LB.ok.low (Bm S.kb (uR c'))).1;lia
  rw[k1,Cp] at w1;cases w1
 .obtain⟨xs,rfl⟩:=s2 c
  rw[S.eq,off LB.ok S.kb h] at w1;cases w1
theorem Sim.rank_eq(LA:Least n A)(LB:Least n B)(S:Sim A B k k'):rank n A k=rank n B k':=by
 have h1:=S.no LA LB;have h2:=S.symm.no LB LA;lia
theorem Ib(L:Least n A)(kn:Knot A k):2<=k↔rank n A k<n:=by
 unfold rank;constructor
 .intro h
  rw[uD (u8 h)];exact(L.ok.low (Bm kn h)).1
 .intro h
  rcases DC k 2 with c| c
  .rw[uE c] at h;lia
  .exact c
theorem Sim.small(LA:Least n A)(LB:Least n B)(S:Sim A B k k')(h:k<=1):k=k':=by
 have e:=S.rank_eq LA LB;have z:=Ib LA S.ka;have z':=Ib LB S.kb;have:¬ 2<=k':=λc=>by have:=z'.mp c;rw[<- e] at this;have:=z.mpr this;exact yZ this h
 unfold rank at e;rw[uE (by lia),uE (vY this)] at e;lia
theorem Sim.child(LA:Least n A)(LB:Least n B)(S:Sim A B k k')(h:2<=k):2<=k'/\tieOf A k=tieOf B k'/\Sim A B (outOf A k) (outOf B k')/\Sim A B (intoOf A k) (intoOf B k'):=by
 have e:=S.rank_eq LA LB;have k2:=(Ib LB S.kb).mpr (by rw[<- e];exact(Ib LA S.ka).mp h);have et:tieOf A k=tieOf B k':=by
  unfold rank at e;rw[uD (u8 h),uD (u8 k2)] at e;exact e
 obtain⟨_,_,_,ra,_,ka1,ka2⟩:=LA.ok.low (Bm S.ka h);obtain⟨_,_,_,rb,_,sj,kb2⟩:=LB.ok.low (Bm S.kb k2);refine⟨k2,et,⟨ka1,sj,λs=>?_⟩,⟨ka2,kb2,λs=>?_⟩⟩
 .cases s with
  | nil =>
   have:=S.eq [];rw[Dd LA.ok S.ka h,Dd LB.ok S.kb k2] at this;exact this
  | cons x xs =>
   by_cases c:x<=tieOf A k
   .rw[show led A (outOf A k) (x::xs)=false from off LA.ok ka1 (by show x<rank n A (A.getD (k-2) (0,0,0)).2.1;unfold tieOf at c;exact vb c ra),show led B (outOf B k') (x::xs)=false from off LB.ok sj (by show x<rank n B (B.getD (k'-2) (0,0,0)).2.1;unfold tieOf at c et;lia)]
   .have:=S.eq (x::xs)
    rw[Bp LA.ok S.ka h,Bp LB.ok S.kb k2] at this;unfold tieOf at c et;rw[uD (yc c),uD (yd c),uD (by lia),uD (by lia)] at this;exact this
 .have:=S.eq (tieOf A k::s)
  rw[Bp LA.ok S.ka h,Bp LB.ok S.kb k2] at this;unfold tieOf at this et;rw[uD vM,uE rfl,uD (by lia),uE et] at this;exact this
end
def up(s:uL):uJ:=s.map λ(x:Nat)=>(x:Int)
theorem QL:∀{s u:uL},up s=up u->s=u
 | [],[],_=>rfl
 | [],_::_,h=>by cases h
 | _::_,[],h=>by cases h
 | x::s,y::u,h=>by
  have h':(x:Int)::up s=(y:Int)::up u:=h;injection h' with h1 h2
  rw[QL h2,KI h1]
theorem AAZ{aI aT:List Row}(I:Kept2 n 0 aI rc aT pl)(c:Closed aI rc):aT.length<=aI.length:=by
 have ex:∀i,i<aT.length->∃k,k∈rc/\pl k=uA (i+2):=λi hi=>by
  obtain⟨k,hk,_,e⟩:=I.sur i _ (AG hi);exact⟨k,hk,e⟩
 let g:Nat->Nat:=λi=>if h:i<aT.length then EQ (ex i h) else 0
 have hg:∀i,i<aT.length->g i∈rc/\pl (g i)=uA (i+2):=λi hi=>by
  have z:=D6 (ex i hi);show(if h:i<aT.length then EQ (ex i h) else 0)∈rc/\pl (if h:i<aT.length then EQ (ex i h) else 0)=uA (i+2);rw[dif_pos hi];exact z
 have nd:((AK aT.length).map g).Nodup:=by
  unfold OH;rw[C9];refine Ff (λ{a b} ha hb h e=>?_) (ED (n:=aT.length));have h1:=(hg a (AN.mp ha)).2;have h2:=(hg b (AN.mp hb)).2;rw[e,h2] at h1;injection h1 with h1
  lia
 have z:=ST.Bk nd (l₂:=(AK aI.length).map (·+2)) λx hx=>by
  obtain⟨i,hi,rfl⟩:=BD.mp hx;have hk:=(hg i (AN.mp hi)).1;have a:=c.two _ hk;have b:g i<aI.length+2:=c.knot _ hk;exact BD.mpr ⟨g i-2,AN.mpr (by lia),by lia⟩
 rw[AB,AB,A9,A9] at z;exact z
section
variable{t:Nat}{A aI aT:List Row}
theorem Sim.inj(L:Least n A):∀(f k k':Nat),k<f->Sim A A k k'->k=k':=by
 intro f
 induction f with
 | zero=>intro k k' h;lia
 | succ f ih =>
  intro k k' hk S;rcases DC k 2 with c| c
  .exact S.small L L (vV c)
  .obtain⟨c',et,so,si⟩:=S.child L L c
   have ra:=Bm S.ka c;have rb:=Bm S.kb c';obtain⟨_,a1,a2,_⟩:=L.ok.low ra;have e1:=ih _ _ (by show(A.getD (k-2) (0,0,0)).2.1<f;exact w4 a1 hk c) so;have e2:=ih _ _ (by show(A.getD (k-2) (0,0,0)).2.2<f;exact w4 a2 hk c) si;have er:=NC et (NC e1 e2);rw[er] at ra;have:=L.one _ _ _ ra rb;lia
theorem Xh(L:Least n A){a b:Nat}(ka:Knot A a)(kb:Knot A b)(h:∀s,led A a s=led A b s):a=b:=Sim.inj L (a+1) a b (E7 _) ⟨ka,kb,h⟩
theorem Zr{P:Nat->Prop}{top:Nat}(pt:P top)(ps:∀k,P k->2<=k->Knot aI k->P (outOf aI k)/\P (intoOf aI k))(c:Closed aI rc)(par:∀k∈rc,k=top\/∃k'∈rc,k<k'/\(outOf aI k'=k\/intoOf aI k'=k)):∀(d k:Nat),aI.length+2-k<=d->k∈rc->P k:=by
 intro d
 induction d with
 | zero=>intro k h hk;have:k<aI.length+2:=c.knot k hk;lia
 | succ d ih =>
  intro k h hk;rcases par k hk with rfl| ⟨k',bu,lt,e⟩
  .exact pt
  .have:k<aI.length+2:=c.knot k hk
   have z:=ps k' (ih k' (y8 h lt) bu) (c.two k' bu) (c.knot k' bu);rcases e with rfl| rfl
   .exact z.1
   .exact z.2
noncomputable def lowH(t:Nat):uL->Bool
 | []=>false
 | x::_=>decide (x<=t)
end
section
variable{A aI more:List Row}{k:Nat}
theorem ADj(aI:List Row)(r:Row):(aI++[r]).getD (aI.length+2-2) (0,0,0)=r:=by
 rw[Fc,AD,CB vC,J5];rfl
theorem ACd(aI:List Row)(r:Row):Knot (aI++[r]) (aI.length+2):=by
 unfold Knot;rw[BN,D5];lia
theorem AAH{t:Nat}(ks:uL)(hk:∀k∈ks,2<=k/\Knot A k/\tieOf A k=t)(nd:ks.Nodup):ks.length<=(A.filter λr=>decide (r.1=t)).length:=by
 have nX:∀i∈(ks.map (· - 2)),i<A.length/\(A.getD i (0,0,0)).1=t:=λi hi=>by
  obtain⟨k,bu,rfl⟩:=BD.mp hi;obtain⟨k2,kn,ht⟩:=hk k bu;exact⟨by unfold Knot at kn;exact v7 kn k2,ht⟩
 have nd2:(ks.map (· - 2)).Nodup:=by
  unfold OH;rw[C9];refine Ff (λ{a b} ha hb h e=>h ?_) nd;have:=(hk a ha).1;have:=(hk b hb).1;lia
 have z:=ST.Bk nd2 (l₂:=(AK A.length).filter λi=>decide ((A.getD i (0,0,0)).1=t)) λi hi=>by
  obtain⟨h1,h2⟩:=nX i hi;exact B0.mpr ⟨AN.mpr h1,uF h2⟩
 rw[AB] at z;refine BY z (J3 ?_);have e:A=(AK A.length).map λi=>A.getD i (0,0,0):=by
  apply FC;intro i;rw[AY];by_cases c:i<A.length
  .rw[EF c,AG c]
   simp[AD,c]
  .rw[EZ (uR c),EZ (by rw[A9];exact uR c)]
   rfl
 conv=>rhs;rw[e,Pw,AB]
 rfl
noncomputable def behind(aI:List Row)(t:Nat)(ks:uL):uL:=ks.filter λk=>decide (k<2)||decide (t<tieOf aI k)
end
noncomputable def addRow(S:List (List uL))(r:Row):List (List uL):=S++[S.getD r.2.1 []++(S.getD r.2.2 []).map (r.1::·)]
noncomputable def setsUp(aI:List Row):List (List uL):=aI.foldl addRow [[],[[]]]
def setsOf(aI:List Row)(k:Nat):List uL:=(setsUp aI).getD k []
theorem Gg(aI:List Row)(r:Row):setsUp (aI++[r])=addRow (setsUp aI) r:=by unfold setsUp;rw[List.foldl_append];rfl
theorem Cz:∀(aI:List Row),(setsUp aI).length=aI.length+2:=by
 intro aI
 suffices h:∀(l:List Row) (S:List (List uL)),(l.foldl addRow S).length=S.length+l.length by
  unfold setsUp;rw[h];show 2+_=_;lia
 intro l
 induction l with
 | nil=>intro S;simp
 | cons a l ih =>
  intro S;rw[MU,ih];unfold addRow;rw[BN];simp;exact vq
noncomputable def num(n:Nat):uL->Nat
 | []=>0
 | x::xs=>2 ^ (n-1-x)+num n xs
theorem Vr{n:Nat}:∀{s:uL}{t:Nat},s.Pairwise (· < ·)->(∀x∈s,t<=x/\x<n)->num n s<2 ^ (n-t)
 | [],t,_,_=>Nat.two_pow_pos _
 | x::xs,t,h,hr=>by
  obtain⟨h1,h2⟩:=CA.mp h;obtain⟨x1,x2⟩:=hr x AI;have ih:=Vr (t:=x+1) h2 λy hy=>⟨h1 y hy,(hr y (AL _ hy)).2⟩;have e:2 ^ (n-x)=2 ^ (n-1-x)+2 ^ (n-1-x):=by
   rw[show n-x=(n-1-x)+1 by lia,M3];exact wL
  have le:2 ^ (n-x)<=2 ^ (n-t):=Kn (by decide) (yh x1);have e2:n-(x+1)=n-1-x:=wB;rw[e2] at ih;show 2 ^ (n-1-x)+num n xs<_;lia
section
variable{aI:List Row}
structure InOrder(n:Nat)(aI:List Row)(k:Nat)(L:List uL):Prop where
 mem:∀s,s∈L↔led aI k s=true
 ord:L.Pairwise λs u=>num n s<num n u
 way:∀s∈L,s.Pairwise (· < ·)/\∀x∈s,rank n aI k<=x/\x<n
theorem ACH{l m:List α}{k:Nat}{d:α}(h:k<l.length):(l++m).getD k d=l.getD k d:=by
 rw[AD,AD,BC h]
theorem Vv(o:Ok n aI)(r:Row){k:Nat}(kn:Knot aI k):setsOf (aI++[r]) k=setsOf aI k:=by
 unfold setsOf;rw[Gg];unfold addRow;exact ACH (by rw[Cz];exact kn)
theorem Vp(aI:List Row)(r:Row):setsOf (aI++[r]) (aI.length+2)=setsOf aI r.2.1++(setsOf aI r.2.2).map (r.1::·):=by
 unfold setsOf;rw[Gg];unfold addRow;rw[AD,CB (by rw[Cz];exact AF _),Cz,J5];rfl
theorem InOrder.app(o:Ok n aI){r:Row}{k:Nat}(kn:Knot aI k)(I:InOrder n aI k L):InOrder n (aI++[r]) k L :=
 ⟨λs=>by rw[Dh o s kn];exact I.mem s,I.ord,λs hs=>by rw[Ln kn];exact I.way s hs⟩
theorem IV{r:Row}(o:Ok n (aI++[r])):Ok n aI:=λi q e=>by
 have il:=(AO.mp e).1;obtain⟨h1,h2,h3⟩:=o i q (by rw[BC il];exact e);have low:∀l,Low (aI++[r]) q.1 (i+2) l->Low aI q.1 (i+2) l:=λl ⟨a,b⟩=>⟨a,b.imp id λ⟨u,e,z⟩=>⟨u,by rw[BC (by lia)] at e;exact e,z⟩⟩;exact⟨h1,low _ h2,low _ h3⟩
theorem Ge:∀(m:Nat) (aI:List Row),aI.length=m->Ok n aI->∀k,Knot aI k->InOrder n aI k (setsOf aI k):=by
 intro m
 induction m with
 | zero =>
  intro aI h o k kn;have e:=G4.mp h;subst e;have:k=0\/k=1:=by unfold Knot at kn;simp at kn;exact wa kn
  rcases this with rfl| rfl
  .refine⟨λs=>?_,.nil,λs hs=>by cases hs⟩
   rw[Cp];exact⟨λh=>(by cases h),λh=>(by cases h)⟩
  .refine⟨λs=>?_,LL _ _,λs hs=>?_⟩
   .rw[DW,decide_eq_true_iff]
    exact Bi
   .rw[Bi.mp hs]
    exact⟨.nil,λx hx=>by cases hx⟩
 | succ m ih =>
  intro aI h o k kn;have ne:aI≠[]:=λe=>by rw[e] at h;cases h
  obtain⟨init,r,rfl⟩:∃init r,aI=init++[r]:=⟨aI.dropLast,aI.getLast ne,(List.dropLast_concat_getLast ne).symm⟩;have hl:init.length=m:=by simpa using h
  have oi:=IV o;have I:=ih init hl oi;by_cases c:k<init.length+2
  .rw[Vv oi r c]
   exact(I k c).app oi c
  .have ek:k=init.length+2:=by unfold Knot at kn;simp at kn;lia
   subst ek;have hi:(init++[r])[init.length]?=uA r:=by simp
   obtain⟨t1,l1,l2,r1,r2,_,_⟩:=o.low hi;have kn1:=l1;have kn2:=l2;have I1:=(I _ kn1).app (r:=r) oi kn1;have I2:=(I _ kn2).app (r:=r) oi kn2;have eg:(init++[r]).getD (init.length+2-2) (0,0,0)=r:=by rw[Fc,AD,hi];rfl
   have rk:rank n (init++[r]) (init.length+2)=r.1:=by unfold rank;rw[uD yj,eg]
   rw[Vp];refine⟨λs=>?_,?_,λs hs=>?_⟩
   .rw[B8,BD]
    cases s with
    | nil =>
     rw[Dd o kn va,eg,I1.mem];exact⟨λh=>h.elim id λ⟨u,_,e⟩=>(by cases e),.inl⟩
    | cons x xs =>
     rw[Bp o kn va,eg,I1.mem];by_cases c1:x<r.1
     .rw[uE c1]
      refine⟨λh=>?_,λh=>by cases h⟩;rcases h with h| ⟨u,_,e⟩
      .rw[off o (Gz kn1) (uV c1 r1)] at h;exact h
      .injection e with e _;lia
     .rw[uD c1]
      by_cases c2:x=r.1
      .rw[uE c2]
       subst c2;refine⟨λh=>?_,λh=>.inr ⟨xs,(I2.mem xs).mpr h,rfl⟩⟩;rcases h with h| ⟨u,hu,e⟩
       .rw[off o (Gz kn1) r1] at h;cases h
       .injection e with _ e
        rw[<- e];exact(I2.mem u).mp hu
      .rw[uD c2]
       refine⟨λh=>h.elim id λ⟨u,_,e⟩=>(by injection e with e _;lia),.inl⟩
   .refine C6.mpr ⟨I1.ord,?_,λs hs u hu=>?_⟩
    .rw[C9]
     exact I2.ord.imp λ{a b} h=>by show 2 ^ _+_<2 ^ _+_;exact yk h
    .obtain⟨v,hv,rfl⟩:=BD.mp hu
     obtain⟨w1,w2⟩:=I1.way s hs;have:=Vr (n:=n) (t:=r.1+1) w1 λx hx=>⟨by have:=(w2 x hx).1;lia,(w2 x hx).2⟩;rw[show n-(r.1+1)=n-1-r.1 from wB] at this;show _<2 ^ (n-1-r.1)+_;exact vg this
   .rw[rk]
    rcases B8.mp hs with hs| hs
    .obtain⟨w1,w2⟩:=I1.way s hs
     exact⟨w1,λx hx=>⟨by have:=(w2 x hx).1;exact wO r1 this,(w2 x hx).2⟩⟩
    .obtain⟨v,hv,rfl⟩:=BD.mp hs
     obtain⟨w1,w2⟩:=I2.way v hv;refine⟨.cons (λx hx=>by have:=(w2 x hx).1;exact uP r2 this) w1,λx hx=>?_⟩;rcases AS.mp hx with rfl| hx
     .exact⟨AF _,t1⟩
     .exact⟨by have:=(w2 x hx).1;exact wO r2 this,(w2 x hx).2⟩
noncomputable def hasW(aI:List Row):Nat->Nat->uJ->Bool
 | 0,_,_=>false
 | f+1,k,s=>if k<=1 then decide (k=1/\s=[]) else
  match s with
  | []=>hasW aI f (aI.getD (k-2) (0,0,0)).2.1 []
  | x::xs=>if x=((aI.getD (k-2) (0,0,0)).1:Int) then hasW aI f (aI.getD (k-2) (0,0,0)).2.2 xs else hasW aI f (aI.getD (k-2) (0,0,0)).2.1 (x::xs)
theorem Mq(o:Ok n aI):∀(f k:Nat) (s:uJ),k<f->Knot aI k->(hasW aI f k s=true↔∃u:uL,s=up u/\led aI k u=true):=by
 intro f
 induction f with
 | zero=>intro k s h;lia
 | succ f ih =>
  intro k s hk kn;unfold hasW;by_cases c:k<=1
  .rw[uE c,decide_eq_true_iff]
   constructor
   .rintro⟨rfl,rfl⟩
    exact⟨[],rfl,by rw[DW];rfl⟩
   .rintro⟨u,rfl,h⟩
    have:k=0\/k=1:=v9 c;rcases this with rfl| rfl
    .rw[Cp] at h;cases h
    .rw[DW,decide_eq_true_iff] at h
     subst h;exact⟨rfl,rfl⟩
  .rw[uD c]
   obtain⟨h1,h2,h3,r1,r2,k1,k2⟩:=o.low (Bm kn (vc c));have ih1:=λs=>ih _ s (show(aI.getD (k-2) (0,0,0)).2.1<f from wd h2 hk c) k1;have ih2:=λs=>ih _ s (show(aI.getD (k-2) (0,0,0)).2.2<f from wd h3 hk c) k2;cases s with
   | nil =>
    rw[ih1];constructor
    .rintro⟨u,e,h⟩
     have:u=[]:=QL e.symm;subst this;exact⟨[],rfl,by rw[Dd o kn (vc c)];exact h⟩
    .rintro⟨u,e,h⟩
     have:u=[]:=QL e.symm;subst this;rw[Dd o kn (vc c)] at h;exact⟨[],rfl,h⟩
   | cons x xs =>
    by_cases e:x=((aI.getD (k-2) (0,0,0)).1:Int)
    .show(if x=_ then _ else _)=true↔_
     rw[uE e,ih2];constructor
     .rintro⟨u,rfl,h⟩
      refine⟨(aI.getD (k-2) (0,0,0)).1::u,by rw[e];rfl,?_⟩;rw[Bp o kn (vc c),uD vM,uE rfl];exact h
     .rintro⟨u,eu,h⟩
      cases u with
      | nil=>cases eu
      | cons y ys =>
       have tJ:x::xs=(y:Int)::up ys:=eu;injection tJ with e1 e2
       have ey:y=(aI.getD (k-2) (0,0,0)).1:=by lia
       rw[Bp o kn (vc c),uD (by lia),uE ey] at h;exact⟨ys,e2,h⟩
    .show(if x=_ then _ else _)=true↔_
     rw[uD e,ih1];constructor
     .rintro⟨u,eu,h⟩
      refine⟨u,eu,?_⟩;cases u with
      | nil=>cases eu
      | cons y ys =>
       have tJ:x::xs=(y:Int)::up ys:=eu;injection tJ with e1 e2
       have ne:y≠(aI.getD (k-2) (0,0,0)).1:=λz=>e (yl e1 z);have ge:¬ y<(aI.getD (k-2) (0,0,0)).1:=λz=>by
        rw[off o k1 (uV z r1)] at h;cases h
       rw[Bp o kn (vc c),uD ge,uD ne];exact h
     .rintro⟨u,eu,h⟩
      refine⟨u,eu,?_⟩;cases u with
      | nil=>cases eu
      | cons y ys =>
       have tJ:x::xs=(y:Int)::up ys:=eu;injection tJ with e1 e2
       have ne:y≠(aI.getD (k-2) (0,0,0)).1:=λz=>e (yl e1 z);rw[Bp o kn (vc c)] at h;by_cases c2:y<(aI.getD (k-2) (0,0,0)).1
       .rw[uE c2] at h;cases h
       .rw[uD c2,uD ne] at h;exact h
end
abbrev Sta:=uJ
section
variable{t k:Nat}{aI more:List Row}{f:uL->Bool}
structure Lead(aI:List Row)(t k:Nat)(f:uL->Bool):Prop where
 kn:Knot aI k
 up:k<=1\/t<=tieOf aI k
 eq:∀s,led aI k s=f s
theorem Lead.app(o:Ok n aI)(h:Lead aI t k f):Lead (aI++more) t k f:=by
 refine⟨Gz h.kn,?_,λs=>by rw[Dh o s h.kn,h.eq]⟩;rcases DC 1 k with c| c
 .rw[ADe h.kn c];exact h.up
 .exact .inl c
theorem Nb(h:∀s,f s=false):Lead aI t 0 f:=⟨by unfold Knot;exact ww,.inl vZ,λs=>by rw[Cp,h]⟩
theorem ABy(h:∀s,f s=decide (s=[])):Lead aI t 1 f:=⟨by unfold Knot;exact wG,.inl vC,λs=>by rw[DW,h]⟩
def Cnt(t:Nat)(more:List Row):Prop:=∀j,(more.filter λr=>decide (r.1=j)).length<=if j<t then 0 else 2 ^ (j-t)
theorem cnt_nil:Cnt t []:=λj=>A7 _
theorem ACk{m1 m2:List Row}(h1:Cnt (t+1) m1)(h2:Cnt (t+1) m2):Cnt t (m1++m2++[(t,kl,kr)]):=λj=>by
 have a:=h1 j;have b:=h2 j;rw[CD,CD,BN,BN];rcases OB j t with c| c| c
 .rw[uE (by lia)] at a b
  rw[uE c,D7 (by simp;lia)];show _+_+0<=0;lia
 .subst c
  rw[uE (by lia)] at a b;rw[uD vM,J5,EO (by simp)];show _+_+1<=1;lia
 .rw[uD (by lia)] at a b
  rw[uD (by lia),D7 (by simp;lia)];have e:2 ^ (j-t)=2 ^ (j-(t+1))+2 ^ (j-(t+1)):=by
   rw[show j-t=(j-(t+1))+1 by lia,M3];exact wL
  show _+_+0<=_;lia
end
abbrev StO:=List (Option Int)
theorem AAe(l:StO)(p q:Nat)(v:Option Int)(h:q≠p):(l.set p v).getD q uB=l.getD q uB:=by
 rw[AD,AD,F3 (CF h)]
theorem Wf(l:StO)(p:Nat)(v:Option Int):(l.set p v).getD p uB=if p<l.length then v else uB:=by
 rw[AD];by_cases c:p<l.length
 .rw[He c,uE c]
  rfl
 .rw[EZ (by rw[IZ];exact uR c),uD c]
  rfl
end G
variable{aI:List G.Row}
namespace K45
open PySem L2 G
noncomputable def onB(bs:uK)(p x:Nat):Bool:=decide ((p:Int)∈bs.getD x [])
theorem AAf(hK:X.K=K)(hc:X.calm=true):CallR X (.builtin "max") (λxs H Q=>∃(p:Addr) (ns:uJ),xs=[.ref p]/\SqL K H p (ns.map V.int)/\0<ns.length/\∀m,m∈ns->(∀a∈ns,a<=m)->Q (.int m) H):=by subst hK;exact max_list hc
theorem AAn(hK:X.K=K):OpR X (Hb .Add) (rAddL K):=by subst hK;exact YL
noncomputable def Lp(bs:uK)(p:Nat):Nat:=match (hits (p:Int) bs).getLast? with
 | none=>0
 | some x=>(x+1).toNat
theorem XJ{bs:uK}{p:Nat}{x:Int}(h:x∈hits (p:Int) bs):0<=x/\x<bs.length:=by
 obtain⟨i,t,e,_,rfl⟩:=L2.Hz.mp h;have:=(AO.mp e).1;lia
theorem AGW{bs:uK}{p:Nat}{m:Int}(h1:m∈(-1:Int)::hits (p:Int) bs)(h2:∀a∈(-1:Int)::hits (p:Int) bs,a<=m):m=(Lp bs p:Int)-1:=by
 unfold Lp;cases e:(hits (p:Int) bs).getLast? with
 | none =>
  have e':=OI.mp e;rw[e'] at h1;have:m=-1:=by simpa using h1
  rw[this];rfl
 | some x =>
  obtain⟨ne,ex⟩:=OK.mp e|> λ⟨ys,h⟩=>(⟨by rw[h];simp,by simp[h]⟩:∃ne:hits (p:Int) bs≠[],(hits (p:Int) bs).getLast ne=x)
  have xm:x∈hits (p:Int) bs:=by rw[<- ex];exact List.getLast_mem ne
  have x0:=(XJ xm).1;have:=h2 x (AL _ xm);have mx:m=x:=by
   rcases AS.mp h1 with rfl| h1
   ·lia
   .have:=RV ne (JW _ 0 bs) m h1
    lia
  dsimp only;lia
theorem AFM{bs:uK}{p x:Nat}(xl:x<bs.length)(h:onB bs p x=true):x<Lp bs p:=by
 have hm:=uH h;rw[AD,AG xl] at hm;have xm:(x:Int)∈hits (p:Int) bs:=L2.Hz.mpr ⟨x,_,AG xl,hm,by lia⟩;unfold Lp;cases e:(hits (p:Int) bs).getLast? with
 | none=>rw[OI.mp e] at xm;cases xm
 | some y =>
  obtain⟨ne,ey⟩:=OK.mp e|> λ⟨ys,h⟩=>(⟨by rw[h];simp,by simp[h]⟩:∃ne:hits (p:Int) bs≠[],(hits (p:Int) bs).getLast ne=y)
  have:=RV ne (JW _ 0 bs) x xm;dsimp only;lia
theorem AGl{bs:uK}{p:Nat}:Lp bs p<=bs.length:=by
 unfold Lp;cases e:(hits (p:Int) bs).getLast? with
 | none=>exact A7 _
 | some y =>
  have:=XJ (List.mem_of_getLast? e);dsimp only;lia
noncomputable def nI(ks:uL):List V:=ks.map λ(k:Nat)=>V.int (k:Int)
theorem Fx(ks:uL):(nI ks).length=ks.length:=by unfold nI;rw[AB]
theorem VR{ks:uL}{x:V}(h:(nI ks)[j]?=uA x):∃k:Nat,ks[j]?=uA k/\x=.int (k:Int):=by
 unfold nI at h;rw[AY] at h;cases g:ks[j]? with
 | none=>rw[g] at h;cases h
 | some k=>rw[g] at h;cases h;exact⟨k,rfl,rfl⟩
noncomputable def behP(bs:uK)(z t:Nat):uL:=(AK z).filter λp=>decide (Lp bs p=t)
def ACz(K:Au)(C:Addr):Sp:=λvs H Q _=>∃(p:Addr) (t z:Nat) (bs:uK),vs=[.ref p,.int t]/\WebAt K C H p z bs/\z<=10/\bs.length<=12/\∀(l:Addr) (H':Hp),Same H H'->H l=none->H' l=uA (.lst (nI (behP bs z t)))->Q (.ref l) H'
theorem AFn:FnScope zl5 zl5 (Ai KR):=fscp (by decide+kernel)
theorem AFI(F:Fun K "points_behind" "points_behind" KR f fd)(T:Txt K mg C)(GS:FnOk P w K mg base CX0 1 fS pZ zl3 (Ux K C))(bS:Binds K pZ zl3 [])(mS:Meth K C "size" fS)
  (GA:FnOk P w K mg base CX0 1 fA pG zl4 (AHK K C)) (bA:Binds K pG zl4 []) (mA:Meth K C "at" fA):FnOk P w K mg base CX0 2 f fd zl5 (ACz K C):=by
 refine F.ok AFn (λvs H Q E h=>?_) (λbE A outer s H vs Q E hr h=>?_)
 .obtain⟨p,t,z,bs,rfl,_⟩:=h
  rfl
 obtain⟨p,t,z,bs,rfl,hW,z10,b12,q⟩:=h;obtain⟨dx,j,hp,_⟩:=id hW;refine⟨_,Ak (Av (Ce (Ai KR) ["point"] ["number","web"] [1,0] rfl rfl (by decide+kernel) ⟨⟨rfl,by decide+kernel⟩,⟨rfl,by decide+kernel⟩,trivial⟩ (DG rfl T.range (Aa (Cm (pv 0) T.cl mS GS hr bS .nil pass0) Ad))
   (λ_ _ _=>BJ (i:=0))
   (λ_ _ _=>Cq (Ar Du (BK (AAf (K:=K) rfl rfl) rfl T.max Q3 (Aa (Aw (AAn (K:=K) rfl) (Cv (Aa (Rt Ke Ag) Ad)) (DX (pv 2) T.cl mA GA hr bA .nil pass0 (Aa (pv 0) Ad))) Ad)) (Aw Et (pv 1) Ag)))
   (λ_ _ _=>pv 0))),?_⟩
 refine⟨_,rfl,p,dx,_,rfl,hp,rfl,p,z,bs,rfl,hW,_,rfl,by lia,by lia,λZ hZ=>?_⟩;refine Er (lo:=0) (n:=(z:Int).toNat) (λj τ H2=>∃o:Option V,τ=[o,uA (.int t),uA (.ref p)]/\Same H H2/\H2 Z=uA (.lst (nI ((AK j).filter λp=>decide (Lp bs p=t))))) ⟨uB,rfl,u4 hZ _,Ab⟩ ?_ ?_
 .rintro j τ H2 hj ⟨o,rfl,s2,eZ⟩
  have ej:(0:Int)+j=(j:Int):=vI;rw[ej];refine⟨1,rfl,(by decide),λM hM=>?_⟩;have s3:=s2.trans (u4 hM (.lst [.int (-1)]));refine⟨_,rfl,p,dx,_,rfl,s3 _ _ hp,rfl,_,rfl,p,z,j,bs,rfl,hW.same s3,b12,λl H4 s4 hl el=>?_⟩;have bv:(hits (j:Int) bs).length<=bs.length:=MP _ 0 bs;have eM4:=s4 _ _ Ab;refine⟨M,l,_,_,rfl,rfl,ut eM4,ut el,C3 (BZ (by rw[AB];show 1+_<=1000;lia)),λN hN=>?_⟩;have s5:=u4 hN (.lst (V.int (-1)::(hits (j:Int) bs).map V.int));refine⟨N,(-1:Int)::hits (j:Int) bs,rfl,ut Ab,by simp,λm hm hx=>?_⟩;have e:=AGW hm hx;have s6:=(s3.trans s4).trans s5;have sG:=s5 _ _ (s4 _ _ (u4 hM _ _ _ eZ));refine⟨_,rfl,_,_,rfl,rfl,rfl,_,rfl,?_⟩;have lz:((AK j).filter λp=>decide (Lp bs p=t)).length<=j:=BY (CH ..) (by rw[A9];exact AF _);refine ite2 (λc=>?_) (λc=>?_)
  .have c':Lp bs j=t:=by
    have:=uH c;injection this with this
    lia
   refine⟨_,rfl,_,sG,BZ (by rw[Fx];lia),_,rfl,λb o e=>?_,?_⟩
   .rw[Ah (Af e hZ)]
    exact s6 b o e
   .rw[Ab,EV,CD,EO (by simpa using c')]
    unfold nI;rw[BE];rfl
  .have c':¬ Lp bs j=t:=λz=>c (uF (by rw[e,z]))
   refine⟨_,rfl,s6,?_⟩;rw[EV,CD,D7 (by simpa using c'),JI,B3];exact sG
 .rintro τ H2 ⟨o,rfl,s2,eZ⟩
  rw[Cf] at eZ;exact q Z H2 s2 hZ eZ
end K45
namespace L2
open PySem PySem.Spec PyProof.Rows
section
variable{es:Array NS}
theorem Mx(d:Addr)(hd:(d==EG)=false) :
  MeetsIn prog w (Builtin.«dict.__len__» ⟨[.ref d],[]⟩) (λ_ R s=>∃o es ep,s.heap.get? d=uA o/\o.data=.dict es ep/\R (.ok (.ret (.int es.size s.toks))) {s with toks:=s.toks+1}) :=
 .of_wp λA R s ⟨o,es,ep,ho,i7,h⟩=>by
  show wpAny _ _ (dictSize d >>= _) _ _ s;unfold dictSize;refine Ap (Ap (LV ho i7 (AC ?_)));refine Ap (wpAny_pendingCount_other hd ?_);refine VC ?_;rw[S8];exact h
theorem AEx(hd:(d==EG)=false)(hT:s.TypeIs (.ref d) "dict")(ho:s.heap.get? d=uA o)(i7:o.data=.dict es ep)(hfit:(es.size:Int)<2 ^ 63)
  (h:Q (.int es.size (s.toks+1)) {s with toks:=s.toks+1+1}):wpAny (AM prog w) A (call (.builtin "len") [.ref d]) Q E s:=by
 refine KP kind_len plain_len entry_len (args_len1 _) ?_;unfold Builtin.«len»;refine Ap (m:=oneArg "len" _) (AC ?_);refine Ap (m:=callSpecial? (.ref d) (F6 "__len__")) (wpAny_callSpecial?_slot (name:=F6 "__len__") hT Q4
  (S5 Q4 hT PySem.F.entry_dict_len (PySem.F.args_dict_len_1 _) (Mx d hd) ⟨o,es,ep,ho,i7,?_⟩))
 refine Ap (D8 (AC ?_));refine Ap (T9 ?_);rw[uD wt];rw[uD (by lia)];exact Ap (wpAny_mkInt (AC ⟨_,rfl,h⟩))
end
theorem UW:CallR X (.builtin "len") (λxs H Q=>∃p bb,xs=[.ref p]/\H p=uA (.dT bb)/\Q (.int bb.length) H):=by
 intro aS s σ H xs us Q I rr h;obtain⟨p,bb,rfl,hp,q⟩:=h;obtain⟨u,rfl,ru⟩:=rr.one;cases ru;obtain⟨z,lo,ts,kt,o,es,ep,h1,h2,h3,h4,h5⟩:=(I.hok p _ hp);have hl:es.size=bb.length:=by
  rw[<- A2,h4,AB];exact(AZ kt).symm
 refine AEx lo ⟨o,h1,h2.1⟩ h1 h3 (by rw[hl];rw[FY] at z;lia) ?_;exact⟨.int bb.length,H,I.tok _,⟨_,by rw[hl]⟩,q⟩
def Itd(lo:Int)(n:Nat):It:=⟨λi _=>i<n,λi H x H'=>H'=H/\x=.int (lo-i),λi _=>n<=i⟩
theorem Zt(it:Addr)(lo:Int)(n:Nat):Turn P w K tg (Itd lo n) [it] it (λi h=>IsRangeIter h it (lo+(i:Nat)*(-1)) ((n:Int)-(i:Nat)) (-1)) where
 mem:=by simp
 obj:=λi h st b hb=>by
  have e:b=it:=by simpa using hb
  subst e;exact⟨_,st,λv z=>by
   have z':=z;cases z'⟩
 keep:=λi h h' st k=>k it (by simp) _ st
 item:=by
  intro X hP hw hK hc i aS s σ H E I hf st hg;subst hP hw hK;obtain⟨f0,f1,f2,f3,f4,f5⟩:=hf it (by simp);have W:=ZO (prog:=X.prog) (w:=X.w) (I.ok.hd hc) it lo (-1) n;refine W.item i s _ _ hg st λv h' tk hv bh kk=>?_;obtain⟨t,rfl⟩:=hv;have I1:Inv X aS σ H {s with heap:=h',toks:=tk}:=I.turned (λb o hb e=>kk b o (by simpa using hb) e) f0 f1 f3 f4 f5;refine⟨_,rfl,Xw (s:={s with heap:=h',toks:=tk}) (n:="range_iterator") bh rfl rfl (by decide) ⟨.int (lo-i),H,I1,⟨t,?_⟩,⟨rfl,rfl⟩,bh,λb hb=>(hf b hb).1⟩⟩
  congr 1
  lia
 done:=by
  intro X hP hw hK hc i aS s σ H E I hf st hg;subst hP hw hK;obtain⟨f0,f1,f2,f3,f4,f5⟩:=hf it (by simp);exact PH (I.ok.hd hc) st (by have:n<=i:=hg;exact yq this) λh' eb=>⟨rfl,I.turned (t':=s.toks) (λb o hb e=>eb b o hb e) f0 f1 f3 f4 f5⟩
 self:=λ_ _ _ _ _ st h=>PM st h
theorem rangeSize_down(a b:Int):Fs a b (-1)=if b<a then a-b else 0:=by
 unfold Fs;simp only[show ¬ ((-1:Int)>0) by decide,if_false];split
 .rw[show(- -1:Int)=1 from rfl,Int.ediv_one];lia
 .rfl
theorem small_down{a b:Int}(ha:-(2 ^ 62)<=a)(ha':a<2 ^ 62)(hb:-(2 ^ 62)<=b)(rm:b<2 ^ 62):KO a b (-1)=true:=by
 unfold KO;rw[rangeSize_down];simp only[WP,EB,VI,decide_eq_true_eq,beq_iff_eq,show ¬ ((-1:Int)>0) by decide,if_false];split<;>lia
theorem Zj{R:It->Hp->Prop}{t u v:Tok}(I:Inv X aS σ H s)(h1:-(2 ^ 62)<=lo)(h2:lo<2 ^ 62)(h3:-(2 ^ 62)<=hi)(h4:hi<2 ^ 62)
  (q:R (Itd lo (lo-hi).toNat) H):wpAny (AM X.prog X.w) X.A (Qr (.ref s.heap.objs.size)) (PIE X aS σ tg R) E {s with heap:=s.heap.push {cls:=.type "range",data:=.fields #[.int lo t,.int hi u,.int (-1) v]},toks:=tk}:=by
 refine SL (ZT ..) (small_down h1 h2 h3 h4) ?_;have I1:Inv X aS σ H {s with heap:=s.heap.push {cls:=.type "range",data:=.fields #[.int lo t,.int hi u,.int (-1) v]},toks:=tk}:=I.kept λb o e=>AH _ e;refine⟨(s.heap.push {cls:=.type "range",data:=.fields #[.int lo t,.int hi u,.int (-1) v]}).objs.size,[(s.heap.push {cls:=.type "range",data:=.fields #[.int lo t,.int hi u,.int (-1) v]}).objs.size],_,_,H,rfl,
  I1.kept (t':=tk) λb o e=>AH _ e,Zt _ lo (lo-hi).toNat,?_,λb hb=>?_,q⟩
 .have e1:lo+((0:Nat):Int)*(-1)=lo:=by simp
  have e2:(((lo-hi).toNat:Nat):Int)-((0:Nat):Int)=Fs lo hi (-1):=by rw[rangeSize_down];split<;>lia
  rw[e1,e2];exact AT _ rfl
 .have e:b=(s.heap.push {cls:=.type "range",data:=.fields #[.int lo t,.int hi u,.int (-1) v]}).objs.size:=by simpa using hb
  subst e;exact I1.fpOk (AF _) (I1.hok.fresh (AF _))
def AHD(ta:TA):TI:=λσ H R=>ta σ H λvs H1=>∃i j:Int,vs=[.int i,.int j,.int (-1)]/\(-(2 ^ 62)<=i/\i<2 ^ 62/\-(2 ^ 62)<=j/\j<2 ^ 62)/\R (Itd i (i-j).toNat) H1
theorem Ni{a b:Expr}{ta:TA}{p:Pos}(hg:Gl X "range")(hm:X.mg "range" = uB)(ha:PA X [a,b,c] ta)(hs:autoParam (BQ [a,b,c] X.env=[(false,eval a X.env),(false,eval b X.env),(false,eval c X.env)]) zA0._auto_1)(pV:autoParam (BQ [b,c] X.env=[(false,eval b X.env),(false,eval c X.env)]) zA0._auto_1) :
  PI X tg (.Call (.Name "range" p) [a,b,c] [] pos) (AHD ta):=by
 intro aS s σ H R I h;refine Xt (Dt I hg hm LM (DB (thn (ha pos aS s σ H _ I h) λus s1 ⟨vs,H1,I1,r1,q1⟩=>?_) (by rw[hs,pV]) (by rw[pV];rfl)));obtain⟨i,j,e,⟨q1,q2,q3,q4⟩,q⟩:=q1;subst e;cases r1 with
 | cons r rr =>
  cases rr with
  | cons r' rr =>
   cases rr with
   | cons r'' rr =>
    cases rr;obtain⟨t,rfl⟩:=r;obtain⟨t',rfl⟩:=r';obtain⟨t'',rfl⟩:=r'';exact call_range_3 (by decide) (Zj I1 q1 q2 q3 q4 q) (.inl (PO (by decide)))
theorem Rv{g:TG}{D:Ends}(Pv:Nat->St->Hp->Prop)(h0:Pv 0 σ H)
  (hs:∀i σ H,i<n->Pv i σ H->g (.int (lo-i)) σ H λσ2 H2=>tb {D with nx:=Pv (i+1),ct:=Pv (i+1),bk:=D.nx} σ2 H2) (hd:∀σ H,Pv n σ H->D.nx σ H) :
  ∃W:Nat->Nat->St->Hp->Prop,(∃m,W 0 m σ H)/\∀i m σ H,W i m σ H ->
   ((Itd lo n).stop i H/\D.nx σ H)\/((Itd lo n).go i H/\∃N:St->Hp->Prop,(∀σ' H',N σ' H'->∃m',m'<m/\W (i+1) m' σ' H')/\∀x H',(Itd lo n).yld i H x H'->g x σ H' λσ2 H2=>tb {D with nx:=N,ct:=N,bk:=D.nx} σ2 H2):=by
 refine⟨λi m σ H=>m=n-i/\i<=n/\Pv i σ H,⟨n,by simp,A7 _,h0⟩,?_⟩;rintro i m σ H ⟨rfl,hi,p⟩;by_cases dk:i<n
 .refine .inr ⟨dk,Pv (i+1),λσ' H' p'=>⟨n-(i+1),vN dk,rfl,dk,p'⟩,λx H' y=>?_⟩
  obtain⟨e,y⟩:=y;subst e y;exact hs i σ _ dk p
 .have e:i=n:=vB hi dk
  subst e;exact .inl ⟨AF _,hd σ H p⟩
end L2
namespace L2
theorem smallN(h:n<=100000):n<PySem.sizeLine:=EL h (by decide)
end L2
namespace K45s
open PySem L2 G
noncomputable def top(i:Nat):Stmt:=HM.main.body.getD i (.Pass ⟨0,0,0,0⟩)
abbrev XM:Stmt:=top 41
abbrev Lh:Stmt:=top 44
abbrev QW:Stmt:=top 45
abbrev sIn:Stmt:=top 46
abbrev Lb:Stmt:=inClass (top 40) 0
abbrev Vh:Stmt:=inClass (top 40) 2
abbrev AFo:Stmt:=inClass (top 40) 3
abbrev AGZ:Stmt:=top 42
theorem ra:¬ (("amount" : Str) = "rows"):=by decide+kernel
theorem ha:¬ (("amount" : Str) = "head"):=by decide+kernel
theorem hr':¬ (("rows" : Str) = "head"):=by decide+kernel
noncomputable def flds(z:Int)(j:Addr)(h:Int):List (Str×V):=putF "head" (.int h) (putF "rows" (.ref j) (putF "amount" (.int z) []))
theorem Jk(z:Int)(j:Addr)(h:Int):(flds z j h).lookup ("amount" : Str)=uA (.int z):=by
 unfold flds;rw[Aj,uD ha,Aj,uD ra,Aj,uE rfl]
theorem ZK(z:Int)(j:Addr)(h:Int):(flds z j h).lookup ("rows" : Str)=uA (.ref j):=by
 unfold flds;rw[Aj,uD hr',Aj,uE rfl]
structure Txt(K:Au)(mg:Str->Option As)(C:Addr):Prop where
 cl:Cls K C
 nA:NoAttr K C "amount"
 nR:NoAttr K C "rows"
 nH:NoAttr K C "head"
 mgC:mg "Sieve" = uA (.ref C)
 len:mg "len" = uB
 range:mg "range" = uB
 int:mg "int" = uB
 sorted:mg "sorted" = uB
 set:mg "set" = uB
 tuple:mg "tuple" = uB
 list:mg "list" = uB
 bool:mg "bool" = uB
 enum:mg "enumerate" = uB
 all:mg "all" = uB
 isi:mg "isinstance" = uB
 min:mg "min" = uB
 rev:mg "reversed" = uB
def rRow(K:Au):Rep Row:=λH r v=>∃p,v=.ref p/\SqT K H p [.int r.1,.int r.2.1,.int r.2.2]
theorem Ci:TRep (rRow K):=λH H' r v t ⟨p,a,b⟩=>⟨p,a,t.seq b⟩
def SvAt(K:Au)(C:Addr)(H:Hp)(p:Addr)(z:Int)(aI:List Row)(h:Int):Prop:=∃dx j,H p=uA (.ins C dx (flds z j h))/\rTup K (rRow K) H aI (.ref j)
theorem SvAt.same{z hd:Int}{aI:List Row}(h:SvAt K C H p z aI hd)(e:Same H H'):SvAt K C H' p z aI hd:=by
 obtain⟨dx,j,h1,h2⟩:=h;exact⟨dx,j,e _ _ h1,Ao Ci _ _ _ _ e.ts h2⟩
def LR(K:Au)(C:Addr):Sp:=λvs H Q _=>∃(p dx l:Addr) (z h:Int) (xs:List V) (aI:List Row),vs=[.ref p,.int z,.ref l,.int h]/\H p=uA (.ins C dx [])/\SqL K H l xs/\A1 (rRow K H) aI xs /\
 ∀(H':Hp),(∀b o,H b=uA o->b≠p->H' b=uA o)->SvAt K C H' p z aI h->Q .non H'
def ACJ(K:Au)(C:Addr):Sp:=λvs H Q _=>∃(p:Addr) (z h:Int) (aI:List Row),vs=[.ref p]/\SvAt K C H p z aI h/\Q (.int h) H
def RZ(K:Au)(C:Addr):Sp:=λvs H Q _=>∃(p:Addr) (z h:Int) (aI:List Row),vs=[.ref p]/\SvAt K C H p z aI h/\∀(l:Addr) (ys:List V) (H':Hp),Same H H'->H l=none->H' l=uA (.lst ys)->A1 (rRow K H') aI ys->Q (.ref l) H'
theorem AEr:FnScope zl3 zl3 (Ai Vh):=fscp (by decide+kernel)
theorem ACV(F:Fun K "knots" "Sieve.knots" Vh f fd)(T:Txt K mg C):FnOk P w K mg base CX0 1 f fd zl3 (RZ K C):=by
 refine F.ok AEr (λvs H Q E h=>?_) (λbE A outer s H vs Q E hr h=>?_)
 .obtain⟨p,z,hd,aI,rfl,_⟩:=h
  rfl
 obtain⟨p,z,hd,aI,rfl,⟨dx,j,hP,j',xs,ej,hj,pj⟩,q⟩:=h;cases ej;refine⟨_,Ak (Av (BL JB rfl T.list JY (Aa (Br (pv 0) rfl) Ad))),?_⟩;refine⟨_,rfl,p,C,dx,_,_,rfl,hP,T.cl,T.nR,ZK _ _ _,j,xs,rfl,.inr hj,λl hl=>?_⟩;refine q l xs _ (u4 hl _) hl Ab ?_;exact Paired.imp (λa b=>Ci H _ a b (TSm.new hl)) pj
theorem Zo(z:Int)(j:Addr)(h:Int):(flds z j h).lookup ("head" : Str)=uA (.int h):=by
 unfold flds;rw[Aj,uE rfl]
theorem AGy:FnScope zl3 zl3 (Ai AFo):=fscp (by decide+kernel)
theorem AGF(F:Fun K "top" "Sieve.top" AFo f fd)(T:Txt K mg C):FnOk P w K mg base CX0 1 f fd zl3 (ACJ K C):=by
 refine F.ok AGy (λvs H Q E h=>?_) (λbE A outer s H vs Q E hr h=>?_)
 .obtain⟨p,z,hd,aI,rfl,_⟩:=h
  rfl
 obtain⟨p,z,hd,aI,rfl,⟨dx,j,hP,hj⟩,q⟩:=h;refine⟨_,Ak (Av (Br (pv 0) rfl)),?_⟩;exact⟨_,rfl,p,C,dx,_,_,rfl,hP,T.cl,T.nH,Zo _ _ _,q⟩
theorem Wm:FnScope zl6 zl6 (Ai Lb):=fscp (by decide+kernel)
theorem IV(F:Fun K "__init__" "Sieve.__init__" Lb f fd)(T:Txt K mg C):FnOk P w K mg base CX0 1 f fd zl6 (LR K C):=by
 refine F.ok Wm (λvs H Q E h=>?_) (λbE A outer s H vs Q E hr h=>?_)
 .obtain⟨p,dx,l,z,h,xs,aI,rfl,_⟩:=h
  rfl
 obtain⟨p,dx,l,z,h,xs,aI,rfl,hP,hS,pa,q⟩:=h;refine⟨_,Ae (DP (pv 0) (pv 1) rfl)
  (Ae (DP (pv 0) (BL BW rfl T.tuple Cc (Aa (pv 2) Ad)) rfl)
  (Ak (DP (pv 0) (pv 3) rfl))),?_⟩
 have sl:∀{H:Hp}{fs gs:List (Str×V)}{a:Addr}{zs:List V},H p=uA (.ins C dx fs)->SqL K H a zs->SqL K (upd H p (.ins C dx gs)) a zs:=λ{H fs gs a zs} hP h=>by
  rcases h with(h| ⟨o,h⟩)| h
  .exact .inl (.inl (by rw[Ah (Ck h hP (by intro z;cases z))];exact h))
  .exact .inl (.inr ⟨o,by rw[Ah (Ck h hP (by intro z;cases z))];exact h⟩)
  .exact .inr h
 have ts:∀{H:Hp}{fs gs:List (Str×V)},H p=uA (.ins C dx fs)->TSm H (upd H p (.ins C dx gs)):=λ{H fs gs} hP b u hb t=>by
  rw[Ah ?_]
  .exact hb
  .rintro rfl
   rw[hP] at hb;cases hb;obtain⟨ys,e| ⟨o,e⟩⟩:=t
   .cases e
   .cases e
 refine⟨_,rfl,_,rfl,p,C,dx,[],rfl,hP,T.cl,T.nA,(by decide),?_⟩;refine⟨_,rfl,l,xs,rfl,.inl ⟨sl hP hS,λj hj=>?_⟩⟩;have jp:p≠j:=λe=>by rw[<- e,Ab] at hj;cases hj
 have hP2:(upd (upd H p (.ins C dx (putF "amount" (.int z) []))) j (.tup xs)) p=uA (.ins C dx (putF "amount" (.int z) [])):=by rw[Ah jp,Ab]
 have t2:=ts (gs:=putF "rows" (.ref j) (putF "amount" (.int z) [])) hP2;refine⟨_,rfl,p,C,dx,_,rfl,hP2,T.cl,T.nR,(by show 1<1000;decide),?_⟩;have t3:=ts (H:=upd (upd (upd H p (.ins C dx (putF "amount" (.int z) []))) j (.tup xs)) p (.ins C dx (putF "rows" (.ref j) (putF "amount" (.int z) [])))) (gs:=flds z j h) Ab;refine⟨_,rfl,_,rfl,p,C,dx,_,rfl,Ab,T.cl,T.nH,(by show 2<1000;decide),?_⟩;refine q _ (λb o e hb=>?_) ⟨dx,j,Ab,j,xs,rfl,t3.seq (t2.seq (uu Ab)),?_⟩
 .rw[Ah hb,Ah hb,Ah ?_,Ah hb]
  .exact e
  .rintro rfl
   rw[Ah hb,e] at hj;cases hj
 .exact Paired.imp (λa b r=>Ci _ _ _ _ t3 (Ci _ _ _ _ t2 (Ci _ _ _ _ (TSm.new hj) (Ci _ _ _ _ (ts hP) r)))) pa
abbrev Sq(K:Au)(H:Hp)(l:Addr)(xs:List V):Prop:=SqL K H l xs\/SqT K H l xs
theorem Sq.same(h:Sq K H l xs)(e:Same H H'):Sq K H' l xs:=h.elim (λz=>.inl (e.seq z)) λz=>.inr (e.ts.seq z)
def rIxA(K:Au):R2:=λx y H Q=>rIxL K x y H Q\/rIxT K x y H Q
theorem Ft:IxR X (rIxA X.K):=by
 intro bq cm aS s σ H x y v u Q I rx ry h hs;rcases h with h| h
 .exact Bf bq cm aS s σ H x y v u Q I rx ry h hs
 .exact Ay bq cm aS s σ H x y v u Q I rx ry h hs
theorem QX(hK:X.K=K):IxR X (rIxA K):=by subst hK;exact Ft
theorem ixA{i:Int}{Q:VK}(h:Sq K H p xs)(e:atI xs i=uA v)(q:Q v H):rIxA K (.ref p) (.int i) H Q :=
 h.elim (λz=>.inl ⟨p,_,i,_,rfl,rfl,z,e,q⟩) λz=>.inr ⟨p,_,i,_,rfl,rfl,z,e,q⟩
def rRowA(K:Au)(H:Hp)(r:Row)(v:V):Prop:=∃p,v=.ref p/\Sq K H p [.int r.1,.int r.2.1,.int r.2.2]
theorem Yy{r:Row}(e:Same H H')(h:rRowA K H r v):rRowA K H' r v:=let ⟨p,a,b⟩:=h;⟨p,a,b.same e⟩
def RowsAt(K:Au)(H:Hp)(l:Addr)(aI:List Row):Prop:=∃xs,Sq K H l xs/\A1 (rRowA K H) aI xs
theorem RowsAt.same{aI:List Row}(h:RowsAt K H l aI)(e:Same H H'):RowsAt K H' l aI:=let ⟨xs,a,b⟩:=h;⟨xs,a.same e,Paired.imp (λ_ _ r=>Yy e r) b⟩
theorem RowsAt.of{aI:List Row}(h:rLst K (rRow K) H aI (.ref l)):RowsAt K H l aI:=by
 obtain⟨l',xs,e,hS,pa⟩:=h;cases e;exact⟨xs,.inl hS,Paired.imp (λ_ _ ⟨p,a,b⟩=>⟨p,a,.inr b⟩) pa⟩
noncomputable abbrev iN(s:uL):List V:=s.map λ(x:Nat)=>V.int (x:Int)
theorem Qx{aI:List Row}{k:Nat}(h:RowsAt K H l aI)(kn:Knot aI k)(h2:2<=k) :
  ∃xs p,Sq K H l xs/\atI xs ((k:Int)-2)=uA (.ref p)/\Sq K H p [.int (aI.getD (k-2) (0,0,0)).1,.int (aI.getD (k-2) (0,0,0)).2.1,.int (aI.getD (k-2) (0,0,0)).2.2]:=by
 obtain⟨xs,hS,pa⟩:=h;obtain⟨v,hv,p,rfl,hp⟩:=uj pa (Bm kn h2);exact⟨xs,p,hS,by rw[show(k:Int)-2=((k-2:Nat):Int) from xS h2];exact Bg hv,hp⟩
theorem ABa{aI:List Row}{k:Nat}(h:rLst K (rRow K) H aI (.ref l))(kn:Knot aI k)(h2:2<=k) :
  ∃xs p,SqL K H l xs/\atI xs ((k:Int)-2)=uA (.ref p)/\SqT K H p [.int (aI.getD (k-2) (0,0,0)).1,.int (aI.getD (k-2) (0,0,0)).2.1,.int (aI.getD (k-2) (0,0,0)).2.2]:=by
 obtain⟨l',xs,e,hS,pa⟩:=h;cases e;obtain⟨v,hv,p,rfl,hp⟩:=uj pa (Bm kn h2);exact⟨xs,p,hS,by rw[show(k:Int)-2=((k-2:Nat):Int) from xS h2];exact Bg hv,hp⟩
theorem at0{a b c:V}:atI [a,b,c] 0=uA a:=rfl
theorem at1{a b c:V}:atI [a,b,c] 1=uA b:=rfl
theorem at2{a b c:V}:atI [a,b,c] 2=uA c:=rfl
structure Ex(K:Au)(mg:Str->Option As)(x:Str)(c:Addr):Prop where
 m:mg x=uA (.ref c)
 ex:KF K c [.type "ValueError",.type "Exception",.type "BaseException",.type "object"] "ValueError.__new__" = true
noncomputable def lay(aI:List Row)(t:Nat)(rc:uL)(j:Nat):uL:=(rc.take j).filter λk=>decide (tieOf aI k=t)
theorem Uk{aI:List Row}{t:Nat}{k:Nat}(h:rc[j]?=uA k):lay aI t rc (j+1)=lay aI t rc j++if tieOf aI k=t then [k] else []:=by
 unfold lay;rw[CC,h,CD];by_cases c:tieOf aI k=t
 .simp[c]
 .simp[c]
theorem Ik{aI:List Row}{t:Nat}{k:Nat}:k∈lay aI t rc rc.length↔k∈rc/\tieOf aI k=t:=by
 unfold lay;rw[CO,B0];simp
theorem JN(h:n<=20000):n<sizeLine:=EL h (by decide)
def has(bb:List (Key×V))(k:Nat):Prop:=(valV bb (.inl (k:Int))).isSome=true
theorem has_put{bb:List (Key×V)}{a k:Nat}:has (putK bb (.inl (a:Int)) v) k↔k=a\/has bb k:=by
 unfold has;rw[Ef];by_cases e:k=a
 .subst e;simp
 .rw[uD (λz=>e (by injection z with z;exact fv z))]
  exact⟨.inr,λh=>h.resolve_left e⟩
noncomputable def rcOf(bb:List (Key×V))(i:Nat):uL:=((AK i).map (·+2)).filter λk=>(valV bb (.inl (k:Int))).isSome
theorem Oa(bb:List (Key×V))(i:Nat):rcOf bb (i+1)=rcOf bb i++if(valV bb (.inl ((i+2:Nat):Int))).isSome=true then [i+2] else []:=by
 unfold rcOf;rw[EV,BE,CD,S6,FM,JI]
theorem Lj{bb:List (Key×V)}{k:Nat}:k∈rcOf bb i↔2<=k/\k<i+2/\has bb k:=by
 unfold rcOf has;rw[B0,BD];constructor
 .rintro⟨⟨a,ha,rfl⟩,h⟩
  rw[AN] at ha;exact⟨va,wA ha,h⟩
 .rintro⟨h1,h2,h3⟩
  exact⟨⟨k-2,AN.mpr (v7 h2 h1),wM h1⟩,h3⟩
theorem ADS(bb:List (Key×V))(i:Nat):(rcOf bb i).length<=i:=by
 unfold rcOf;refine BY (CH _ _) ?_;rw[AB,A9];exact AF _
theorem getD_map:∀(aI:List Row),(AK aI.length).map (λi=>aI.getD i (0,0,0))=aI:=λaI=>by
 apply FC;intro i;by_cases c:i<aI.length
 .simp[c]
 .simp[c]
theorem ADH{aI:List Row}{t:Nat}(h:rc.Sublist ((AK m).map (·+2)))(hm:m<=aI.length):(lay aI t rc j).length<=(aI.filter λr=>decide (r.1=t)).length:=by
 have h1:(lay aI t rc j).Sublist (((AK aI.length).map (·+2)).filter λk=>decide (tieOf aI k=t)):=by
  unfold lay;exact(((J0 _ _).trans h).trans ((List.range_sublist.mpr hm).map _)).filter _
 refine BY h1.length_le ?_;have e:(aI.filter λr=>decide (r.1=t))=(((AK aI.length).filter λi=>decide ((aI.getD i (0,0,0)).1=t)).map λi=>aI.getD i (0,0,0)):=by
  conv=>lhs;rw[<- getD_map aI]
  rw[Pw];rfl
 rw[e,AB,Pw,AB];exact AF _
theorem AGd(bb:List (Key×V))(i:Nat):(rcOf bb i).Sublist ((AK i).map (·+2)):=Sl
def AGi(K:Au):Sp:=λvs H Q _=>∃(d p:Addr) (r:Row) (x y:Nat) (bb:List (Key×V)),vs=[.ref d,.ref p]/\H d=uA (.dK bb)/\rRowA K H r (.ref p)/\valV bb (.inl (r.2.1:Int))=uA (.int x)/\valV bb (.inl (r.2.2:Int))=uA (.int y) /\
 ∀t,H t=none->Q (.ref t) (upd H t (.tup [.int r.1,.int x,.int y]))
def Xe(K:Au):Sp:=λvs H Q _=>∃(l:Addr) (n top:Nat) (aI:List Row),vs=[.ref l,.int top]/\RowsAt K H l aI/\Ok n aI/\aI.length<=4100/\Knot aI top /\
 ∀(D:Addr) (rc:uL) (H':Hp),Same H H'->H D=none->H' D=uA (.lst (iN rc))->Closed aI rc->(top<=1\/top∈rc)->(∀t j,(lay aI t rc j).length<=(aI.filter λr=>decide (r.1=t)).length)->(∀k∈rc,k=top\/∃k'∈rc,k<k'/\(outOf aI k'=k\/intoOf aI k'=k))->Q (.ref D) H'
theorem AHf:FnScope zl7 zl7 (Ai sIn):=fscp (by decide+kernel)
theorem AHC(F:Fun K "row_in_places" "row_in_places" sIn f fd):FnOk P w K mg base CX0 1 f fd zl7 (AGi K):=by
 refine F.ok AHf (λvs H Q E h=>?_) (λbE A outer s H vs Q E hr h=>?_)
 .obtain⟨d,p,r,x,y,bb,rfl,_⟩:=h
  rfl
 obtain⟨d,p,r,x,y,bb,rfl,hd,⟨p',e,hp⟩,hx,hy,q⟩:=h;cases e;refine⟨_,Ak (Av (Bw (Aa (Aq Ft (pv 1) Ag) (Aa (Qv (Cg hr) (pv 0) (Aq Ft (pv 1) Ag) (λ_ _=>rfl)) (Aa (Qv (Cg hr) (pv 0) (Aq Ft (pv 1) Ag) (λ_ _=>rfl)) Ad))))),?_⟩;refine⟨_,rfl,ixA hp at0 ⟨_,rfl,_,rfl,ixA hp at1 ⟨d,.int x,rfl,?_,_,rfl,_,rfl,ixA hp at2 ⟨d,.int y,rfl,?_,(by show 3<=sizeLine;decide),q⟩⟩⟩⟩
 .have:=DGet.k (k:=.inl (r.2.1:Int)) hd
  rw[hx] at this;exact this
 .have:=DGet.k (k:=.inl (r.2.2:Int)) hd
  rw[hy] at this;exact this
theorem QZ:FnScope ["rows","top","reached","knot"] zl20 (Ai QW):=fscp (by decide+kernel)
theorem ABb(F:Fun K "reached_knots" "reached_knots" QW f fd)(T:Txt K mg C):FnOk P w K mg base CX0 1 f fd zl20 (Xe K):=by
 refine F.ok QZ (λvs H Q E h=>?_) (λbE A outer s H vs Q E hr h=>?_)
 .obtain⟨l,n,top,aI,rfl,_⟩:=h
  rfl
 obtain⟨l,n,top,aI,rfl,hL,ok,r60,kt,q⟩:=h;refine⟨_,Ae (Am (i:=2) QZ.nd (Xb (Mh (pv 1) Em Xk) rfl rfl (by intro z;cases z) (by decide)))
  (Ae (Dq DZ rfl (Ni rfl T.range (Aa (pv 1) (Aa Ag (Aa (Rt Ke Ag) Ad)))) (Bu (i:=3) QZ.nd)
   (Ak (Bv (Mj (AAx (Cg hr) (pv 3) (pv 2)))
    (Ae (Jw (Cg hr) (pv 2) (Aq Ft (Aq Ft (pv 0) (Aw Et (pv 3) Ag)) Ag) Em rfl)
    (Ak (Jw (Cg hr) (pv 2) (Aq Ft (Aq Ft (pv 0) (Aw Et (pv 3) Ag)) Ag) Em rfl))) BP)))
  (Ak (Av (Ce (Ai QW) ["knot"] ["reached"] [2] rfl rfl (by decide+kernel) ⟨⟨rfl,by decide+kernel⟩,trivial⟩ (Yr rfl T.range (Aa Ag (Aa (Aw Bs (pv 1) Ag) Ad)))
   (λ_ _ _=>BJ (i:=0))
   (λ_ _ _=>Cq (Mj (AAx (Cg hr) (pv 0) (pv 1)) rfl))
   (λ_ _ _=>pv 0))))),?_⟩
 refine λD hD=>⟨_,rfl,Ab,[(.inl (top:Int),.bl true)],rfl,(by show 1<=15;decide),?_⟩;have s0:Same H (upd (upd H D (.dK [])) D (.dK (mergeK [] [(.inl (top:Int),.bl true)]))):=λb o e=>by rw[Ah (Af e hD),Ah (Af e hD)];exact e
 refine⟨_,rfl,_,rfl,(top:Int),1,rfl,⟨by lia,by have:top<aI.length+2:=kt;lia,by lia,by lia⟩,?_⟩;refine Rv (lo:=(top:Int)) (n:=((top:Int)-1).toNat) (λi σ H2=>∃(bb:List (Key×V)) (kv:Option V),σ=[uA (.ref l),uA (.int top),uA (.ref D),kv]/\Same H H2/\H2 D=uA (.dK bb)/\bb.length<=1+2*i/\has bb top /\
   (∀k:Nat,top<k+i->k<=top->has bb k->has bb (outOf aI k)/\has bb (intoOf aI k))/\(∀k:Nat,has bb k->k<=top)/\∀k:Nat,2<=k->has bb k->k=top\/∃k',2<=k'/\has bb k'/\k<k'/\(outOf aI k'=k\/intoOf aI k'=k))
  ⟨_,uB,rfl,s0,Ab,by show 1<=1;decide,?_,λk h1 h2=>by lia,?_,?_⟩ ?_ ?_
 .show has (putK [] (.inl (top:Int)) (.bl true)) top
  exact has_put.mpr (.inl rfl)
 .intro k hk
  rcases has_put.mp (show has (putK [] (.inl (top:Int)) (.bl true)) k from hk) with e| e
  .exact vt e
  .exact uI e (by intro z;cases z)
 .intro k _ hk
  rcases has_put.mp (show has (putK [] (.inl (top:Int)) (.bl true)) k from hk) with e| e
  .exact .inl e
  .exact uI e (by intro z;cases z)
 .rintro i σ H2 hi ⟨bb,kv,rfl,sm,eD,hl,ht,hc,hb,hpar⟩
  obtain⟨k,ek,k2⟩:∃k:Nat,(top:Int)-i=k/\2<=k:=⟨((top:Int)-i).toNat,by lia,by lia⟩;have kk:Knot aI k:=by unfold Knot at *;lia
  rw[ek];refine⟨_,rfl,_,rfl,D,_,rfl,DGet.k (k:=.inl (k:Int)) eD,_,rfl,?_⟩;refine ite2 (λc=>?_) (λc=>?_)
  .have tu:=hL.same sm
   obtain⟨xs,p,hS,ha,hp⟩:=Qx tu kk k2;obtain⟨_,lo,li,_⟩:=ok.low (Bm kk k2);have z1:bb.length<sizeLine:=JN (by unfold Knot at kt;lia);refine⟨_,rfl,_,rfl,_,rfl,_,_,rfl,rfl,ixA hS ha (ixA hp at1 ⟨D,_,rfl,.inl ⟨bb,.inl ((aI.getD (k-2) (0,0,0)).2.1:Int),eD,rfl,z1,rfl⟩,?_⟩)⟩;have l1:=Ca bb (.inl ((aI.getD (k-2) (0,0,0)).2.1:Int)) (.bl true);have z2:(putK bb (.inl ((aI.getD (k-2) (0,0,0)).2.1:Int)) (.bl true)).length<sizeLine:=JN (by unfold Knot at kt;lia);have sm2:Same H (upd H2 D (.dK (putK bb (.inl ((aI.getD (k-2) (0,0,0)).2.1:Int)) (.bl true)))):=λb o e=>by rw[Ah (Af e hD)];exact sm b o e
   obtain⟨xs2,p2,rR,ha2,n4⟩:=Qx (hL.same sm2) kk k2;refine⟨_,rfl,_,rfl,_,rfl,_,_,rfl,rfl,ixA rR ha2 (ixA n4 at2 ⟨D,_,rfl,.inl ⟨_,.inl ((aI.getD (k-2) (0,0,0)).2.2:Int),Ab,rfl,z2,rfl⟩,?_⟩)⟩;have l2:=Ca (putK bb (.inl ((aI.getD (k-2) (0,0,0)).2.1:Int)) (.bl true)) (.inl ((aI.getD (k-2) (0,0,0)).2.2:Int)) (.bl true);have hup:∀k',has (putK (putK bb (.inl ((aI.getD (k-2) (0,0,0)).2.1:Int)) (.bl true)) (.inl ((aI.getD (k-2) (0,0,0)).2.2:Int)) (.bl true)) k'->k'=outOf aI k\/k'=intoOf aI k\/has bb k':=λk' h=>by
    rcases has_put.mp h with e| h
    .exact .inr (.inl e)
    rcases has_put.mp h with e| h
    .exact .inl e
    exact .inr (.inr h)
   have hkk:=c;have kle:k<=top:=by lia
   have lo':outOf aI k<k:=by unfold outOf;exact vh lo k2
   have li':intoOf aI k<k:=by unfold intoOf;exact vh li k2
   refine⟨_,_,rfl,λb o e=>?_,Ab,by lia,has_put.mpr (.inr (has_put.mpr (.inr ht))),λk' h1 h2 h3=>?_,λk' h=>?_,λk' h2 h=>?_⟩
   .rw[Ah (Af e hD),Ah (Af e hD)]
    exact sm b o e
   .by_cases e:k'=k
    .subst e
     exact⟨has_put.mpr (.inr (has_put.mpr (.inl rfl))),has_put.mpr (.inl rfl)⟩
    .have h4:has bb k':=by
      rcases has_put.mp h3 with e' | h3
      ·lia
      rcases has_put.mp h3 with e' | h3
      ·lia
      exact h3
     obtain⟨y1,y2⟩:=hc k' (xT ek h1 e) h2 h4;exact⟨has_put.mpr (.inr (has_put.mpr (.inr y1))),has_put.mpr (.inr (has_put.mpr (.inr y2)))⟩
   .rcases hup k' h with e| e| e
    .exact xU ek e lo'
    .exact xU ek e li'
    .exact hb k' e
   .have keep:has (putK (putK bb (.inl ((aI.getD (k-2) (0,0,0)).2.1:Int)) (.bl true)) (.inl ((aI.getD (k-2) (0,0,0)).2.2:Int)) (.bl true)) k:=has_put.mpr (.inr (has_put.mpr (.inr hkk)))
    rcases hup k' h with e| e| e
    .exact .inr ⟨k,k2,keep,wF e lo',.inl e.symm⟩
    .exact .inr ⟨k,k2,keep,wF e li',.inr e.symm⟩
    .rcases hpar k' h2 e with z| ⟨u,z1,z2,z3⟩
     .exact .inl z
     .exact .inr ⟨u,z1,has_put.mpr (.inr (has_put.mpr (.inr z2))),z3⟩
  .refine⟨bb,_,rfl,sm,eD,by lia,ht,λk' h1 h2 h3=>?_,hb,hpar⟩
   by_cases e:k'=k
   .subst e
    exact uI h3 c
   .exact hc k' (xT ek h1 e) h2 h3
 .rintro σ H2 ⟨bb,kv,rfl,sm,eD,hl,ht,hc,hb,hpar⟩
  refine⟨_,rfl,_,_,rfl,rfl,2,(top:Int)+1,rfl,⟨by lia,by lia,by lia,by unfold Knot at kt;lia⟩,λL ky=>?_⟩;have tT:D≠L:=λe=>by rw[<- e,eD] at ky;cases ky
  have nL:=sm.free ky;refine Er (lo:=2) (n:=((top:Int)+1-2).toNat) (λi τ H3=>∃kv:Option V,τ=[kv,uA (.ref D)]/\Same H H3/\H3 D=uA (.dK bb)/\H3 L=uA (.lst (iN (rcOf bb i)))) ⟨uB,rfl,sm.trans (u4 ky _),by rw[Ah tT];exact eD,Ab⟩ ?_ ?_
  .rintro i τ H3 hi ⟨kv,rfl,sm3,qZ,eL3⟩
   have ei:(2:Int)+i=((i+2:Nat):Int):=by lia
   rw[ei];refine⟨_,rfl,_,rfl,D,_,rfl,DGet.k (k:=.inl ((i+2:Nat):Int)) qZ,_,rfl,?_⟩;have lr:=ADS bb i;refine ite2 (λc=>?_) (λc=>?_)
   .refine⟨_,rfl,_,eL3,JN (by rw[AB];unfold Knot at kt;lia),_,rfl,λb o e=>?_,by rw[Ah tT];exact qZ,?_⟩
    .rw[Ah (Af e nL)]
     exact sm3 b o e
    .rw[Ab,Oa,uE c]
     unfold iN;rw[BE];rfl
   .refine⟨_,rfl,sm3,qZ,?_⟩
    rw[eL3,Oa,uD c,B3]
  .rintro τ H3 ⟨kv,rfl,sm3,qZ,eL3⟩
   have all:∀k,k∈rcOf bb ((top:Int)+1-2).toNat->2<=k/\k<=top/\has bb k:=λk hk=>by
    obtain⟨a,b,c⟩:=Lj.mp hk;exact⟨a,by lia,c⟩
   have back:∀k,k<=top->has bb k->k<=1\/k∈rcOf bb ((top:Int)+1-2).toNat:=λk h1 h2=>by
    rcases DC k 2 with c| c
    .exact .inl (vV c)
    .exact .inr (Lj.mpr ⟨c,xV h1,h2⟩)
   have kn:∀k,k<=top->Knot aI k:=λk h=>by unfold Knot at *;exact vb h kt
   refine q L _ H3 sm3 nL eL3 ⟨λk hk=>(all k hk).1,λk hk=>kn k (all k hk).2.1,λk hk=>?_,λk hk=>?_⟩ (back top (AF _) ht) (λt j=>ADH (AGd _ _) (by unfold Knot at kt;lia)) (λk hk=>by
     obtain⟨a1,b1,c1⟩:=all k hk;rcases hpar k a1 c1 with z| ⟨u,u2,z1,z2⟩
     .exact .inl z
     .exact .inr ⟨u,Lj.mpr ⟨u2,by have:=hb u z1;exact xV this,z1⟩,z2⟩)
   .obtain⟨a,b,c⟩:=all k hk
    obtain⟨_,lo,li,_⟩:=ok.low (Bm (kn k b) a);exact back _ (by unfold outOf;exact xW lo b a) (hc k (xX a) b c).1
   .obtain⟨a,b,c⟩:=all k hk
    obtain⟨_,lo,li,_⟩:=ok.low (Bm (kn k b) a);exact back _ (by unfold intoOf;exact xW li b a) (hc k (xX a) b c).2
noncomputable def ik3(r:Row):List Key:=[.inl (r.1:Int),.inl (r.2.1:Int),.inl (r.2.2:Int)]
noncomputable abbrev r3(r:Row):List V:=[.int r.1,.int r.2.1,.int r.2.2]
noncomputable def r3i(r:Row):uJ:=[(r.1:Int),(r.2.1:Int),(r.2.2:Int)]
theorem AEQ{a b:Row}(h:ik3 a=ik3 b):a=b:=by
 obtain⟨a1,a2,a3⟩:=a;obtain⟨b1,b2,b3⟩:=b;simp[ik3] at h;obtain⟨h1,h2,h3⟩:=h;injection h1 with h1
 injection h2 with h2
 injection h3 with h3
 have e1:a1=b1:=h1;have e2:a2=b2:=h2;have e3:a3=b3:=h3;rw[e1,e2,e3]
theorem KJ{a b:Row}(h:r3i a=r3i b):a=b:=by
 obtain⟨a1,a2,a3⟩:=a;obtain⟨b1,b2,b3⟩:=b;simp[r3i] at h;obtain⟨h1,h2,h3⟩:=h;have e1:a1=b1:=fv h1;have e2:a2=b2:=fv h2;have e3:a3=b3:=fv h3;rw[e1,e2,e3]
noncomputable def numKV:Nat->List Row->List (List Key×V)
 | _,[]=>[]
 | i,r::rs=>(ik3 r,.int (i:Int))::numKV (i+1) rs
noncomputable def numOf:Nat->List Row->Row->uW
 | _,[],_=>uB
 | i,a::rs,r=>if a=r then uA i else numOf (i+1) rs r
theorem Jg:∀(i:Nat) (aT:List Row),(numKV i aT).length=aT.length
 | _,[]=>rfl
 | i,_::rs=>by show(numKV (i+1) rs).length+1=rs.length+1;rw[Jg]
theorem Jd(r:Row):∀(i:Nat) (aT:List Row),valV (numKV i aT) (ik3 r)=(numOf i aT r).map λ(m:Nat)=>V.int (m:Int)
 | _,[]=>rfl
 | i,a::rs=>by
  by_cases e:a=r
  .rw[numKV,CT (by show ik3 a=ik3 r;rw[e]),numOf,uE e];rfl
  .rw[numKV,CV (λz=>e (AEQ z)),numOf,uD e];exact Jd r (i+1) rs
theorem MJ(r:Row):∀(i:Nat) (aT:List Row) (m:Nat),numOf i aT r=uA m->∃j,aT[j]?=uA r/\m=i+j
 | _,[],_,h=>by cases h
 | i,a::rs,m,h=>by
  unfold numOf at h;by_cases e:a=r
  .rw[uE e] at h
   cases h;exact⟨0,by rw[e];rfl,rfl⟩
  .rw[uD e] at h
   obtain⟨j,h1,h2⟩:=MJ r (i+1) rs m h;exact⟨j+1,by simpa using h1,by lia⟩
theorem MN(r:Row):∀(i:Nat) (aT:List Row),numOf i aT r=none->r∉aT
 | _,[],_=>λh=>nomatch h
 | i,a::rs,h=>by
  unfold numOf at h;by_cases e:a=r
  .rw[uE e] at h;cases h
  .rw[uD e] at h
   intro hm;rcases AS.mp hm with rfl| hm
   .exact e rfl
   .exact MN r (i+1) rs h hm
theorem Nv(r:Row):∀(i:Nat) (aT:List Row),r∉aT->numOf i aT r=uB
 | _,[],_=>rfl
 | i,a::rs,h=>by
  unfold numOf;rw[uD (λe=>h (by rw[e];exact AI ..))];exact Nv r (i+1) rs λz=>h (AL _ z)
theorem Oo:∀(i:Nat) (aT:List Row) (r:Row),numKV i (aT++[r])=numKV i aT++[(ik3 r,.int ((i+aT.length:Nat):Int))]
 | i,[],r=>rfl
 | i,a::rs,r=>by
  show(ik3 a,V.int (i:Int))::numKV (i+1) (rs++[r])=(ik3 a,V.int (i:Int))::(numKV (i+1) rs++[(ik3 r,V.int ((i+(rs.length+1):Nat):Int))]);rw[Oo (i+1) rs r];rw[show i+1+rs.length=i+(rs.length+1) from vq]
theorem Zw{aT:List Row}{r:Row}(h:r∉aT):putK (numKV 2 aT) (ik3 r) (.int (((numKV 2 aT).length:Int)+2))=numKV 2 (aT++[r]):=by
 rw[JG _ (by rw[Jd,Nv r 2 aT h];rfl),Oo,Jg]
 congr 4
 lia
theorem Nq{K:Au}{H:Hp}:∀{i:Nat}{aT:List Row}{ys:List V},KeyL H (numKV i aT) ys->A1 (rRow K H) aT ys
 | _,[],_,.nil=>.nil
 | i,r::rs,_,.cons ⟨b,e,hb⟩ t=>.cons ⟨b,e,uu hb⟩ (Nq t)
theorem Je:∀(ms:uK),(∀m∈ms,∃r,m=r3i r)->∃new:List Row,ms=new.map r3i
 | [],_=>⟨[],rfl⟩
 | m::ms,h=>by
  obtain⟨r,rfl⟩:=h m (AI ..);obtain⟨new,rfl⟩:=Je ms λx hx=>h x (AL _ hx);exact⟨r::new,rfl⟩
theorem Za:∀{new:List Row},(new.map r3i).Pairwise (λa b=>HT.lexLt a b=true)->new.Nodup:=λ{new} h=>by
 have h2:=C9.mp h;exact h2.imp λ{a b} z e=>by rw[e,Fj] at z;cases z
noncomputable def plOf(pl:Nat->uW)(place:Nat->Nat)(ks:uL)(k:Nat):uW:=if k∈ks then uA (place k) else pl k
theorem AAv{place:Nat->Nat}{ks:uL}{a k:Nat}:plOf pl place (ks++[a]) k=if k=a then uA (place a) else plOf pl place ks k:=by
 unfold plOf;by_cases e:k=a
 .subst e;simp
 .by_cases h:k∈ks
  .simp[h,e]
  .simp[h,e]
def PlD(bb:List (Key×V))(pl:Nat->uW):Prop:=∀k:Nat,valV bb (.inl (k:Int))=(pl k).map λ(p:Nat)=>V.int (p:Int)
theorem PlD.put{bb:List (Key×V)}{place:Nat->Nat}{ks:uL}{a:Nat}(h:PlD bb (plOf pl place ks)):PlD (putK bb (.inl (a:Int)) (.int (place a:Nat))) (plOf pl place (ks++[a])):=λk=>by
 rw[Ef,AAv];by_cases e:k=a
 .subst e;rw[uE rfl,uE rfl];rfl
 .rw[uD (λz=>e (by injection z with z;exact fv z)),uD e]
  exact h k
end K45s
namespace G
section
variable{t:Nat}{A aT:List Row}
def FewB(aI:List Row)(top:Nat):Prop:=∃P:Nat->Prop,P top/\(∀k,P k->2<=k->Knot aI k->P (outOf aI k)/\P (intoOf aI k)) /\
 ∀(t:Nat) (ks:uL),(∀k∈ks,P k/\2<=k/\Knot aI k/\tieOf aI k=t/\∃s,led aI (intoOf aI k) s=true)->ks.Pairwise (λa b=>∃s,led aI a s≠led aI b s)->ks.length<=300
theorem FewB.sel{top:Nat}(F:FewB aI top)(I:Kept2 n (t+1) aI rc aT pl)(c:Closed aI rc)(o:Ok n aI)(hn:t<n)(par:∀k∈rc,k=top\/∃k'∈rc,k<k'/\(outOf aI k'=k\/intoOf aI k'=k)) :
  ∀new:List Row,new.Nodup->(∀r∈new,∃k,k∈rc/\tieOf aI k=t/\r=rowIn aI pl k/\r.2.2≠0)->new.length<=300:=by
 intro new nd hw;obtain⟨P,pt,ps,few⟩:=F;have hP:∀k∈rc,P k:=λk hk=>Zr pt ps c par _ k (AF _) hk;obtain⟨g,hg⟩:∃g:Row->Nat,∀r∈new,g r∈rc/\tieOf aI (g r)=t/\r=rowIn aI pl (g r)/\r.2.2≠0 :=
  ⟨λr=>if h:r∈new then EQ (hw r h) else 0,λr h=>by
   dsimp only;rw[dif_pos h];exact D6 (hw r h)⟩
 have pM:=I.base.least.ok;have key:∀r∈new,∃a b,r=(t,a,b)/\Knot aT a/\Knot aT b/\b≠0/\(∀s,led aT a s=led aI (outOf aI (g r)) s)/\(∀s,led aT b s=led aI (intoOf aI (g r)) s)/\(∀xs,led aI (g r) (t::xs)=led aT b xs)/\∀s,led aT a s=if lowH t s=true then false else led aI (g r) s:=λr hr=>by
  obtain⟨hk,ht,e,w0⟩:=hg r hr;obtain⟨a,b,ea,eb,re,x1,x2,x3,x4⟩:=I.base.row c o hn hk ht;obtain⟨_,z1,z2⟩:=c.low o hk;have la:=I.low (c.out _ hk) (by rw[<- ht];exact z1) ea;have lb:=I.low (c.into _ hk) (by rw[<- ht];exact z2) eb;have kk:=c.knot _ hk;have k2:=c.two _ hk;have et:(aI.getD (g r-2) (0,0,0)).1=t:=ht;refine⟨a,b,e.trans re,x1,x2,?_,la,lb,λxs=>?_,λs=>?_⟩
  .rw[e,re] at w0
   exact w0
  .rw[Bp o kk k2,et,uD (Fh _),uE rfl,lb]
   rfl
  .cases s with
   | nil=>rw[la,Dd o kk k2,uD (by intro z;cases z)];rfl
   | cons x xs =>
    by_cases cs:x<=t
    .rw[uE (show lowH t (x::xs)=true from uF cs)]
     exact off pM x1 (vb cs x3)
    .rw[uD (show ¬ lowH t (x::xs)=true from λz=>cs (uH z)),la,Bp o kk k2,et,uD (yc cs),uD (yd cs)]
     rfl
 have:=few t (new.map g) (λk hk=>by
  obtain⟨r,hr,rfl⟩:=BD.mp hk;obtain⟨h1,h2,h3,h4⟩:=hg r hr;obtain⟨a,b,_,_,kb,b0,_,lb,_⟩:=key r hr;refine⟨hP _ h1,c.two _ h1,c.knot _ h1,h2,?_⟩;obtain⟨s,w,_⟩:=Ma I.base.least (b+1) b (E7 _) kb b0;exact⟨s,by rw[<- lb];exact w.1⟩) (by
  rw[C9];refine Ff (λ{r r'} hr hr' ne=>?_) nd;refine Bn λh=>ne ?_;have same:∀s,led aI (g r) s=led aI (g r') s:=λs=>Bn λz=>h ⟨s,z⟩;obtain⟨a,b,er,ka,kb,_,_,_,lb,la⟩:=key r hr;obtain⟨a',b',er',ka',kb',_,_,_,lb',iL⟩:=key r' hr';have e1:=Xh I.base.least ka ka' λs=>by rw[la,iL,same]
  have e2:=Xh I.base.least kb kb' λs=>by rw[<- lb,<- lb',same]
  rw[er,er',e1,e2])
 rwa [AB] at this
theorem Sy{α:Type}[DecidableEq α]:∀{l₁ l₂:List α},l₁.Nodup->(∀x∈l₁,x∈l₂)->l₁.length<=l₂.length
 | [],_,_,_=>A7 _
 | a::t,l₂,nd,hs=>by
  obtain⟨n1,n2⟩:=DE.mp nd;have ha:=hs a AI;have hl:=ID ha;have ih:=Sy (l₂:=l₂.erase a) n2 λx hx=>(Kk (λ(e:x=a)=>n1 (by rw[<- e];exact hx))).mpr (hs x (AL _ hx));have:0<l₂.length:=JS ha;simp;exact w6 ih hl this
noncomputable def allB:Nat->List (List Bool)
 | 0=>[[]]
 | n+1=>(allB n).map (true::·)++(allB n).map (false::·)
theorem UJ:∀n,(allB n).length=2 ^ n
 | 0=>rfl
 | n+1=>by
  show((allB n).map (true::·)++(allB n).map (false::·)).length=_;rw[BN,AB,AB,UJ n,M3];lia
theorem Sx:∀{n:Nat}{l:List Bool},l.length=n->l∈allB n
 | 0,[],_=>by simp[allB]
 | n+1,b::l,h=>by
  have:=Sx (n:=n) (l:=l) (by simpa using h);cases b with
  | true=>exact DO _ (G7 this)
  | false=>exact BS _ (G7 this)
 | 0,_::_,h=>by cases h
 | _+1,[],h=>by cases h
noncomputable def subs12:List uL:=[[],[9],[10],[11],[9,10],[9,11],[10,11],[9,10,11]]
theorem AEz{s:uL}(w:s.Pairwise (· < ·))(bd:∀x∈s,9<=x/\x<12):s∈subs12:=by
 match s,w,bd with
 | [],_,_=>exact by decide
 | [x],_,bd =>
  have:=bd x (AI ..);have:x=9\/x=10\/x=11:=by lia
  rcases this with rfl| rfl| rfl<;>decide
 | [x,y],w,bd =>
  have h1:=bd x (AI ..);have h2:=bd y (AL _ (AI ..));have lt:=(CA.mp w).1 y (AI ..);have:(x=9/\y=10)\/(x=9/\y=11)\/(x=10/\y=11):=by lia
  rcases this with⟨rfl,rfl⟩| ⟨rfl,rfl⟩| ⟨rfl,rfl⟩<;>decide
 | x::y::z::r,w,bd =>
  have h1:=bd x (AI ..);have h2:=bd y (AL _ (AI ..));have h3:=bd z (AL _ (AL _ (AI ..)));have l1:=(CA.mp w).1 y (AI ..);have w2:=(CA.mp w).2;have l2:=(CA.mp w2).1 z (AI ..);obtain rfl:x=9:=by lia
  obtain rfl:y=10:=by lia
  obtain rfl:z=11:=by lia
  cases r with
  | nil=>decide
  | cons u r =>
   have hu:=bd u (by simp);have l3:=(CA.mp (CA.mp w2).2).1 u (AI ..);lia
theorem VH(o:Ok n aI)(n12:n<=12)(c:Cnt 0 aI)(top:Nat):FewB aI top:=by
 refine⟨λ_=>True,trivial,λ_ _ _ _=>⟨trivial,trivial⟩,λt ks hk un=>?_⟩;have nd:ks.Nodup:=un.imp λ{a b} ⟨s,h⟩ e=>h (by rw[e]);rcases DC t 9 with c9| c9
 .have z:=AAH (A:=aI) (t:=t) ks (λk h=>⟨(hk k h).2.1,(hk k h).2.2.1,(hk k h).2.2.2.1⟩) nd
  have y:=c t;rw[uD vd,Nat.sub_zero] at y;have:2 ^ t<=2 ^ 8:=Kn (by decide) (by lia);lia
 .have lim:∀{k:Nat}{s:uL},Knot aI k->2<=k->tieOf aI k=t->led aI k s=true->s∈subs12:=λ{k s} kn k2 tk ld=>by
   have I0:=Ge _ _ rfl o _ kn;obtain⟨w1,w2⟩:=I0.way s ((I0.mem s).mpr ld);refine AEz w1 λx hx=>?_;have z:=w2 x hx;unfold rank at z;rw[uD (u8 k2)] at z;have e:(aI.getD (k-2) (0,0,0)).1=t:=tk;lia
  have z:=Sy (l₁:=ks.map λk=>subs12.map (led aI k)) (l₂:=allB 8) (by
   unfold OH;rw[C9];refine Ff (λ{a b} ha hb ⟨s,ne⟩ e=>ne ?_) un;obtain⟨_,a2,ka,ta,_⟩:=hk a ha;obtain⟨_,b2,kb,tb,_⟩:=hk b hb;have same:∀s∈subs12,led aI a s=led aI b s:=λs hs=>(List.map_inj_left.mp e) s hs;cases ea:led aI a s with
   | true=>rw[<- same s (lim ka a2 ta ea),ea]
   | false =>
    cases eb:led aI b s with
    | true=>rw[<- same s (lim kb b2 tb eb),ea] at eb;exact eb
    | false=>rfl) λx hx=>by
   obtain⟨k,_,rfl⟩:=BD.mp hx;exact Sx (by rw[AB];rfl)
  rw[AB,UJ] at z;lia
end
end G
namespace SB
open PySem PySem.SetTable
noncomputable def iter{α:Type}(f:α->α):Nat->α->α
 | 0,x=>x
 | n+1,x=>iter f n (f x)
theorem CW{α:Type}(f:α->α):∀(m n:Nat) (x:α),iter f (m+n) x=iter f n (iter f m x)
 | 0,n,x=>by rw[K1];rfl
 | m+1,n,x=>by
  rw[Nat.succ_add];exact CW f m n (f x)
theorem Zn(f:α->α)(n:Nat)(x:α):iter f (n+1) x=f (iter f n x):=CW f n 1 x
def Mask(m:Nat):Prop:=m=7\/m=31\/m=127\/m=511
noncomputable def step(M:Nat)(p:IL):IL :=
 if p.more>0 then {p with j:=p.j+1,more:=p.more-1} else
 {p with j:=(leap M p.i p.perturb).1,more:=FA M (leap M p.i p.perturb).1-(leap M p.i p.perturb).1,i:=(leap M p.i p.perturb).1,perturb:=(leap M p.i p.perturb).2}
theorem Hv(t:CU)(p:IL):t.advance p=step t.mask p:=by
 unfold advance step;split<;>rfl
theorem Qp(M i:Nat):FA M i-i<=9:=by
 unfold FA;split<;>lia
structure Fine(M:Nat)(p:IL):Prop where
 more:p.more<=9
 i:p.i<=M
 j:p.j<=M
 jm:p.j+p.more<=M
 dummy:p.dummy=uB
theorem Vg(h:i<=M):i+(FA M i-i)<=M:=by
 unfold FA;split<;>lia
theorem Iw(M i p:Nat):(leap M i p).1<=M:=by
 unfold leap;have:=M4 (i*5+1+p / 32) (show 0<M+1 from vW);exact vo this
theorem Fine.step{M:Nat}{p:IL}(h:Fine M p):Fine M (step M p):=by
 unfold SB.step;by_cases c:p.more>0
 .rw[uE c]
  have:=h.jm;have:=h.more;exact⟨by show p.more-1<=9;exact wI this,h.i,by show p.j+1<=M;lia,by show p.j+1+(p.more-1)<=M;lia,h.dummy⟩
 .rw[uD c]
  exact⟨Qp _ _,Iw _ _ _,Iw _ _ _,Vg (Iw _ _ _),h.dummy⟩
theorem Fine.iter{M:Nat}:∀(n:Nat) {p:IL},Fine M p->Fine M (iter (SB.step M) n p)
 | 0,_,h=>h
 | n+1,_,h=>Fine.iter n h.step
theorem Fine.start(t:CU)(h:Int):Fine t.mask (t.probeStart h):=by
 have:=M4 (bits h) (show 0<t.mask+1 from vW);have hi:bits h%(t.mask+1)<=t.mask:=vo this;exact⟨Qp _ _,hi,hi,Vg hi,rfl⟩
theorem Xo{M:Nat}:∀(k:Nat) {p:IL},p.more=k->∃q,SB.iter (step M) (k+1) p=q/\q.i=(leap M p.i p.perturb).1/\q.perturb=(leap M p.i p.perturb).2/\q.j=q.i/\q.more<=9
 | 0,p,e=>by
  refine⟨_,rfl,?_⟩;show(step M p).i=_/\(step M p).perturb=_/\(step M p).j=(step M p).i/\(step M p).more<=9;unfold step;rw[uD (by lia)];exact⟨rfl,rfl,rfl,Qp _ _⟩
 | k+1,p,e=>by
  have hs:step M p={p with j:=p.j+1,more:=p.more-1}:=by unfold step;rw[uE (by lia)]
  obtain⟨q,h1,h2⟩:=Xo (M:=M) k (p:=step M p) (by rw[hs];show p.more-1=k;lia);rw[hs] at h2;exact⟨q,h1,h2⟩
noncomputable def leaps(M:Nat):Nat->Nat×Nat->Nat×Nat:=SB.iter (λx=>leap M x.1 x.2)
theorem LK{M:Nat}:∀(k:Nat) {p:IL},p.more<=9->∃m,m<=10*k/\((SB.iter (step M) m p).i,(SB.iter (step M) m p).perturb)=leaps M k (p.i,p.perturb)/\(SB.iter (step M) m p).more<=9/\(0<k->(SB.iter (step M) m p).j=(SB.iter (step M) m p).i)
 | 0,p,h=>⟨0,vZ,rfl,h,λz=>uI z vM⟩
 | k+1,p,h=>by
  obtain⟨q,e,q1,q2,q3,q4⟩:=Xo (M:=M) p.more (p:=p) rfl;obtain⟨m,hm,h1,h2,h3⟩:=LK k q4;refine⟨(p.more+1)+m,by lia,?_,?_,λ_=>?_⟩
  .rw[CW,e,h1]
   show leaps M k (q.i,q.perturb)=leaps M k (leap M p.i p.perturb);rw[q1,q2]
  .rw[CW,e];exact h2
  .rw[CW,e]
   by_cases c:0<k
   .exact h3 c
   .have:k=0:=by lia
    subst this;have:m=0:=by lia
    subst this;exact q3
theorem Eu{M:Nat}:∀(k:Nat) (x:Nat×Nat),(leaps M k x).2=x.2 / 32 ^ k
 | 0,x=>by simp[leaps,SB.iter]
 | k+1,x=>by
  show(leaps M k (leap M x.1 x.2)).2=_;rw[Eu k];show x.2 / 32 / 32 ^ k=_;rw[Nat.div_div_eq_div_mul,M3,Nat.mul_comm]
noncomputable def lc(n i:Nat):Nat:=(i*5+1)%n
theorem Hu{M:Nat}:∀(k i:Nat),leaps M k (i,0)=(SB.iter (lc (M+1)) k i,0)
 | 0,i=>rfl
 | k+1,i=>by
  show leaps M k (leap M i 0)=_;have:leap M i 0=(lc (M+1) i,0):=by unfold leap lc;simp
  rw[this,Hu k];rfl
theorem cyc8:∀j,j<8->∃k,k<8/\SB.iter (lc 8) k 0=j:=by decide+kernel
theorem cyc32:∀j,j<32->∃k,k<32/\SB.iter (lc 32) k 0=j:=by decide+kernel
theorem cyc128:∀j,j<128->∃k,k<128/\SB.iter (lc 128) k 0=j:=by decide+kernel
noncomputable def iters(f:Nat->Nat):Nat->Nat->uL
 | 0,_=>[]
 | n+1,x=>x::iters f n (f x)
theorem Rz(f:Nat->Nat):∀(n x j:Nat),j∈iters f n x->∃k,k<n/\SB.iter f k x=j
 | 0,x,j,h=>by cases h
 | n+1,x,j,h=>by
  rcases AS.mp h with rfl| h
  .exact⟨0,OR _,rfl⟩
  .obtain⟨k,hk,e⟩:=Rz f n (f x) j h
   exact⟨k+1,Nat.succ_lt_succ hk,e⟩
theorem all512:((AK 512).all λj=>(iters (lc 512) 512 0).contains j)=true:=by decide+kernel
theorem cyc512:∀j,j<512->∃k,k<512/\SB.iter (lc 512) k 0=j:=λj hj=>Rz _ _ _ _ (List.contains_iff_mem.mp (Fa.mp all512 j (AN.mpr hj)))
theorem cyc(h:Mask M):(∀j,j<M+1->∃k,k<M+1/\SB.iter (lc (M+1)) k 0=j)/\SB.iter (lc (M+1)) (M+1) 0=0:=by
 rcases h with rfl| rfl| rfl| rfl
 .exact⟨cyc8,by decide+kernel⟩
 .exact⟨cyc32,by decide+kernel⟩
 .exact⟨cyc128,by decide+kernel⟩
 .exact⟨cyc512,by decide+kernel⟩
theorem YW(h:Mask M)(hi:i<M+1)(hj:j<M+1):∃k,k<M+1/\SB.iter (lc (M+1)) k i=j:=by
 obtain⟨c1,c2⟩:=cyc h;obtain⟨a,ha,ea⟩:=c1 i hi;obtain⟨b,hb,eb⟩:=c1 j hj;by_cases c:a<=b
 .refine⟨b-a,wu hb,?_⟩
  rw[<- ea,<- CW,show a+(b-a)=b from vp c,eb]
 .refine⟨M+1+b-a,by lia,?_⟩
  rw[<- ea,<- CW,show a+(M+1+b-a)=(M+1)+b by lia,CW,c2,eb]
theorem Bk:∀{l₁ l₂:uL},l₁.Nodup->(∀x∈l₁,x∈l₂)->l₁.length<=l₂.length
 | [],_,_,_=>A7 _
 | a::t,l₂,nd,hs=>by
  obtain⟨n1,n2⟩:=DE.mp nd;have ha:=hs a AI;have hl:=ID ha;have ih:=Bk (l₂:=l₂.erase a) n2 λx hx=>(Kk (λ(e:x=a)=>n1 (by rw[<- e];exact hx))).mpr (hs x (AL _ hx));have:0<l₂.length:=JS ha;simp;exact w6 ih hl this
theorem ADo{place:Array Nat}(h:place.size<=M):∃j,j<M+1/\j∉place.toList:=by
 refine Bn λc=>?_;have all:∀j∈AK (M+1),j∈place.toList:=λj hj=>Bn λz=>c ⟨j,AN.mp hj,z⟩;have:=Bk ED all;rw[A9,A2] at this;lia
theorem QV(h:Int):bits h<2 ^ 64:=by
 unfold bits;have h1:=EW h (show(2 ^ 64:Int)≠0 by decide);have h2:=Ev h (show(0:Int)<2 ^ 64 by decide);lia
theorem Lr{M:Nat}:∀(n:Nat) (p:IL),(SB.iter (step M) n p).perturb<=p.perturb
 | 0,_=>AF _
 | n+1,p=>by
  refine BY (Lr n (step M p)) ?_;unfold step;split
  .exact AF _
  .exact Nat.div_le_self _ _
theorem Ng{place:Array Nat}(hM:Mask M)(hs:place.size<=M){p:IL}(hp:Fine M p)(hb:p.perturb<2 ^ 64):∃m,m<10*OL M/\(SB.iter (step M) m p).j∉place.toList:=by
 obtain⟨j,hj,nj⟩:=ADo hs;obtain⟨m1,hm1,e1,k1,_⟩:=LK (M:=M) 13 (p:=p) hp.more;generalize hq:SB.iter (step M) m1 p=q at *;have fq:Fine M q:=by rw[<- hq];exact hp.iter m1
 have pz:q.perturb=0:=by
  have h2:=congrArg Prod.snd e1;rw[Eu] at h2;have h3:q.perturb=p.perturb / 32 ^ 13:=h2;rw[h3];exact US (B5 hb (by decide))
 obtain⟨k,hk,ek⟩:=YW hM (i:=lc (M+1) q.i) (j:=j) (M4 _ (Y4 _)) hj;obtain⟨m2,hm2,e2,_,k2⟩:=LK (M:=M) (k+1) (p:=q) fq.more;refine⟨m1+m2,?_,?_⟩
 .unfold OL
  lia
 .rw[CW,hq,k2 (Y4 _)]
  have h1:=congrArg Prod.fst e2;rw[pz,Hu] at h1;have h2:(SB.iter (step M) m2 q).i=SB.iter (lc (M+1)) k (lc (M+1) q.i):=h1;rw[h2,ek];exact nj
theorem Le{xs:Array Nat}{j:Nat}(so:xs.toList.Pairwise (· < ·)):∀(bn lo hi:Nat),lo<=hi->hi<=xs.size->hi-lo<=bn->(∀k,k<lo->xs.getD k j<j)->(∀k,hi<=k->k<xs.size->j<=xs.getD k j) ->
  (∀k,k<below.go xs j bn lo hi->xs.getD k j<j)/\(∀k,below.go xs j bn lo hi<=k->k<xs.size->j<=xs.getD k j)/\below.go xs j bn lo hi<=xs.size
 | 0,lo,hi,h1,h2,h3,h4,h5=>by
  have:lo=hi:=by lia
  subst this;exact⟨h4,h5,h2⟩
 | bn+1,lo,hi,h1,h2,h3,h4,h5=>by
  unfold below.go;by_cases c:lo<hi
  .rw[uE c]
   have hm:(lo+hi) / 2<xs.size:=by lia
   have so':=CM.mp so;have gd:∀k,k<xs.size->xs.getD k j=xs.toList.getD k j:=λk hk=>by simp[EA,hk]
   by_cases d:xs.getD ((lo+hi) / 2) j<j
   .simp only[uE d]
    refine Le so bn _ hi (by lia) h2 (by lia) (λk hk=>?_) h5;by_cases e:k=(lo+hi) / 2
    .rw[e];exact d
    .have bu:k<(lo+hi) / 2:=wo hk e
     have z:=so' k ((lo+hi) / 2) (by simpa using(show k<xs.size from uV bu hm)) (by simpa using hm) bu;have g1:xs.getD k j=xs[k]'(uV bu hm):=by simp[EA,show k<xs.size from uV bu hm]
     have g2:xs.getD ((lo+hi) / 2) j=xs[(lo+hi) / 2]'hm:=by simp[EA,hm]
     rw[g2] at d;rw[g1];simp at z;exact uV z d
   .simp only[uD d]
    refine Le so bn lo _ (by lia) (vy hm) (by lia) h4 (λk hk kP=>?_);by_cases e:k=(lo+hi) / 2
    .rw[e];exact uR d
    .have z:=so' ((lo+hi) / 2) k (by simpa using hm) (by simpa using kP) (by lia)
     have g1:xs.getD k j=xs[k]'kP:=by simp[EA,kP]
     have g2:xs.getD ((lo+hi) / 2) j=xs[(lo+hi) / 2]'hm:=by simp[EA,hm]
     rw[g2] at d;rw[g1];simp at z;lia
  .rw[uD c]
   have:lo=hi:=vB h1 c;subst this;exact⟨h4,h5,h2⟩
theorem FP{xs:Array Nat}(so:xs.toList.Pairwise (· < ·)):(∀k,k<below xs j->xs.getD k j<j)/\(∀k,below xs j<=k->k<xs.size->j<=xs.getD k j)/\below xs j<=xs.size :=
 Le so xs.size 0 xs.size (A7 _) (AF _) (AF _) (λk hk=>uI hk vd) (λk h1 h2=>uI h2 (u8 h1))
theorem below_at{xs:Array Nat}(so:xs.toList.Pairwise (· < ·))(h:j∈xs.toList):xs[below xs j]?=uA j:=by
 obtain⟨b1,b2,b3⟩:=FP (j:=j) so;obtain⟨k,hk,e⟩:=CL.mp h;have bu:k<xs.size:=by simpa using hk
 have e':xs[k]=j:=by simpa using e
 have g1:xs.getD k j=j:=by simp[EA,bu,e']
 have h1:below xs j<=k:=by
  refine Bn λc=>?_;have:=b1 k (vY c);exact vk this g1
 by_cases c:below xs j=k
 .rw[c,Be bu,e']
 .have hb:below xs j<xs.size:=vb h1 bu
  have z:=CM.mp so (below xs j) k (by simpa using hb) hk (wc h1 c);have b:=b2 (below xs j) (AF _) hb;have g2:xs.getD (below xs j) j=xs[below xs j]'hb:=by simp[EA,hb]
  rw[g2] at b;simp at z;lia
structure Tab(t:CU):Prop where
 mask:Mask t.mask
 none:t.dummies=#[]
 size:t.place.size<=t.mask
 le:∀j∈t.place.toList,j<=t.mask
 rise:t.place.toList.Pairwise (· < ·)
theorem slot_of{t:CU}(T:Tab t)(j:Nat):(t.slot j=.empty/\j∉t.place.toList)\/∃i,t.slot j=.live i/\t.place[i]?=uA j:=by
 unfold slot;by_cases c:t.place[below t.place j]?=uA j
 .right
  exact⟨below t.place j,by simp[c],c⟩
 .left
  have hd:has t.dummies j=false:=by rw[T.none];unfold has;simp
  refine⟨by simp[c,hd],λh=>c (below_at T.rise h)⟩
noncomputable def way(t:CU)(p:IL)(m:Nat):Nat:=(SB.iter (step t.mask) m p).j
theorem Ro(t:CU)(p:IL)(m:Nat):way t (step t.mask p) m=way t p (m+1):=rfl
theorem AFP{t:CU}(T:Tab t){hashAt:Nat->Int}{h:Int}:∀(bn:Nat) (p:IL),p.dummy=none->(∃m,m<bn/\way t p m∉t.place.toList) ->
  ∃m,(∀m',m'<m->∃i,t.place[i]?=uA (way t p m')/\hashAt i≠h) /\
   (
    (way t p m∉t.place.toList/\NE t hashAt h bn p=uA (.empty (way t p m) uB)) \/
    ∃i,t.place[i]?=uA (way t p m)/\t.slot (way t p m)=.live i/\hashAt i=h/\NE t hashAt h bn p=uA (.candidate (way t p m) i (SB.iter (step t.mask) (m+1) p)))
 | 0,p,_,⟨m,hm,_⟩=>uI hm vd
 | bn+1,p,hd,⟨m0,hm0,n0⟩=>by
  unfold NE;rcases slot_of T p.j with⟨e,ne⟩| ⟨i,e,pi⟩
  .refine⟨0,λm' h=>uI h vd,.inl ⟨ne,?_⟩⟩
   rw[e];show uA (Met.empty p.j p.dummy)=_;rw[hd];rfl
  .by_cases c:hashAt i=h
   .refine⟨0,λm' h=>uI h vd,.inr ⟨i,pi,e,c,?_⟩⟩
    rw[e];simp only[c,beq_self_eq_true,if_true];rw[Hv];rfl
   .have m1:m0≠0:=λz=>by
     subst z;exact n0 (by rw[FV];exact⟨i,by rw[BV];exact pi⟩)
    have eW:(step t.mask p).dummy=uB:=by unfold step;split<;>exact hd
    obtain⟨m,h1,h2⟩:=AFP T (hashAt:=hashAt) (h:=h) bn (step t.mask p) eW ⟨m0-1,xM hm0 m1,by rw[Ro,show m0-1+1=m0 by lia];exact n0⟩;have ee:NE t hashAt h (bn+1) p=NE t hashAt h bn (step t.mask p):=by
     show(match t.slot p.j with| .empty=>uA (Met.empty p.j p.dummy)| .dummy=>NE t hashAt h bn (t.advance {p with dummy:=uA p.j})| .live i=>if hashAt i==h then uA (.candidate p.j i (t.advance p)) else NE t hashAt h bn (t.advance p))=_;rw[e];have cb:(hashAt i==h)=false:=by simpa using c
     simp only[cb,Ct,if_false];rw[Hv]
    refine⟨m+1,λm' fg=>?_,?_⟩
    .by_cases z:m'=0
     .subst z;exact⟨i,pi,c⟩
     .have:=h1 (m'-1) (by lia)
      rw[Ro,show m'-1+1=m' by lia] at this;exact this
    .rw[e]
     have cb:(hashAt i==h)=false:=by simpa using c
     simp only[cb,Ct,if_false,Hv];exact h2
def Loc(t:CU)(hs:uJ):Prop:=∀(bo j:Nat) (h:Int),t.place[bo]?=uA j->hs[bo]?=uA h->∃m,way t (t.probeStart h) m=j/\∀m',m'<m->way t (t.probeStart h) m'∈t.place.toList
theorem ABr{t:CU}(T:Tab t){hashAt:Nat->Int}{h:Int}{p:IL}(hp:Fine t.mask p)(hb:p.perturb<2 ^ 64) :
  ∃m,(∀m',m'<m->∃i,t.place[i]?=uA (way t p m')/\hashAt i≠h) /\
   (
    (way t p m∉t.place.toList/\t.probe hashAt h p=uA (.empty (way t p m) uB)) \/
    ∃i,t.place[i]?=uA (way t p m)/\t.slot (way t p m)=.live i/\hashAt i=h/\t.probe hashAt h p=uA (.candidate (way t p m) i (SB.iter (step t.mask) (m+1) p))) :=
 AFP T _ p hp.dummy (Ng T.mask T.size hp hb)
theorem Bb(xs:Array α)(p:Nat)(x:α):(EI xs p x).toList=xs.toList.take p++[x]++xs.toList.drop p:=by
 unfold EI;simp;exact P5 (by simp)
structure Put(t:CU)(j:Nat):Prop where
 le:j<=t.mask
 new:j∉t.place.toList
 room:t.place.size+1<=t.mask
theorem Jh{t:CU}(T:Tab t):(t.put j).1={t with place:=EI t.place (below t.place j) j}/\(t.put j).2=below t.place j:=by
 unfold put;have hd:has t.dummies j=false:=by rw[T.none];unfold has;simp
 simp[hd]
theorem ADw{t:CU}(T:Tab t)(P:Put t j):Tab (t.put j).1:=by
 obtain⟨e,_⟩:=Jh T (j:=j);obtain⟨b1,b2,b3⟩:=FP (j:=j) T.rise;rw[e];refine⟨T.mask,T.none,?_,λk hk=>?_,?_⟩
 .show(EI t.place (below t.place j) j).size<=t.mask
  have:=congrArg DI (Bb t.place (below t.place j) j);simp at this;have:=P.room;lia
 .have bu:=hk
  rw[Bb] at bu;rcases B8.mp bu with bu| bu
  .rcases B8.mp bu with bu| bu
   .exact T.le k (M5 bu)
   .rw[Bi.mp bu];exact P.le
  .exact T.le k (RR bu)
 .rw[Bb]
  have so:=T.rise;have get:∀k (hk:k<t.place.size),t.place.getD k j=t.place.toList[k]'(by simpa using hk):=λk hk=>by simp[EA,hk]
  refine C6.mpr ⟨C6.mpr ⟨so.sublist (J0 _ _),LL _ _,λa ha b hb=>?_⟩,so.sublist (HU _ _),λa ha b hb=>?_⟩
  .rw[Bi.mp hb]
   obtain⟨k,hk,rfl⟩:=CL.mp ha;rw[B7] at hk;have kP:k<t.place.size:=by simp at hk;exact xr hk
   have:=b1 k (v5 hk);rw[get k kP] at this;rw[J2];exact this
  .obtain⟨k,hk,rfl⟩:=CL.mp hb
   rw[Me] at hk;have kP:below t.place j+k<t.place.size:=by simp at hk;lia
   rw[OC];have z:=b2 (below t.place j+k) uS kP;rw[get _ kP] at z;have ne:t.place.toList[below t.place j+k]'(by simpa using kP)≠j:=λe=>P.new (e ▸ ER _);rcases B8.mp ha with ha| ha
   .obtain⟨i,hi,rfl⟩:=CL.mp ha
    rw[B7] at hi;rw[J2];exact CM.mp so i (below t.place j+k) (xr hi) (by simpa using kP) (by lia)
   .rw[Bi.mp ha]
    lia
theorem ADn{t:CU}(T:Tab t)(hl:hs.length=t.place.size)(L:Loc t hs){h:Int}(hm:∀m',m'<m->way t (t.probeStart h) m'∈t.place.toList) :
  Loc (t.put (way t (t.probeStart h) m)).1 (hs.take (t.put (way t (t.probeStart h) m)).2++[h]++hs.drop (t.put (way t (t.probeStart h) m)).2):=by
 generalize hj:way t (t.probeStart h) m=j;obtain⟨e,e2⟩:=Jh T (j:=j);obtain⟨_,_,b3⟩:=FP (j:=j) T.rise;rw[e,e2];generalize hp:below t.place j=p at *;have mem:∀k,k∈t.place.toList->k∈(EI t.place p j).toList:=λk hk=>by
  rw[Bb];rw[<- FX p t.place.toList] at hk;rcases B8.mp hk with hk| hk
  .exact DO _ (DO _ hk)
  .exact BS _ hk
 have memj:j∈(EI t.place p j).toList:=by
  rw[Bb];exact DO _ (BS _ (Bi.mpr rfl))
 intro bo k h' hk hh;have bu:(EI t.place p j).toList[bo]?=uA k:=by simpa using hk
 rw[Bb] at bu;have wy:∀(q:IL) m,way {t with place:=EI t.place p j} q m=way t q m:=λ_ _=>rfl;have ps:∀h,({t with place:=EI t.place p j}:CU).probeStart h=t.probeStart h:=λ_=>rfl;have lt:(t.place.toList.take p).length=p:=by rw[B7,A2];lia
 have lh:(hs.take p).length=p:=by rw[B7];lia
 rw[B9] at bu hh;have cz:∀i,t.place.toList[i]?=uA k->hs[i]?=uA h'->∃m,way {t with place:=EI t.place p j} (({t with place:=EI t.place p j}:CU).probeStart h') m=k/\∀m',m'<m->way {t with place:=EI t.place p j} (({t with place:=EI t.place p j}:CU).probeStart h') m'∈({t with place:=EI t.place p j}:CU).place.toList:=λi a b=>by
  obtain⟨m,x,y⟩:=L i k h' (by rw[<- BV];exact a) b;exact⟨m,x,λm' fg=>mem _ (y m' fg)⟩
 by_cases c:bo<p
 .rw[BC (by lia),F5 c] at bu hh
  exact cz bo bu hh
 .rw[CB (by lia)] at bu hh
  rw[lt] at bu;rw[lh] at hh;by_cases d:bo=p
  .subst d
   simp at bu hh;subst bu hh;exact⟨m,hj,λm' fg=>mem _ (hm m' fg)⟩
  .rw[CB (by simp;lia)] at bu hh
   simp only[D5,S9] at bu hh;rw[show p+(bo-p-1)=bo-1 by lia] at bu hh;exact cz (bo-1) bu hh
noncomputable def CK(M i perturb:Nat):IL:={j:=i,more:=FA M i-i,i:=i,perturb:=perturb,dummy:=uB}
theorem MF{M:Nat}:∀(m:Nat) (p:IL),m<=p.more->SB.iter (step M) m p={p with j:=p.j+m,more:=p.more-m}
 | 0,p,_=>by cases p;rfl
 | m+1,p,h=>by
  have hs:step M p={p with j:=p.j+1,more:=p.more-1}:=by unfold step;rw[uE (by lia)]
  show SB.iter (step M) m (step M p)=_;rw[MF m (step M p) (by rw[hs];show m<=p.more-1;lia),hs];rw[show p.j+1+m=p.j+(m+1) from vq,show p.more-1-m=p.more-(m+1) by lia]
theorem Wi{pe:Nat}:SB.iter (step M) (FA M i-i+1) (CK M i pe)=CK M (leap M i pe).1 (leap M i pe).2:=by
 rw[Zn,MF (FA M i-i) (CK M i pe) (AF _)];unfold step;rw[uD (by show ¬ (FA M i-i-(FA M i-i)>0);lia)];rfl
theorem Yw(M i:Nat):i<=FA M i:=by
 unfold FA;split<;>lia
def wayM(M:Nat)(p:IL)(m:Nat):Nat:=(SB.iter (step M) m p).j
theorem Xg{M:Nat}{owner:Array uW}:∀(bn i pe:Nat),i<=M->(∃k,k<bn/\owner.getD (leaps M k (i,pe)).1 (uA 0)=uB) ->
  ∃m,KL M owner bn i pe=uA (wayM M (CK M i pe) m)/\owner.getD (wayM M (CK M i pe) m) (uA 0)=uB/\∀m',m'<m->(owner.getD (wayM M (CK M i pe) m') (uA 0)).isSome=true
 | 0,i,pe,_,⟨k,hk,_⟩=>uI hk vd
 | bn+1,i,pe,hi,⟨k,hk,nk⟩=>by
  have ge:=Yw M i;have wy:∀m,m<=FA M i-i->wayM M (CK M i pe) m=i+m:=λm hm=>by
   unfold wayM;rw[MF m (CK M i pe) hm];rfl
  unfold KL;cases hf:(AK (FA M i+1-i)).find? λk=>(owner.getD (i+k) (uA 0)).isNone with
  | some k' =>
   have h1:=List.find?_some hf;have h2:=AN.mp (List.mem_of_find?_eq_some hf);refine⟨k',?_,?_,λm' fg=>?_⟩
   .rw[wy k' (wJ h2)]
   .rw[wy k' (wJ h2)]
    simpa using h1
   .rw[wy m' (by lia)]
    obtain⟨_,as,bs,e,hb⟩:=List.find?_eq_some_iff_append.mp hf;have hl:as.length=k':=by
     have:(AK (FA M i+1-i))[as.length]?=uA k':=by rw[e];simp
     rw[EF (by have:=congrArg DI e;simp at this;lia)] at this;exact BO this
    have hm:m'∈as:=by
     have:(AK (FA M i+1-i))[m']?=uA m':=EF (uV fg h2);rw[e,BC (dl fg hl)] at this;exact BI this
    have:=hb m' hm;simpa [OM] using this
  | none =>
   have hn:=List.find?_eq_none.mp hf;have all:∀m,m<=FA M i-i->(owner.getD (i+m) (uA 0)).isSome=true:=λm hm=>by
    have:=hn m (AN.mpr (by lia));simpa [OM] using this
   have k0:k≠0:=λz=>by
    subst z;have:=all 0 (A7 _);have nk':owner.getD i (uA 0)=uB:=nk;rw[S8,nk'] at this;cases this
   obtain⟨m,h1,h2,h3⟩:=Xg bn (leap M i pe).1 (leap M i pe).2 (Iw _ _ _) ⟨k-1,xM hk k0,by
    have e:leaps M k (i,pe)=leaps M (k-1) (leap M i pe):=by
     obtain⟨k',rfl⟩:∃k',k=k'+1:=⟨k-1,by lia⟩;rfl
    rw[e] at nk;exact nk⟩
   have sh:∀m,wayM M (CK M (leap M i pe).1 (leap M i pe).2) m=wayM M (CK M i pe) (FA M i-i+1+m):=λm=>by
    unfold wayM;rw[CW,Wi]
   rw[sh] at h1 h2;refine⟨FA M i-i+1+m,h1,h2,λm' fg=>?_⟩;by_cases c:m'<=FA M i-i
   .rw[wy m' c]
    exact all m' c
   .have:=h3 (m'-(FA M i-i+1)) (by lia)
    rw[sh,show FA M i-i+1+(m'-(FA M i-i+1))=m' by lia] at this;exact this
structure Own(M:Nat)(owner:Array uW)(hs:uJ):Prop where
 size:owner.size=M+1
 has:∀bo,bo<hs.length->∃j:Nat,owner[j]?=uA (uA bo)
 at_:∀(j bo:Nat),owner[j]?=uA (uA bo)->bo<hs.length/\∃m,wayM M (CK M (bits (hs.getD bo 0)%(M+1)) (bits (hs.getD bo 0))) m=j/\∀m',m'<m->(owner.getD (wayM M (CK M (bits (hs.getD bo 0)%(M+1)) (bits (hs.getD bo 0))) m') (uA 0)).isSome=true
 one:∀(j j' bo:Nat),owner[j]?=uA (uA bo)->owner[j']?=uA (uA bo)->j=j'
theorem Own.start(M:Nat):Own M (VM (M+1) uB) []:=by
 have no:∀(j bo:Nat),¬ (VM (M+1) (uB:uW))[j]?=uA (uA bo):=λj bo e=>by
  rw[Array.getElem?_replicate] at e;split at e<;>cases e
 exact⟨Array.size_replicate ..,λbo h=>uI h (by simp),λj bo e=>uI e (no j bo),λj _ bo e=>uI e (no j bo)⟩
theorem Own.free(O:Own M owner hs)(h:hs.length<=M):∃j,j<M+1/\owner.getD j (uA 0)=uB:=by
 refine Bn λc=>?_;have all:∀j,j<M+1->∃bo,owner[j]?=uA (uA bo):=λj hj=>by
  have dq:j<owner.size:=by rw[O.size];exact hj
  cases e:owner[j] with
  | none=>exact uI ⟨j,hj,by simp[EA,dq,e]⟩ c
  | some bo=>exact⟨bo,by rw[Be dq,e]⟩
 have key:∀n,n<=M+1->∃l:uL,l.length=n/\l.Nodup/\∀x∈l,∃j,j<n/\owner[j]?=uA (uA x):=by
  intro n
  induction n with
  | zero=>exact λ_=>⟨[],rfl,LD,λx hx=>by cases hx⟩
  | succ n ih =>
   intro hn;obtain⟨l,l1,l2,l3⟩:=ih (u7 hn);obtain⟨bo,e⟩:=all n (xN hn);refine⟨bo::l,by simp[l1],DE.mpr ⟨λhm=>?_,l2⟩,λx hx=>?_⟩
   .obtain⟨j,hj,ej⟩:=l3 bo hm
    have:=O.one _ _ _ ej e;exact vk hj this
   .rcases AS.mp hx with rfl| hx
    .exact⟨n,vH,e⟩
    .obtain⟨j,hj,ej⟩:=l3 x hx
     exact⟨j,vg hj,ej⟩
 obtain⟨l,l1,l2,l3⟩:=key (M+1) (AF _);have:=Bk (l₂:=AK hs.length) l2 λx hx=>by
  obtain⟨j,_,ej⟩:=l3 x hx;exact AN.mpr (O.at_ j x ej).1
 rw[A9] at this;lia
theorem Um{M:Nat}:∀(k:Nat) (x:Nat×Nat),x.1<=M->(leaps M k x).1<=M
 | 0,x,h=>h
 | k+1,x,h=>Um k (leap M x.1 x.2) (Iw _ _ _)
theorem Yk(a b:Nat)(x:Nat×Nat):leaps M (a+b) x=leaps M b (leaps M a x):=CW _ a b x
theorem Own.next(hM:Mask M)(O:Own M owner hs)(hl:hs.length<=M)(h:Int) :
  ∃j,KL M owner (OL M) (bits h%(M+1)) (bits h)=uA j/\Own M (owner.setIfInBounds j (uA hs.length)) (hs++[h]):=by
 obtain⟨f,hf,nf⟩:=O.free hl;have hi:bits h%(M+1)<=M:=by
  have:=M4 (bits h) (show 0<M+1 from vW);exact vo this
 have reach:∃k,k<OL M/\owner.getD (leaps M k (bits h%(M+1),bits h)).1 (uA 0)=uB:=by
  have p13:(leaps M 13 (bits h%(M+1),bits h)).2=0:=by
   rw[Eu];exact US (B5 (QV h) (by decide))
  have i13:=Um (M:=M) 13 (bits h%(M+1),bits h) hi;obtain⟨k,hk,ek⟩:=YW hM (i:=(leaps M 13 (bits h%(M+1),bits h)).1) (j:=f) (wH i13) hf;refine⟨13+k,by unfold OL;lia,?_⟩;have e:leaps M 13 (bits h%(M+1),bits h)=((leaps M 13 (bits h%(M+1),bits h)).1,0):=NC rfl p13;rw[Yk,e,Hu,ek];exact nf
 obtain⟨m,h1,h2,h3⟩:=Xg (M:=M) (owner:=owner) (OL M) _ (bits h) hi reach;refine⟨_,h1,?_⟩;generalize hj:wayM M (CK M (bits h%(M+1)) (bits h)) m=j at h2;have hjs:j<owner.size:=by
  refine Bn λc=>?_;have:owner.getD j (uA 0)=uA 0:=by simp[EA,c]
  rw[this] at h2;cases h2
 have hjn:owner[j]?=uA uB:=by
  rw[Be hjs];simp[EA,hjs] at h2;rw[h2]
 have get:∀k,(owner.setIfInBounds j (uA hs.length))[k]?=if k=j then uA (uA hs.length) else owner[k]?:=λk=>by
  rw[Array.getElem?_setIfInBounds];by_cases c:j=k
  .subst c
   simp[hjs]
  .rw[uD c,uD (CF c)]
 have some_of:∀k,(owner.getD k (uA 0)).isSome=true->((owner.setIfInBounds j (uA hs.length)).getD k (uA 0)).isSome=true:=λk hk=>by
  rw[Hn,get];split
  .rfl
  .rw[Hn] at hk
   exact hk
 have gd:∀bo,bo<hs.length->(hs++[h]).getD bo 0=hs.getD bo 0:=λbo hi=>by
  rw[AD,AD,BC hi]
 have gl:(hs++[h]).getD hs.length 0=h:=by rw[AD];simp
 refine⟨by rw[IF];exact O.size,λbo hi=>?_,λk bo e=>?_,λk k' bo e e'=>?_⟩
 .by_cases c:bo<hs.length
  .obtain⟨k,ek⟩:=O.has bo c
   refine⟨k,?_⟩;rw[get,uD (λz=>by rw[z,hjn] at ek;cases ek)];exact ek
  .have:bo=hs.length:=by simp at hi;lia
   exact⟨j,by rw[get,uE rfl,this]⟩
 .rw[get] at e
  by_cases c:k=j
  .rw[uE c] at e
   have:hs.length=bo:=by simpa using e
   subst this;refine⟨by simp,m,?_,λm' fg=>?_⟩
   .rw[gl,hj,c]
   .rw[gl]
    exact some_of _ (h3 m' fg)
  .rw[uD c] at e
   obtain⟨i1,m1,w1,w2⟩:=O.at_ k bo e;refine⟨by simp;lia,m1,?_,λm' fg=>?_⟩
   .rw[gd bo i1];exact w1
   .rw[gd bo i1];exact some_of _ (w2 m' fg)
 .rw[get] at e e'
  by_cases c:k=j
  .by_cases c':k'=j
   .rw[c,c']
   .rw[uE c] at e
    rw[uD c'] at e';have:hs.length=bo:=by simpa using e
    have:=(O.at_ k' bo e').1;lia
  .by_cases c':k'=j
   .rw[uD c] at e
    rw[uE c'] at e';have:hs.length=bo:=by simpa using e'
    have:=(O.at_ k bo e).1;lia
   .rw[uD c] at e
    rw[uD c'] at e';exact O.one _ _ _ e e'
set_option tactic.hygienic true in
theorem ABG(hM:Mask M)(h:hashes.size<=M):∃owner,layClean M hashes=uA owner/\Own M owner hashes.toList:=by
 unfold layClean;rw[<- Array.foldl_toList];have key:∀(l done:uJ) (owner:Array uW),Own M owner done->done.length+l.length<=M ->
   ∃dE,(l.foldl (λbX h=>do
    let (owner,k) <- bX
    let j <- KL M owner (OL M) (bits h%(M+1)) (bits h)
    pure (owner.setIfInBounds j (uA k),k+1)) (uA (owner,done.length)))=uA (dE,done.length+l.length)/\Own M dE (done++l):=by
  intro l
  induction l with
  | nil=>exact λdone owner O _=>⟨owner,rfl,by rw[B3];exact O⟩
  | cons a t ih =>
   intro done owner O hl;simp at hl;obtain⟨j,ej,O'⟩:=O.next hM (u7 hl) a
   obtain⟨dE,e,O''⟩:=ih (done++[a]) _ O' (by simp;lia);refine⟨dE,?_,by simpa using O''⟩;rw[MU];have:(do
    let (owner,k) <- uA (owner,done.length)
    let j <- KL M owner (OL M) (bits a%(M+1)) (bits a)
    pure (owner.setIfInBounds j (uA k),k+1))=uA (owner.setIfInBounds j (uA done.length),done.length+1):=by
    show(do
     let j <- KL M owner (OL M) (bits a%(M+1)) (bits a)
     pure (owner.setIfInBounds j (uA done.length),done.length+1))=_
    rw[ej];rfl
   rw[this];rw[show(done++[a]).length=done.length+1 by simp] at e;rw[e];simp;exact vq
 obtain⟨dE,e,O⟩:=key hashes.toList [] _ (Own.start M) (by simpa using h);refine⟨dE,?_,by simpa using O⟩;have e':=congrArg (Option.map Prod.fst) e;exact e'
noncomputable def pairs(owner:Array uW)(l:uL):List (Nat×Nat):=l.filterMap λj=>(owner.getD j uB).map (j,·)
theorem Ja{l:uL}{bo:Nat}:(j,bo)∈pairs owner l↔j∈l/\owner.getD j uB=uA bo:=by
 unfold pairs;rw[K3];constructor
 .rintro⟨k,hk,e⟩
  cases o:owner.getD k uB with
  | none=>rw[o] at e;cases e
  | some x =>
   rw[o] at e;have e':=BO e;cases e';exact⟨hk,o⟩
 .rintro⟨hj,e⟩
  exact⟨j,hj,by rw[e];rfl⟩
theorem Lf{owner:Array uW}:∀{l:uL},l.Pairwise (· < ·)->((pairs owner l).map (·.1)).Pairwise (· < ·)
 | [],_=>.nil
 | a::t,h=>by
  obtain⟨h1,h2⟩:=CA.mp h;have ih:=Lf (owner:=owner) h2;unfold pairs;rw[G5];cases o:owner.getD a uB with
  | none=>exact ih
  | some x =>
   show((a,x)::pairs owner t|>.map (·.1)).Pairwise (· < ·);rw[BU];refine CA.mpr ⟨λb hb=>?_,ih⟩;obtain⟨⟨b',i⟩,hm,rfl⟩:=BD.mp hb;exact h1 b' (Ja.mp hm).1
theorem Gu:∀{l₁ l₂:uL},l₁.Nodup->(∀x∈l₁,x∈l₂)->l₂.length<=l₁.length->l₁.Perm l₂
 | [],l₂,_,_,h=>by
  have:l₂=[]:=G4.mp (by simpa using h);rw[this]
 | a::t,l₂,nd,hs,h=>by
  obtain⟨n1,n2⟩:=DE.mp nd;have ha:=hs a AI;have hp:=List.perm_cons_erase ha;have hl:=ID ha;have ih:=Gu (l₂:=l₂.erase a) n2 (λx hx=>(Kk (λ(e:x=a)=>n1 (by rw[<- e];exact hx))).mpr (hs x (AL _ hx))) (by simp at h;exact xD hl h);exact(Q5 a ih).trans hp.symm
theorem AEb(hM:Mask M)(h:hashes.size<=M)(finger moves:Nat)(led plain:Bool) :
  ∃(place bp:Array Nat),laid M finger moves led plain hashes=uA ({mask:=M,place:=place,dummies:=#[],finger:=finger,led:=led,moves:=moves,plain:=plain},bp) /\
   Tab {mask:=M,place:=place,dummies:=#[],finger:=finger,led:=led,moves:=moves,plain:=plain}/\place.size=hashes.size/\bp.toList.Perm (AK hashes.size) /\
   Loc {mask:=M,place:=place,dummies:=#[],finger:=finger,led:=led,moves:=moves,plain:=plain} (bp.toList.map λi=>hashes.toList.getD i 0):=by
 obtain⟨owner,e,O⟩:=ABG hM h;have gd:∀j bo,owner.getD j uB=uA bo↔owner[j]?=uA (uA bo):=λj bo=>by
  rw[Hn];cases o:owner[j]? with
  | none=>simp
  | some x=>simp
 have rl:=FI (n:=M+1);have rise:=Lf (owner:=owner) rl;have mem:∀j bo,(j,bo)∈pairs owner (AK (M+1))↔owner[j]?=uA (uA bo):=λj bo=>by
  rw[Ja,gd];refine⟨λz=>z.2,λz=>⟨AN.mpr ?_,z⟩⟩;have:=(Cn.mp z).1;rw[O.size] at this;exact this
 have nd:((pairs owner (AK (M+1))).map (·.2)).Nodup:=by
  have r:=C9.mp rise;refine C9.mpr (r.imp_of_mem λ{a b} ha hb lt z=>?_);obtain⟨a1,a2⟩:=a;obtain⟨b1,b2⟩:=b;have z':=z;subst z';have:=O.one _ _ _ ((mem a1 a2).mp ha) ((mem b1 a2).mp hb);simp at lt;exact vk lt this
 have sub:∀x∈(pairs owner (AK (M+1))).map (·.2),x∈AK hashes.size:=λx hx=>by
  obtain⟨⟨j,i⟩,hm,rfl⟩:=BD.mp hx;have:=(O.at_ j i ((mem j i).mp hm)).1;exact AN.mpr (by simpa using this)
 have sup:∀x∈AK hashes.size,x∈(pairs owner (AK (M+1))).map (·.2):=λx hx=>by
  obtain⟨j,ej⟩:=O.has x (by simpa using hx);exact BD.mpr ⟨(j,x),(mem j x).mpr ej,rfl⟩
 have l1:=Bk ED sup;have l2:=Bk nd sub;rw[A9] at l1 l2;have perm:=Gu nd sub (by rw[A9];exact l1);have ll:(pairs owner (AK (M+1))).length=hashes.size:=by
  rw[AB] at l1 l2;exact xE l2 l1
 refine⟨((pairs owner (AK (M+1))).map (·.1)).toArray,((pairs owner (AK (M+1))).map (·.2)).toArray,?_,?_,?_,?_,?_⟩
 .unfold laid
  rw[e];rfl
 .refine⟨hM,rfl,?_,λj hj=>?_,?_⟩
  .rw[A8,AB,ll]
   exact h
  .have dq:=hj
   obtain⟨⟨k,i⟩,hm,rfl⟩:=BD.mp dq;have:=AN.mp (Ja.mp hm).1;show k<=M;exact vo this
  .exact rise
 .rw[A8,AB,ll]
 .exact perm
 .intro bo j hh hj hh'
  have dq:((pairs owner (AK (M+1))).map (·.1))[bo]?=uA j:=by simpa using hj
  have rD:=hh';rw[AY] at dq;rw[AY,AY] at rD;cases o:(pairs owner (AK (M+1)))[bo]? with
  | none=>rw[o] at dq;cases dq
  | some x =>
   obtain⟨k,i⟩:=x;rw[o] at dq rD;have ek:=BO dq;have ei:hashes.toList.getD i 0=hh:=BO rD;subst ek;obtain⟨_,m,w1,w2⟩:=O.at_ k i ((mem k i).mp (BI o));rw[ei] at w1 w2;refine⟨m,w1,λm' fg=>?_⟩;have z:=w2 m' fg;have hb:bits hh%(M+1)<=M:=by
    have:=M4 (bits hh) (show 0<M+1 from vW);exact vo this
   have i5:Fine M (CK M (bits hh%(M+1)) (bits hh)):=⟨Qp _ _,hb,hb,Vg hb,rfl⟩;have wl:wayM M (CK M (bits hh%(M+1)) (bits hh)) m'<=M:=(i5.iter m').j;show wayM M (CK M (bits hh%(M+1)) (bits hh)) m'∈(pairs owner (AK (M+1))).map (·.1);generalize wayM M (CK M (bits hh%(M+1)) (bits hh)) m'=wv at z wl;have hw:wv<owner.size:=by rw[O.size];exact wH wl
   cases q:owner[wv] with
   | none =>
    have:owner.getD wv (uA 0)=uB:=by simp[EA,hw,q]
    rw[this] at z;cases z
   | some i'=>exact BD.mpr ⟨(wv,i'),(mem wv i').mpr (by rw[Be hw,q]),rfl⟩
abbrev IK(prog:AJ)(w:AQ)(h:Heap)(ks:uJ)(a:Addr):Prop:=IsTupleKey (Lm prog w) h ks a
noncomputable abbrev hsh(prog:AJ)(w:AQ)(ks:uJ):Int:=tupleKeyHash (Lm prog w) ks
theorem RK{ks:uJ}(h:ItemsAre (Lm prog w) ks vs):∀v∈vs,∃n t,v=.int n t:=by
 induction h with
 | nil=>intro v hv;cases hv
 | cons h1 _ ih =>
  intro v hv;rcases AS.mp hv with rfl| hv
  .obtain⟨t,e⟩:=G0 h1
   exact⟨_,t,e⟩
  .exact ih v hv
theorem ADf{ks:uJ}{Q:uN}(hk:IK prog w s.heap ks a)(h:Q true s):wpAny (AM prog w) A (hashByValue 8 (.ref a)) Q E s:=by
 have hT:=hk.typeIs;obtain⟨o,items,n,ho,_,hd,hi⟩:=hk;have qc:=RK hi;unfold hashByValue;refine Ap (JA hT F.slot_tuple_hash.lookup ?_);refine Ap (Fk ho hd ?_);refine Ap ?_;rw[<- K9];refine Hc _ (λrest r s'=>r.1=uB/\s'=s/\∀v∈rest,∃n t,v=NM n t) _ ?_ ?_ _ _ ⟨rfl,rfl,qc⟩
 .rintro v rest r s' ⟨hr,rfl,cw⟩
  obtain⟨n,t,rfl⟩:=cw v AI;refine Ap (AC ?_);exact AC ⟨rfl,rfl,λu ku=>cw u (AL _ ku)⟩
 .rintro⟨r1,r2⟩ s' ⟨hr,rfl,_⟩
  simp only at hr;subst hr;exact AC h
theorem Tv{ks:uJ}{Q:uN}(hk:IK prog w s.heap ks a)(h:Q false s):wpAny (AM prog w) A (TR 8 (.ref a)) Q E s:=by
 have hT:=hk.typeIs;obtain⟨o,items,n,ho,_,hd,hi⟩:=hk;have qc:=RK hi;unfold TR;refine Ap (MW hT ?_);show wpAny _ _ ((if("tuple" == "tuple")=true then pure true else isSubtype (.type "tuple") (.type "tuple")) >>= _) _ _ s;rw[uE (by decide)];refine Ap (AC ?_);refine Ap (Fk ho hd ?_);refine Ap ?_;rw[<- K9];refine Hc _ (λrest r s'=>r.1=uB/\s'=s/\∀v∈rest,∃n t,v=NM n t) _ ?_ ?_ _ _ ⟨rfl,rfl,qc⟩
 .rintro v rest r s' ⟨hr,rfl,cw⟩
  obtain⟨n,t,rfl⟩:=cw v AI;refine Ap (AC ?_);exact AC ⟨rfl,rfl,λu ku=>cw u (AL _ ku)⟩
 .rintro⟨r1,r2⟩ s' ⟨hr,rfl,_⟩
  simp only at hr;subst hr;exact AC h
theorem ADT{ks:uJ}{Q:uN}(hk:IK prog w s.heap ks a)(stored:List As)(cr:∀v∈stored,∃k b,v=.ref b/\IK prog w s.heap k b)(h:Q false s):wpAny (AM prog w) A (TU (.ref a) stored) Q E s:=by
 unfold TU;refine Ap ?_;refine Hc _ (λrest r s'=>r.1=uB/\s'=s/\∀v∈rest,∃k b,v=AV b/\IK prog w s.heap k b) _ ?_ ?_ _ _ ⟨rfl,rfl,cr⟩
 .rintro v rest r s' ⟨hr,rfl,cw⟩
  have tl:∀u∈rest,∃k b,u=AV b/\IK prog w s'.heap k b:=λu ku=>cw u (AL _ ku);obtain⟨k,b,rfl,hb⟩:=cw v AI;dsimp only;by_cases c:(a==b)=true
  .rw[uE (by rw[c];rfl)]
   exact AC ⟨rfl,rfl,tl⟩
  .rw[uD (by simp[c,carriedByValue])]
   refine Ap (Q6 hk ?_);simp only[N7,Ct,if_false];refine Ap (Q6 hb ?_);simp only[N7,Ct,if_false];refine Ap (Tv hk ?_);simp only[Ct,if_false];refine Ap (Tv hb ?_);simp only[Ct,if_false];exact AC ⟨rfl,rfl,tl⟩
 .rintro⟨r1,r2⟩ s' ⟨hr,rfl,_⟩
  simp only at hr;subst hr;exact AC h
theorem Vx{P:Nat->Prop}:∀(m:Nat),P m->∃n,P n/\∀n',n'<n->¬ P n':=by
 intro m
 induction m using Nat.strongRecOn with
 | ind m ih =>
  intro h;by_cases c:∃n,n<m/\P n
  .obtain⟨n,hn,hp⟩:=c
   exact ih n hn hp
  .exact⟨m,h,λn' qd hp=>c ⟨n',qd,hp⟩⟩
noncomputable def ledOf(w:AQ):Bool:=!w.params.followText "set-order"
structure TS(prog:AJ)(w:AQ)(h:Heap)(S:Addr)(es:Array (Int×As))(t:CU)(ks:List (uJ×Addr)):Prop where
 obj:∃o ep,h.get? S=uA o/\o.ExactSet/\o.data=.set es ep t
 tab:Tab t
 len:es.size=t.place.size
 loc:Loc t (es.toList.map (·.1))
 els:es.toList=ks.map λx=>(hsh prog w x.1,AV x.2)
 nd:(ks.map (·.1)).Nodup
 few:t.place.size*5<t.mask*3
 pl:t.plain=true
 ld:t.led=ledOf w
theorem XS{t:CU}(T:Tab t):t.fill=t.place.size:=by unfold fill;rw[T.none];rfl
theorem Hf{t:CU}(T:Tab t)(e:n=t.place.size):t.fits n=true:=by
 unfold SetTable.fits;rw[XS T,e];have:=T.size;simp[this]
section
variable{es:Array (Int×As)}{t:CU}
theorem TS.at_(X:TS prog w h S es t ks)(hi:t.place[i]?=uA j):∃x,ks[i]?=uA x/\es[i]?=uA (hsh prog w x.1,AV x.2):=by
 have hl:=(Cn.mp hi).1;have hle:i<es.toList.length:=by rw[A2,X.len];exact hl
 cases o:ks[i]? with
 | none =>
  have l2:=congrArg DI X.els;rw[AB] at l2;have:=List.getElem?_eq_none_iff.mp o;lia
 | some x =>
  refine⟨x,rfl,?_⟩;rw[<- BV,X.els,AY,o];rfl
theorem Ph{t:CU}(T:Tab t){i':Nat}(h:t.place[i]?=uA j)(h':t.place[i']?=uA j):i=i':=by
 obtain⟨a,ea⟩:=Cn.mp h;obtain⟨b,eb⟩:=Cn.mp h';have r:=CM.mp T.rise;rcases OB i i' with c| c| c
 .have:=r i i' (by simpa using a) (by simpa using b) c
  simp at this;exact xH this ea eb
 .exact c
 .have:=r i' i (by simpa using b) (by simpa using a) c
  simp at this;exact xH this eb ea
set_option tactic.hygienic true in
theorem ZJ{k:uJ}(X:TS prog w s.heap S es t ks)(hK:∀x∈ks,IK prog w s.heap x.1 x.2)(hk:IK prog w s.heap k a)(hu:A.units<C0){N:Nat}
  (hN:way t (t.probeStart (hsh prog w k)) N∉t.place.toList) (hB:∀m,m<N->way t (t.probeStart (hsh prog w k)) m∈t.place.toList) {Q:SetFound->AA->Prop}
  (h1:k∈ks.map (·.1)->Q (.there uB) s) (h2:k∉ks.map (·.1)->Q (.free (way t (t.probeStart (hsh prog w k)) N) false) s) :
  ∀(bn c:Nat) (ik:Option IL),c<=N->N-c<bn->ik.getD (t.probeStart (hsh prog w k))=SB.iter (step t.mask) c (t.probeStart (hsh prog w k)) ->
   (∀m,m<c->∀(i:Nat) (x:uJ×Addr),t.place[i]?=uA (way t (t.probeStart (hsh prog w k)) m)->ks[i]?=uA x->x.1≠k) ->
   wpAny (AM prog w) A (N8 S (.ref a) (hsh prog w k) true bn ik) Q E s:=by
 obtain⟨o,ep,ho,e8,hd⟩:=X.obj;have hf:=Hf X.tab X.len;intro bn
 induction bn with
 | zero=>intro c ik _ h;lia
 | succ bn ih =>
  intro c ik hc hfu cr hV;unfold N8;refine Ap (FD ho hd hf ?_);dsimp only;have hg:t.gaveWay=false:=by
   unfold SetTable.gaveWay;rcases X.tab.mask with e| e| e| e<;>rw[e]<;>decide
  rw[hg];simp only[Ct,if_false];have i5:Fine t.mask (SB.iter (step t.mask) c (t.probeStart (hsh prog w k))):=(Fine.start t _).iter c;have hb:(SB.iter (step t.mask) c (t.probeStart (hsh prog w k))).perturb<2 ^ 64:=EL (Lr c _) (QV _);obtain⟨m,hm,pE⟩:=ABr X.tab (hashAt:=λi=>(es[i]?.map (·.1)).getD 0) (h:=hsh prog w k) i5 hb;have wy:∀m,way t (SB.iter (step t.mask) c (t.probeStart (hsh prog w k))) m=way t (t.probeStart (hsh prog w k)) (c+m):=λm=>by
   unfold way;rw[CW]
  have oo:∀{i j:Nat},t.place[i]?=uA j->j∈t.place.toList:=λ{i j} e=>by
   rw[FV];exact⟨i,by rw[BV];exact e⟩
  have hV':∀m',m'<c+m->∀(i:Nat) (x:uJ×Addr),t.place[i]?=uA (way t (t.probeStart (hsh prog w k)) m')->ks[i]?=uA x->x.1≠k:=λm' fg i x hi hx ek=>by
   by_cases z:m'<c
   .exact hV m' z i x hi hx ek
   .obtain⟨i',ci,gI⟩:=hm (m'-c) (by lia)
    rw[wy,show c+(m'-c)=m' by lia] at ci;have:=Ph X.tab hi ci;subst this;obtain⟨y,hy,ey⟩:=X.at_ hi;rw[hx] at hy;cases hy;refine gI ?_;rw[ey,<- ek];rfl
  have ltN:way t (t.probeStart (hsh prog w k)) (c+m)∈t.place.toList->c+m<N:=λz=>by
   refine Bn λzz=>?_;by_cases q:c+m=N
   .rw[q] at z;exact hN z
   .obtain⟨i',ci,_⟩:=hm (N-c) (xI hc zz q)
    rw[wy,show c+(N-c)=N from vp hc] at ci;exact hN (oo ci)
  split
  .rename_i met heq
   rw[cr] at heq;rcases pE with⟨gI,e⟩| ⟨i,hi,hsl,hhash,e⟩
   .obtain rfl:=BO (heq.symm.trans e)
    dsimp only;have hcN:c+m=N:=by
     rw[wy] at gI;refine Bn λq=>?_;by_cases z:c+m<N
     .exact gI (hB _ z)
     .obtain⟨i',ci,_⟩:=hm (N-c) (xI hc z q)
      rw[wy,show c+(N-c)=N from vp hc] at ci;exact hN (oo ci)
    rw[wy,hcN];refine AC (h2 λlL=>?_);obtain⟨x,hx,ex⟩:=BD.mp lL;obtain⟨i,hi⟩:=FV.mp hx;have hil:i<t.place.size:=by
     have l1:=(AO.mp hi).1;have l2:=congrArg DI X.els;rw[AB,A2,X.len] at l2;exact dl l1 l2
    obtain⟨m1,w1,w2⟩:=X.loc i t.place[i] (hsh prog w x.1) (Be hil) (by rw[X.els,DL,AY,hi];rfl);rw[ex] at w1 w2;have hm1:m1<N:=by
     refine Bn λq=>?_;by_cases z:m1=N
     .subst z
      rw[w1] at hN;exact hN (oo (Be hil))
     .exact hN (w2 N (by lia))
    exact hV' m1 (dl hm1 hcN) i x (by rw[w1];exact Be hil) hi ex
   .obtain rfl:=BO (heq.symm.trans e)
    dsimp only;rw[wy] at hi hsl ⊢;have dk:=ltN (oo hi);obtain⟨x,hx,rC⟩:=X.at_ hi;have hxb:=hK x (BI hx);have rZ:wpAny (AM prog w) A (do
      let uA (_,y):=es[i]? | unsupported "internal:set-entry"
      let equal <- Nd [y] (eqBool y (.ref a))
      let (cE,_,t') <- setState S
      if true&&equal then return .there uB
      let uA same:=t'.sameMemory t.moves t.mask| unsupported "set.changed-during-lookup:is-the-new-block-at-the-old-address"
      let still <- match (if same then t'.slot (way t (t.probeStart (hsh prog w k)) (c+m)) else .empty) with
       | .live i'=>match cE[i']? with
        | some (_,y')=>do pure (if <- isSame y' y then uA i' else uB)
        | none=>pure uB
       | _=>pure uB
      match still with
      | none=>rule "set.search.anew";N8 S (.ref a) (hsh prog w k) true bn uB
      | some i'=>if equal then return .there (uA i') else N8 S (.ref a) (hsh prog w k) true bn (uA (SB.iter (step t.mask) (m+1) (SB.iter (step t.mask) c (t.probeStart (hsh prog w k)))))) Q E s:=by
     rw[rC];dsimp only;refine Ap (D8 (wpAny_eqBool_tuple hu hxb hk ?_));refine Ap (FD ho hd hf ?_);dsimp only;by_cases ek:x.1=k
     .rw[uF ek]
      exact AC (h1 (BD.mpr ⟨x,BI hx,ek⟩))
     .rw[uG ek]
      simp only[Bool.and_false,Ct,if_false];have sm:t.sameMemory t.moves t.mask=uA true:=by unfold sameMemory;simp
      rw[sm];dsimp only;simp only[if_true,hsl];rw[rC];dsimp only;refine Ap (wpAny_isSame_ref_self ?_);simp only[if_true];refine Ap (AC ?_);dsimp only;refine ih (c+m+1) _ dk (by lia) ?_ ?_
      .rw[<- CW]
       rfl
      .intro m' fg i' x' ci md ek'
       by_cases z:m'<c+m
       .exact hV' m' z i' x' ci md ek'
       .have:m'=c+m:=xh fg z
        subst this;have:=Ph X.tab hi ci;subst this;rw[hx] at md;cases md;exact ek ek'
    cases dC:t.led with
    | true =>
     exact rZ
    | false =>
     refine Ap (ADT hk _ ?_ ?_)
     .intro v hv
      obtain⟨e',he',rfl⟩:=BD.mp hv;have he2:e'∈es.toList:=by
       have:e'∈es/\e'.1=hsh prog w k:=by simpa using he'
       simpa using this.1
      rw[X.els] at he2;obtain⟨y,hy,rfl⟩:=BD.mp he2;exact⟨y.1,y.2,rfl,hK y hy⟩
     .exact rZ
  .rename_i hno
   rcases pE with⟨_,e⟩| ⟨i,_,_,_,e⟩
   .exact(hno _ (by rw[cr];exact e)).elim
   .exact(hno _ (by rw[cr];exact e)).elim
end
theorem JH{α:Type}{l:List α}(d:α):∀{bp:uL},(∀i∈bp,i<l.length)->bp.filterMap (λi=>l[i]?)=bp.map λi=>l.getD i d
 | [],_=>rfl
 | i::r,h=>by
  have hi:=h i AI;rw[G5,AG hi,BU,JH d λj hj=>h j (AL _ hj)];simp[AD,hi]
theorem Wq(l:List α):(AK l.length).filterMap (λi=>l[i]?)=l:=by
 cases l with
 | nil=>rfl
 | cons d r =>
  rw[JH d λi hi=>AN.mp hi];apply FC;intro i;by_cases hi:i<(d::r).length
  .rw[AY,EF hi,AG hi]
   show uA ((d::r).getD i d)=_;rw[AD,AG hi];rfl
  .rw[EZ (by simpa using hi),EZ (uR hi)]
theorem JV{l:List α}{bp:uL}(h:bp.Perm (AK l.length)):(bp.filterMap λi=>l[i]?).Perm l:=by
 have:=h.filterMap λi=>l[i]?;rw[Wq] at this;exact this
section
variable{es:Array (Int×As)}{t:CU}
theorem stored(ho:h.get? S=uA o)(e8:o.ExactSet)(hd:o.data=.set es ep t)(cE:Array (Int×As))(t':CU) :
  ∃o' l8,(h.update S (VO cE t')).get? S=uA o'/\o'.ExactSet/\o'.data=.set cE l8 t':=by
 have hg:(h.update S (VO cE t')).get? S=uA {o with data:=.set cE (ep+1) t'}:=by
  have:=Db (VO cE t') ho (by rw[putSet_of cE t' hd];rfl);rw[putSet_of cE t' hd] at this;exact this
 exact⟨_,_,hg,e8,rfl⟩
theorem ABq(hs:s.heap=h)(ho:h.get? S=uA o)(e8:o.ExactSet)(hd:o.data=.set es ep t)(T:Tab t)(hl:es.size=t.place.size)(hel:es.toList=ks.map λx=>(hsh prog w x.1,AV x.2))
  (nd:(ks.map (·.1)).Nodup) (hU:t.mask*3<=t.place.size*5) (kN:(t.place.size-1)*5<t.mask*3) (mI:ks.length<=301) (fk:t.plain=true) (hld:t.led=ledOf w) {Q:uO}
  (q:∀h' cE t' cK,EH S h h'->TS prog w h' S cE t' cK->cK.Perm ks->Q () {s with heap:=h'}) :
  wpAny (AM prog w) A (Y5 S (VQ es.size)) Q E s:=by
 subst hs;have qR:ks.length=es.size:=by
  have:=congrArg DI hel;rw[AB,A2] at this;exact this.symm
 have key:∃M,sizeAbove (VQ es.size)=M+1/\Mask M/\es.size<=M/\es.size*5<M*3:=by
  rcases T.mask with e| e| e| e
  .have:es.size=5:=by rw[e] at hU kN;lia
   rw[this];exact⟨31,by decide,.inr (.inl rfl),by decide,by decide⟩
  .have:es.size=19:=by rw[e] at hU kN;lia
   rw[this];exact⟨127,by decide,.inr (.inr (.inl rfl)),by decide,by decide⟩
  .have:es.size=77:=by rw[e] at hU kN;lia
   rw[this];exact⟨511,by decide,.inr (.inr (.inr rfl)),by decide,by decide⟩
  .rw[e] at hU
   lia
 obtain⟨M,eM,hM,hle,tZ⟩:=key;unfold Y5;refine Ap (FD ho hd (Hf T hl) ?_);dsimp only;have hz:¬ (sizeAbove (VQ es.size)>sizeLine):=by
  rw[eM,FY];rcases hM with e| e| e| e<;>lia
 rw[uD hz];obtain⟨place,bp,el,T2,hps,qX,L2⟩:=AEb hM (hashes:=es.map (·.1)) (by simpa using hle) t.finger (t.movedTo M) t.led t.plain;have erl:t.relaid (es.map (·.1)) (VQ es.size)=uA ({mask:=M,place:=place,dummies:=#[],finger:=t.finger,led:=t.led,moves:=t.movedTo M,plain:=t.plain},bp):=by
  unfold relaid;rw[eM];exact el
 refine Ap ?_;show wpAny _ _ (do
  let uA (t,bp):=t.relaid (es.map (·.1)) (VQ es.size)| unsupported "internal:set-table-without-room"
  let cE:=bp.filterMap (es[·]?)
  if cE.size != es.size then unsupported "internal:set-table-lost-an-element"
  pure (cE,t)) _ _ _
 rw[erl];dsimp only;have hsz:(es.map (·.1)).size=es.toList.length:=by simp
 rw[hsz] at qX;have ef:(bp.filterMap (es[·]?)).toList=bp.toList.filterMap λi=>es.toList[i]?:=by
  rw[Array.toList_filterMap]
  congr 1
  funext i
  rw[BV]
 have hp:=JV qX;have rC:(bp.filterMap (es[·]?)).size=es.size:=by
  rw[<- A2,ef,hp.length_eq,A2]
 rw[uD (by rw[rC];simp)];refine AC ?_;dsimp only;refine TW ho hd ?_ (by rw[rC,FY];rcases hM with e| e| e| e<;>lia);obtain⟨o',l8,dS,on,eW⟩:=stored ho e8 hd (bp.filterMap (es[·]?)) {mask:=M,place:=place,dummies:=#[],finger:=t.finger,led:=t.led,moves:=t.movedTo M,plain:=t.plain};have hpk:(bp.toList.filterMap λi=>ks[i]?).Perm ks:=JV (by rw[A2] at qX;rw[qR];exact qX);refine q _ _ _ (bp.toList.filterMap λi=>ks[i]?) (D4 ..) ⟨⟨o',l8,dS,on,eW⟩,T2,?_,?_,?_,?_,?_,fk,hld⟩ hpk
 .rw[rC,hps];simp
 .have e1:(bp.filterMap (es[·]?)).toList.map (·.1)=bp.toList.map λi=>(es.map (·.1)).toList.getD i 0:=by
   rw[ef,JH (0,CY) (λi hi=>by have:=AN.mp (qX.mem_iff.mp hi);exact this),DL];refine G8 λi hi=>?_;have ci:=AN.mp (qX.mem_iff.mp hi);have ls:i<es.size:=by simpa using ci
   simp[AD,ls]
  rw[e1];exact L2
 .rw[ef,hel,List.map_filterMap]
  congr 1
  funext i
  rw[AY]
 .exact(M9 (hpk.map (·.1))).mpr nd
 .rw[hps]
  simpa using tZ
def Added(ks:List (uJ×Addr))(k:uJ)(a:Addr)(cK:List (uJ×Addr)):Prop:=(k∈ks.map (·.1)/\cK=ks)\/(k∉ks.map (·.1)/\cK.Perm ((k,a)::ks))
theorem WR{k:uJ}(X:TS prog w s.heap S es t ks)(hK:∀x∈ks,IK prog w s.heap x.1 x.2)(hk:IK prog w s.heap k a)(hu:A.units<C0)(h60:ks.length<=300){Q:uN}
  (q:∀b h' cE t' cK,EH S s.heap h'->TS prog w h' S cE t' cK->Added ks k a cK->Q b {s with heap:=h'}) :
  wpAny (AM prog w) A (setAddHashed S (.ref a) (hsh prog w k)) Q E s:=by
 obtain⟨o,ep,ho,e8,hd⟩:=X.obj;have hf:=Hf X.tab X.len;have i5:Fine t.mask (t.probeStart (hsh prog w k)):=Fine.start t _;have qR:ks.length=t.place.size:=by
  have:=congrArg DI X.els;rw[AB,A2,X.len] at this;exact this.symm
 obtain⟨m0,hm0,nm0⟩:=Ng X.tab.mask X.tab.size i5 (QV (hsh prog w k));obtain⟨N,hN,pP⟩:=Vx (P:=λm=>way t (t.probeStart (hsh prog w k)) m∉t.place.toList) m0 nm0;have hNle:N<=m0:=Bn λc=>pP m0 (vY c) nm0;have hB:∀m,m<N->way t (t.probeStart (hsh prog w k)) m∈t.place.toList:=λm hm=>Bn λc=>pP m hm c;have hM:t.mask<=511:=by rcases X.tab.mask with e| e| e| e<;>lia
 unfold setAddHashed setAddHashedIn;refine D8 (Ap (FD ho hd hf ?_));dsimp only;have hbs:byScan (.ref a) es=false:=rfl;rw[hbs];unfold setSearch;refine Ap (ZJ X hK hk hu hN hB ?_ ?_ 100000 0 uB (A7 _) (by unfold OL at hm0;lia) rfl (λm hm=>uI hm vd))
 .intro lL
  exact AC (by
   have:=q false s.heap es t ks (ar S s.heap) X (.inl ⟨lL,rfl⟩);exact this)
 .intro hnm
  dsimp only;refine Ap (FD ho hd hf ?_);dsimp only;generalize hj:way t (t.probeStart (hsh prog w k)) N=j;have P:Put t j:=by
   refine⟨?_,?_,?_⟩
   .rw[<- hj];exact(i5.iter N).j
   .rw[<- hj];exact hN
   .have:=X.few
    rcases X.tab.mask with e| e| e| e<;>rw[e] at this ⊢<;>lia
  have T1:=ADw X.tab P;have L1:=ADn X.tab (by rw[AB,A2,X.len]) X.loc hB;rw[hj] at L1;obtain⟨e1,e2⟩:=Jh X.tab (j:=j);have b3:=(FP (j:=j) X.tab.rise).2.2;have pm:(t.put j).1.mask=t.mask:=by rw[e1]
  have pp:(t.put j).1.plain=true:=by rw[e1];exact X.pl
  have pd:(t.put j).1.led=ledOf w:=by rw[e1];exact X.ld
  have ps:(t.put j).1.place.size=t.place.size+1:=by
   rw[e1];have:=congrArg DI (Bb t.place (below t.place j) j);simp at this;show(EI t.place (below t.place j) j).size=_;lia
  rw[e2] at L1;generalize hp:below t.place j=p at *;generalize qS:(t.put j).1=t1 at *;have rW:(EI es p (hsh prog w k,AV a)).toList=(ks.take p++[(k,a)]++ks.drop p).map λx=>(hsh prog w x.1,AV x.2):=by
   rw[Bb,X.els,BE,BE,W7,W8];rfl
  have nV:(EI es p (hsh prog w k,AV a)).size=es.size+1:=by
   have:=congrArg DI (Bb es p (hsh prog w k,AV a));simp at this;have:=X.len;lia
  have iq:(ks.take p++[(k,a)]++ks.drop p).Perm ((k,a)::ks):=by
   have:=List.perm_middle (a:=(k,a)) (l₁:=ks.take p) (l₂:=ks.drop p);rw[FX] at this;rw[B9];exact this
  have nd1:=(M9 (iq.map (·.1))).mpr (by rw[BU];exact DE.mpr ⟨hnm,X.nd⟩);have fz:(EI es p (hsh prog w k,AV a)).toList.map (·.1)=(es.toList.map (·.1)).take p++[hsh prog w k]++(es.toList.map (·.1)).drop p:=by
   rw[Bb,BE,BE,W7,W8];rfl
  have e3:=e2;have go:∀(t2:CU),Tab t2->t2.mask=t1.mask->t2.place=t1.place->t2.plain=true->t2.led=ledOf w->wpAny (AM prog w) A (do
    storeSet S (EI es p (hsh prog w k,AV a)) t2
    if(!false&&t2.tooFull)=true then do
     Y5 S (VQ (es.size+1))
     pure true
    else pure true) Q E s:=by
   intro t2 T2 m2 p2 q2 r2;refine Ap (TW ho hd ?_ (by rw[nV,FY];have:=X.len;lia));obtain⟨o',l8,dS,on,eW⟩:=stored ho e8 hd (EI es p (hsh prog w k,AV a)) t2;have L2:Loc t2 ((EI es p (hsh prog w k,AV a)).toList.map (·.1)):=by
    rw[fz];intro bo jj h' a1 a2;rw[p2] at a1;obtain⟨m,w1,w2⟩:=L1 bo jj h' a1 a2;refine⟨m,?_,λm' fg=>?_⟩
    .unfold way probeStart at w1 ⊢
     rw[m2];exact w1
    .have:=w2 m' fg
     unfold way probeStart at this ⊢;rw[m2,p2];exact this
   have tf:t2.tooFull=decide (t.mask*3<=(t.place.size+1)*5):=by
    unfold tooFull;rw[XS T2,p2,m2,ps,pm]
   rw[tf];by_cases c:t.mask*3<=(t.place.size+1)*5
   .rw[uF c]
    rw[<- nV];refine Ap (ABq (ks:=ks.take p++[(k,a)]++ks.drop p) rfl dS on eW T2 (by rw[nV,p2,ps,X.len]) rW nd1 ?_ ?_ ?_ q2 r2 ?_)
    .rw[p2,m2,ps,pm];exact c
    .rw[p2,m2,ps,pm]
     have:=X.few;lia
    .rw[iq.length_eq]
     simp;exact h60
    .intro h' cE t' cK sb X' pk
     exact AC (q true h' cE t' cK ((D4 ..).trans sb) X' (.inr ⟨hnm,pk.trans iq⟩))
   .rw[uG c]
    exact AC (q true _ _ t2 _ (D4 ..) ⟨⟨o',l8,dS,on,eW⟩,T2,by rw[nV,p2,ps,X.len],L2,rW,nd1,by rw[p2,m2,ps,pm];exact vY c,q2,r2⟩ (.inr ⟨hnm,iq⟩))
  rw[e3];simp only[pp,if_true];refine Ap (ADf hk ?_);exact go t1 T1 rfl rfl pp pd
theorem AFk{k:uJ}(X:TS prog w s.heap S es t ks)(hK:∀x∈ks,IK prog w s.heap x.1 x.2)(hk:IK prog w s.heap k a)(hu:A.units<C0)(h60:ks.length<=300){Q:uN}
  (q:∀b h' cE t' cK,EH S s.heap h'->TS prog w h' S cE t' cK->Added ks k a cK->Q b {s with heap:=h',toks:=s.toks+(k.length+1)}) :
  wpAny (AM prog w) A (setAdd S (.ref a)) Q E s:=by
 unfold setAdd;refine D8 ?_;refine Ap (wpAny_pyHash_tuple hu hk ?_);exact WR (s:={s with toks:=s.toks+(k.length+1)}) X hK hk hu h60 λb h' cE t' cK sb X' ad=>q b h' cE t' cK sb X' ad
end
structure Of(vals:Nat->uJ×Addr)(i:Nat)(ks:List (uJ×Addr)):Prop where
 sub:∀x∈ks,∃j,j<i/\x=vals j
 sup:∀j,j<i->(vals j).1∈ks.map (·.1)
 len:ks.length<=i
theorem Of.next{cK:List (uJ×Addr)}(h:Of vals i ks)(a:Added ks (vals i).1 (vals i).2 cK):Of vals (i+1) cK:=by
 rcases a with⟨hm,rfl⟩| ⟨hm,p⟩
 .refine⟨λx hx=>?_,λj hj=>?_,by have:=h.len;exact vK this⟩
  .obtain⟨j,hj,e⟩:=h.sub x hx
   exact⟨j,vg hj,e⟩
  .by_cases c:j=i
   .rw[c];exact hm
   .exact h.sup j (wo hj c)
 .refine⟨λx hx=>?_,λj hj=>?_,by rw[p.length_eq];have:=h.len;simp;exact this⟩
  .rcases AS.mp (p.mem_iff.mp hx) with e| hx
   .exact⟨i,vH,e⟩
   .obtain⟨j,hj,e⟩:=h.sub x hx
    exact⟨j,vg hj,e⟩
  .have pm:=(p.map (·.1)).mem_iff (a:=(vals j).1)
   by_cases c:j=i
   .subst c
    exact pm.mpr (by rw[BU];exact AI)
   .exact pm.mpr (by rw[BU];exact AL _ (h.sup j (wo hj c)))
theorem Hh{k:uJ}(hk:IK prog w h k a)(e:∀o,h.get? a=uA o->h'.get? a=uA o):IK prog w h' k a:=by
 obtain⟨o,items,n,ho,r⟩:=hk;exact⟨o,items,n,e o ho,r⟩
theorem YZ{es:Array (Int×As)}{t:CU}(X:TS prog w h S es t ks)(e:∀o,h.get? S=uA o->h'.get? S=uA o):TS prog w h' S es t ks:=by
 obtain⟨o,ep,ho,r⟩:=X.obj;exact⟨⟨o,ep,e o ho,r⟩,X.tab,X.len,X.loc,X.els,X.nd,X.few,X.pl,X.ld⟩
theorem ADJ{led:Bool}(hw:led=ledOf w)(hg:h.get? S=uA {cls:=.type "set",dict:=uB,data:=.set #[] 0 (.fresh 0 0 led)}):TS prog w h S #[] (.fresh 0 0 led) []:=by
 refine⟨⟨_,0,hg,⟨rfl,rfl,rfl⟩,rfl⟩,⟨.inl rfl,rfl,A7 _,λj hj=>(by cases hj),.nil⟩,rfl,λbo j h' a=>?_,rfl,.nil,by show 0*5<7*3;decide,rfl,hw⟩;cases a
theorem ABP(a:As){Q₁:As->AA->Prop}(h:Q₁ (.ref s.heap.objs.size) {s with heap:=s.heap.push {cls:=.type "set",dict:=uB,data:=.set #[] 0 (.fresh 0 0 (ledOf w))}}) :
  codeAny (AM prog w) A (.call (.builtin "set.__new__") ⟨[.type "set",a],[]⟩) (wants Q₁ E) s:=by
 refine VS ?_;refine Ap (L7 (F.newCall_set_1 a) (AC ⟨Mc VT _,EK F.entry_set_new ?_⟩));rw[Fn VT _];unfold Builtin.«set.__new__» W9;have sself:=sub_set_self;obtain⟨hp,g,d,tk,os⟩:=s;dsimp only
 wp_walk
 refine Kt (AC ?_);refine Ap (wpAny_alloc (AC ?_));exact AC h
theorem ABV{l:List α}:∀{k:Nat}{y:α},l[k]?=uA y->(y::l.eraseIdx k).Perm l:=by
 induction l with
 | nil=>intro k y h;simp at h
 | cons a t ih =>
  intro k y h;cases k with
  | zero =>
   obtain rfl:a=y:=by simpa using h
   exact LF _
  | succ k =>
   have h':t[k]?=uA y:=by simpa using h
   exact(Q7 a y _).trans (Q5 a (ih h'))
set_option tactic.hygienic true in
theorem XD{α:Type}(next:Nat->Nat):∀(bn k:Nat) (left:List α) (out:Array α),left.length<=bn->(Y6 next bn k left out).toList.Perm (out.toList++left)
 | 0,k,left,out,h=>by
  have:left=[]:=G4.mp (by lia);subst this;rw[B3];exact LF _
 | bn+1,k,left,out,h=>by
  unfold Y6;cases e:left[next k%left.length]? with
  | none =>
   have hl:left=[]:=by
    cases left with
    | nil=>rfl
    | cons a t =>
     have:=M4 (next k) (show 0<(a::t).length by simp);rw[AG this] at e;cases e
   subst hl;rw[B3]
  | some x =>
   have hi:=(AO.mp e).1;have hl:=List.length_eraseIdx_of_lt hi;have ih:=XD next bn (k+1) (left.eraseIdx (next k%left.length)) (out.push x) (xD hl h)
   refine ih.trans ?_;rw[HR,B9];exact E3 _ (ABV e)
set_option tactic.hygienic true in
theorem AEg(next:Nat->Nat)(xs:Array α):(Ta next xs).toList.Perm xs.toList:=by
 have:=XD next xs.size 0 xs.toList #[] (by simp)
 unfold Ta;simpa using this
namespace F
theorem Kd:Y7 table "set.__iter__" = uA Builtin.«frozenset.__iter__» :=
 entryFor_alias (id':="frozenset.__iter__") (by kernel_rfl) (by first| rfl| decide+kernel) (by decide+kernel) (by kernel_rfl)
theorem Ui:Manifest.owners.lookup (String.ofList ['r','o','t','a','r','e','t','i','_','t','e','s'].reverse)=uA Manifest.sig_set_iterator:=by kernel_rfl
theorem Dz:Slot "set_iterator" "__next__" "set_iterator.__next__":=.of (owner:="set_iterator") (n:="__next__") (by rw[VU,Q8];kernel_rfl) (by decide+kernel) (by decide+kernel) (by decide+kernel) (by first| exact .inl (by decide+kernel)| exact .inr (by decide+kernel)) (by rw[Q9];kernel_rfl)
theorem NP:Y7 table "set_iterator.__next__" = uA Builtin.«set_iterator.__next__»:=entryFor_of_tree (by kernel_rfl)
theorem RM(a:As):Y8 "set_iterator.__next__" ⟨[a],[]⟩:=by
 unfold Y8;rw[signature?_of (id:="set_iterator.__next__") (n:=['_','_','t','x','e','n','_','_']) (o:=['r','o','t','a','r','e','t','i','_','t','e','s']) (by kernel_rfl) Ui];kernel_rfl
theorem JF:Slot "set_iterator" "__iter__" "set_iterator.__iter__":=.of (owner:="set_iterator") (n:="__iter__") (by rw[VU,Q8];kernel_rfl) (by decide+kernel) (by decide+kernel) (by decide+kernel) (by first| exact .inl (by decide+kernel)| exact .inr (by decide+kernel)) (by rw[Q9];kernel_rfl)
theorem QK(a:As):Y8 "set_iterator.__iter__" ⟨[a],[]⟩:=by
 unfold Y8;rw[signature?_of (id:="set_iterator.__iter__") (n:=['_','_','r','e','t','i','_','_']) (o:=['r','o','t','a','r','e','t','i','_','t','e','s']) (by kernel_rfl) Ui];kernel_rfl
theorem Mw:Y7 table "set_iterator.__iter__" = uA Builtin.«dict_keyiterator.__iter__» :=
 entryFor_alias (id':="dict_keyiterator.__iter__") (by kernel_rfl) (by first| rfl| decide+kernel| (unfold String.splitOn;simp +decide [String.splitOnAux])) (by decide+kernel) (by kernel_rfl)
end F
def SI(h:Heap)(I S:Addr)(slot i n ep:Nat):Prop:=∃o,h.get? I=uA o/\o.cls=.type "set_iterator"/\o.data=.fields #[EM slot,EM i,.ref S,EM n,EM ep]
theorem SI.typeIs{slot:Nat}(x:SI s.heap I S slot i n ep):s.TypeIs (.ref I) "set_iterator":=let ⟨o,ho,hc,_⟩:=x;⟨o,ho,hc⟩
section
variable{es:Array (Int×As)}{t:CU}
noncomputable def text(w:AQ):Bool:=w.params.followText "set-order"
noncomputable def ord(w:AQ)(S:Addr)(ep:Nat)(es:Array (Int×As)):Array (Int×As):=if text w=true then Ta (w.params.setOrder S ep) es else es
theorem TY(w:AQ)(S:Addr)(ep:Nat)(es:Array (Int×As)):(ord w S ep es).toList.Perm es.toList:=by
 unfold ord;split
 .exact AEg _ _
 .exact LF _
noncomputable def slotAt(w:AQ)(t:CU)(i:Nat):Nat:=if text w=true then 0 else if i=0 then 0 else t.place.getD (i-1) 0+1
theorem Wy(hx:text w=false)(T:Tab t)(hi:i<=t.place.size):below t.place (slotAt w t i)=i:=by
 obtain⟨b1,b2,b3⟩:=FP (j:=slotAt w t i) T.rise;have r:=CM.mp T.rise;have gd:∀k (hk:k<t.place.size) d,t.place.getD k d=t.place.toList[k]'(by simpa using hk):=λk hk d=>by simp[EA,hk]
 have sl:∀h0:i≠0,slotAt w t i=t.place.toList[i-1]'(by simp;exact xF h0 hi)+1:=λh0=>by
  unfold slotAt;rw[hx,uD (by decide),uD h0,gd (i-1) (xF h0 hi)]
 rcases OB (below t.place (slotAt w t i)) i with c| c| c
 .have z:=b2 _ (AF _) (uP c hi)
  rw[gd _ (uP c hi)] at z;have slz:=sl (by lia);by_cases d:below t.place (slotAt w t i)=i-1
  .have:t.place.toList[below t.place (slotAt w t i)]'(by simp;exact uP c hi)=t.place.toList[i-1]'(by simp;exact xG hi c):=by congr 1
   lia
  .have:=r (below t.place (slotAt w t i)) (i-1) (by simp;exact uP c hi) (by simp;exact xG hi c) (by lia)
   lia
 .exact c
 .have z:=b1 i c
  rw[gd i (uP c b3)] at z;by_cases h0:i=0
  .have:slotAt w t i=0:=by unfold slotAt;rw[hx,uD (by decide),uE h0]
   lia
  .have slz:=sl h0
   have:=r (i-1) i (by simp;lia) (by simp;exact uP c b3) (by lia);lia
theorem AEl(ho:s.heap.get? S=uA o)(hd:o.data=.set es ep t)(T:Tab t)(hl:es.size=t.place.size)(hp:t.plain=true)(dC:t.led=ledOf w){Q:Option (As×Nat)->AA->Prop}
  (q:Q (((ord w S ep es)[i]?).map λe=>(e.2,slotAt w t (i+1))) s) (hi:i<=es.size):wpAny (AM prog w) A (setNext S (slotAt w t i) i ep) Q E s:=by
 have hf:=Hf T hl;unfold setNext;refine Ap (FD ho hd hf ?_);dsimp only;unfold VW;refine Ap (Ap (Kt (AC ?_)));cases hx:text w with
 | true =>
  have md:(AM prog w).w.params.followText "set-order" = true:=hx;simp only[md,if_true,bne_self_eq_false,Ct,if_false];unfold setWalk VW;refine Ap (Ap (FD ho hd hf ?_));refine Ap (Ap (Kt (AC ?_)));simp only[md,if_true];refine Ap (Kt (AC ?_));refine AC ?_;have e1:ord w S ep es=Ta (w.params.setOrder S ep) es:=by unfold ord;rw[hx];rfl
  have e2:∀i,slotAt w t i=0:=λi=>by unfold slotAt;rw[hx];rfl
  rw[e1,e2] at q;rw[e2];exact q
 | false =>
  have md:(AM prog w).w.params.followText "set-order" = false:=hx;have tF:t.led=true:=by rw[dC];unfold ledOf;rw[show w.params.followText "set-order" = false from hx];rfl
  have e1:ord w S ep es=es:=by unfold ord;rw[hx];rfl
  rw[e1] at q;simp only[md,Ct,if_false];refine KS (λhab=>?_) (λ_=>?_)
  .have lv:(!t.plain&&decide (es.size>1))=true:=hab
   rw[hp] at lv;cases lv
  refine Ap ?_;show wpAny _ _ (if(!t.led && !es.isEmpty)=true then unsupported "set:maker-not-led" else pure ()) _ _ _;rw[tF];refine AC (AC ?_);rw[Wy hx T (by rw[<- hl];exact hi)];by_cases c:i<es.size
  .have c2:i<t.place.size:=by rw[<- hl];exact c
   rw[Be c] at q ⊢;rw[Be c2];have e3:slotAt w t (i+1)=t.place[i]+1:=by
    unfold slotAt;rw[hx,uD (by decide),uD (by lia)];simp[EA,c2]
   rw[e3] at q;exact q
  .rw[Hk (by lia)] at q ⊢
   exact q
def SSt(w:AQ)(I S:Addr)(o:Obj)(es:Array (Int×As))(t:CU)(ep i:Nat)(h:Heap):Prop:=h.get? S=uA o/\SI h I S (slotAt w t i) i es.size ep
theorem Xr(hh:A.handled=uB)(gI:S≠I)(hd:o.data=.set es ep t)(T:Tab t)(hl:es.size=t.place.size)(hp:t.plain=true)(dC:t.led=ledOf w)(st:SSt w I S o es t ep i s.heap)(hi:i<=es.size){Q:Option As->AA->Prop}
  (q1:∀e h',(ord w S ep es)[i]?=uA e->SSt w I S o es t ep (i+1) h'->EH I s.heap h'->Q (uA e.2) {s with heap:=h'})
  (q2:(ord w S ep es)[i]?=none->∀h',T6 I s.heap h'->Q uB {s with heap:=h'}):wpAny (AM prog w) A (IU (.ref I)) Q E s:=by
 obtain⟨ho,x⟩:=st;obtain⟨oi,qM,hci,tU⟩:=id x;unfold IU;refine Ap (KG (wpAny_callSpecial?_slot (name:=F6 "__next__") x.typeIs F.Dz (Dx F.Dz x.typeIs F.NP ?_ (F.RM _))));unfold Builtin.«set_iterator.__next__»;refine Ap (L7 (a:=(AV I,[])) rfl ?_)
 try dsimp only
 refine Ap (QU qM tU ?_);refine Ap (Sm ho hd (Hf T hl) ?_);simp only[bne_self_eq_false,Ct,if_false];show wpAny _ _ (setNext S (((slotAt w t i:Nat):Int)).toNat (((i:Nat):Int)).toNat (((ep:Nat):Int)).toNat >>= _) _ _ s;rw[Cf,Cf,Cf];refine Ap (AEl ho hd T hl hp dC ?_ hi);cases e:(ord w S ep es)[i]? with
 | some v =>
  refine Ap (FU qM tU (by simp) ?_);have g1:=Db (G2 (λfs=>fs.setIfInBounds 0 (EM ((slotAt w t (i+1):Nat):Int)))) qM (EX (Da tU _));have d1:=Da tU (λfs=>fs.setIfInBounds 0 (EM ((slotAt w t (i+1):Nat):Int)));refine Ap (FU g1 d1 (by simp) ?_);have g2:=Db (G2 (λfs=>fs.setIfInBounds 1 (EM ((i:Int)+1)))) g1 (EX (Da d1 _));have d2:=Da d1 (λfs=>fs.setIfInBounds 1 (EM ((i:Int)+1)));refine AC ⟨_,rfl,AC (q1 v _ e ⟨?_,_,g2,?_,?_⟩ ((D4 ..).trans (D4 ..)))⟩
  .exact(DA _ _ (CF gI)).trans ((DA _ _ (CF gI)).trans ho)
  .exact(J1 ..).trans ((J1 ..).trans hci)
  .rw[d2]
   simp
 | none =>
  refine Ap (FU qM tU (by simp) ?_);refine Ap ?_;refine Ap (C8 ?_ (by size_fits));refine Ap (m:=J4 _ _) (L7 (a:=CY) (by first| rfl| (simp only[J4];rfl)) ?_);refine C8 ?_ (by size_fits);refine Ap (R9 ?_);rw[show A.in1.handled=uB from hh];refine Ap (AC (T7 ?_));refine Ap (IC (T:="StopIteration") (b:=true) ⟨_,AT _ rfl,rfl⟩ Q0 ?_);exact AC (q2 e _ (((D4 ..).extBut.push _).push _))
theorem Kf(w:AQ)(S:Addr)(ep:Nat)(es:Array (Int×As)):(ord w S ep es).size=es.size:=by
 rw[<- A2,(TY w S ep es).length_eq,A2]
theorem Yp(hh:A.handled=uB)(gI:S≠I)(hd:o.data=.set es ep t)(T:Tab t)(hl:es.size=t.place.size)(hp:t.plain=true)(dC:t.led=ledOf w) :
  Walks prog w A I [I,S] [I] es.size (λi v=>∃e,(ord w S ep es)[i]?=uA e/\v=e.2) (λi h=>i<=es.size/\SSt w I S o es t ep i h) where
 sub:=λb hb=>by simp at hb;simp[hb]
 frame:=λi h h' ⟨hi,h1,oi,h2,r⟩ hk=>⟨hi,hk S (by simp) o h1,oi,hk I (by simp) oi h2,r⟩
 item:=λi s Q E hi ⟨ci,st⟩ hQ=>by
  refine Xr hh gI hd T hl hp dC st ci (λe h' ge bh sb=>hQ _ h' s.toks ⟨e,ge,rfl⟩ ⟨hi,bh⟩ λb ob hb eo=>?_) (λz=>?_)
  .rw[sb.2 b (λ(q:b=I)=>hb (by simp[q]))]
   exact eo
  .have:=Kf w S ep es
   rw[Array.getElem?_eq_none_iff] at z;lia
 done:=λs Q E ⟨_,st⟩ hQ=>by
  refine Xr hh gI hd T hl hp dC st (AF _) (λe h' ge bh sb=>?_) (λz h' eb=>hQ h' s.toks λb ob hb eo=>eb b ob (λq=>hb (by simp[q])) eo);have:=(Cn.mp ge).1;rw[Kf] at this;lia
 self:=λi s Q E ⟨_,_,x⟩ hQ=>by
  refine OA x.typeIs F.JF (Dx F.JF x.typeIs F.Mw ?_ (F.QK _));exact AC ⟨_,rfl, "set_iterator",_,x.typeIs,F.Dz.lookup,hQ⟩
theorem ACp(ho:s.heap.get? S=uA o)(e8:o.ExactSet)(hd:o.data=.set es ep t)(T:Tab t)(hl:es.size=t.place.size)(hp:t.plain=true)
  (q:∀x,(s.heap.push x).get? s.heap.objs.size=uA x->SSt w s.heap.objs.size S o es t ep 0 (s.heap.push x)->Q (.ref s.heap.objs.size) {s with heap:=s.heap.push x}):wpAny (AM prog w) A (Qr (.ref S)) Q E s:=by
 have hf:=Hf T hl;have tS:s.TypeIs (.ref S) "set":=⟨o,ho,e8.1⟩;refine OA tS Rc (Dx Rc tS F.Kd ?_ (PySem.F.args_set_iter_1 _));unfold Builtin.«frozenset.__iter__»;refine Ap (L7 (a:=S) rfl ?_);refine Ap (m:=Y9 S) (Ap (Sm ho hd hf (AC ?_)));refine Ap (m:=setDrawn S) ?_;unfold setDrawn VW;refine Ap (FD ho hd hf ?_);refine Ap (Ap (Kt (AC ?_)));refine AC ?_;refine KS (λhab=>?_) (λ_=>?_)
 .have lv:(!w.params.followText "set-order" && (!t.plain&&decide (es.size>1)))=true:=hab
  rw[hp] at lv;simp at lv
 refine Ap (AC ?_);refine Ap (wpAny_setEpoch_of ho hd hf ?_);unfold newFields;refine Ap (C8 ?_);have z:slotAt w t 0=0:=by
  unfold slotAt;split
  .rfl
  .rfl
 refine AC ⟨_,rfl, "set_iterator",_,⟨_,AT _ rfl,rfl⟩,F.Dz.lookup,q _ (AT _ rfl) ⟨AH _ ho,_,AT _ rfl,rfl,?_⟩⟩;rw[z];rfl
theorem ABj(ho:s.heap.get? S=uA o)(e8:o.ExactSet){Q:uN}(h:Q false s):wpAny (AM prog w) A (N0 (.ref S)) Q E s:=by
 have tS:s.TypeIs (.ref S) "set":=⟨o,ho,e8.1⟩;unfold N0;refine Ap (JA tS PySem.F.slot_set_len.lookup ?_);generalize hid:("set.__len__" : String)=id0
 wp_delta
 rw[show splitId id0=uA ("set","__len__") from by subst hid;decide+kernel];subst hid;refine Ap (IC (T:="set") (b:=true) tS (by rw[Q9];kernel_rfl) ?_);refine KS (λhab=>uI hab (by decide)) (λ_=>?_);refine KS (λ_=>?_) (λhab=>uI (by decide+kernel) hab);refine Ap (MW tS ?_);exact AC h
theorem WW(hh:A.handled=uB)(ho:s.heap.get? S=uA o)(e8:o.ExactSet)(hd:o.data=.set es ep t)(T:Tab t)(hl:es.size=t.place.size)(hp:t.plain=true)(dC:t.led=ledOf w)(mI:es.size<=301)
  (D:Addr) (res:As) (c₀:Nat) (hD:s.heap.get? D=uA {cls:=.type "list",data:=.seq #[] c₀})
  (hR:∀h' tk bi c',(∀b ob,b≠D->s.heap.get? b=uA ob->h'.get? b=uA ob)->h'.get? D=uA {cls:=.type "list",dict:=uB,data:=.seq bi c',slots:=#[]} ->
   ItemsOf (λi v=>∃e,(ord w S ep es)[i]?=uA e/\v=e.2) bi es.size->R (.ok (.ret res)) {s with heap:=h',toks:=tk}) :
  wpAny (AM prog w) A.in1 (Hm (.ref D) (.ref S) res)
   (λfin s'=>match fin with| .done f=>R (.ok f) s' | .again c'=>c'.quiet=true/\codeAny (AM prog w) A c' R s') (λe s'=>R (.error e) s') s:=by
 have tS:s.TypeIs (.ref S) "set":=⟨o,ho,e8.1⟩;have nDS:D≠S:=λe=>by
  rw[e,ho] at hD;cases hD;cases hd
 have nSI:=BH (AW ho);have nDI:=BH (AW hD);have nDf:D∉[s.heap.objs.size,S]:=λhm=>by
  rcases AS.mp hm with e| hm
  .exact nDI e
  .exact nDS (Bi.mp hm)
 have W:=(Yp (prog:=prog) (A:=A.in1) (o:=o) hh nSI hd T hl hp dC).toS;unfold Hm;refine Ap (MW (T:="set") tS ?_);have c1:O0 (.ref D) (.ref S)=false:=by simp[O0,nDS]
 have c2:(C4 "set" == C4 "list")=false:=by decide
 have c3:(C4 "set" == C4 "tuple")=false:=by decide
 simp only[c1,c2,c3,W5,Ct,if_false];refine Ap (ACp ho e8 hd T hl hp λx gx st=>?_);refine Ap (D8 (ABj (s:={s with heap:=s.heap.push x}) (AH _ ho) e8 ?_));refine KS (λ_=>?_) (λhab=>uI (by decide+kernel) hab);have hD1:(s.heap.push x).get? D=uA {cls:=.type "list",data:=.seq #[] c₀}:=AH _ hD;refine Ap (F7 ?_);refine Ap ?_;refine Ap (VX hD1 rfl ?_);have qG:=Db (Eg (·.push CY)) hD1 rfl;refine VX (hz:=by seq_fits) qG rfl ?_;have hD3:=Db (Eg (·.pop)) qG rfl;have keep:∀b ob,b≠D->(s.heap.push x).get? b=uA ob->(((s.heap.push x).update D (Eg (·.push CY))).update D (Eg (·.pop))).get? b=uA ob:=λb ob hb e=>(DA _ _ (CF hb)).trans ((DA _ _ (CF hb)).trans e);obtain⟨st1,oi,b6,e9⟩:=st;refine AC ⟨Mc F.plain_extend_loop _,?_⟩;refine codeAny_extend_loopS W (by rw[FY];lia) D nDf res es.size 0 _ _ _ rfl (A7 _) ⟨A7 _,keep S o nDS.symm st1,oi,keep _ oi (CF nDI) b6,e9⟩ hD3 (ItemsOf.nil _) λs' bi c' hm fi bj=>?_;rw[Moved.eq_with hm];refine hR s'.heap s'.toks bi c' (λb ob hb e=>hm.heap b ob (λlL=>?_) (keep b ob hb (AH _ e))) fi bj;rcases AS.mp lL with e' | lL
 .exact hb e'
 .exact uI (AW e) (by rw[Bi.mp lL];exact Fh _)
end
end SB
namespace SB
open PySem PySem.W PyProof.Rows
def kw{α:Type}(lt:Nat->Nat->Bool)(n:Nat):KasT α->(α->Prop)->Prop
 | .ret a,Q=>Q a
 | .ask i j k,Q=>i<n/\j<n/\kw lt n (k (lt i j)) Q
noncomputable abbrev g(p:Array Nat)(k:Nat):Nat:=p.getD k 0
structure PP(n:Nat)(p:Array Nat):Prop where
 size:p.size=n
 lt:∀k,k<n->g p k<n
 inj:∀k k',k<n->k'<n->g p k=g p k'->k=k'
structure Tot(n:Nat)(lt:Nat->Nat->Bool):Prop where
 or:∀i j,i<n->j<n->i≠j->lt i j=false->lt j i=true
 as:∀i j,i<n->j<n->lt i j=true->lt j i=false
 tr:∀i j k,i<n->j<n->k<n->lt i j=true->lt j k=true->lt i k=true
def Up(lt:Nat->Nat->Bool)(p:Array Nat)(m:Nat):Prop:=∀a b,a<b->b<m->lt (g p a) (g p b)=true
section
variable{lt:Nat->Nat->Bool}{p:Array Nat}
theorem ACj(n:Nat):PP n (Lc (AK n)):=by
 have ge:∀k,k<n->g (Lc (AK n)) k=k:=λk hk=>by
  unfold g;rw[Hn];simp[hk]
 refine⟨by simp,λk hk=>by rw[ge k hk];exact hk,λk k' hk bu e=>?_⟩;rw[ge k hk,ge k' bu] at e;exact e
end
end SB
namespace TM
open PySem PyProof.Rows
def JM:Nat->Nat->StateT Bz Sem uW:=sortPriv% PySem.Builtin.countRun
theorem Qs(lo b5:Nat):JM lo b5=(do
 let mut n:=1
 for _ in [1:b5] do
  let uA smaller <- PD (lo+n) (lo+n-1)| return uB
  if smaller then break
  n:=n+1
 if n==b5 then return uA n
 if n>1 then
  let uA rose <- PD lo (lo+n-1)| return uB
  if rose then return uA n
  N9 lo (lo+n)
 rule "list.sort.descending-run"
 n:=n+1
 let mut neq:=0
 for _ in [n:b5] do
  let uA smaller <- PD (lo+n) (lo+n-1)| return uB
  if smaller then
   if neq>0 then N9 (lo+n-(neq+1)) (lo+n)
   neq:=0
  else
   let uA larger <- PD (lo+n-1) (lo+n)| return uB
   if larger then break
   neq:=neq+1
  n:=n+1
 if neq>0 then N9 (lo+n-(neq+1)) (lo+n)
 N9 lo (lo+n)
 for _ in [n:b5] do
  let uA smaller <- PD (lo+n) (lo+n-1)| return uB
  if smaller then break
  n:=n+1
 return uA n):=rfl
noncomputable def N(rk:AE->Int)(xs:Array AE)(i:Nat):Int:=match xs[i]? with
 | some p=>rk p
 | none=>0
variable{rk:AE->Int}
theorem Eo{xs ys:Array AE}(h:xs[i]?=ys[j]?):N rk xs i=N rk ys j:=by unfold N;rw[h]
def Al(G:AE->Prop)(xs:Array AE):Prop:=∀(i:Nat) (x:AE),xs[i]?=uA x->G x
theorem Al.perm{G:AE->Prop}{xs ys:Array AE}(h:Al G xs)(p:ys.Perm xs):Al G ys:=λi x e=>by
 have m:x∈ys.toList:=by
  obtain⟨hl,rfl⟩:=Cn.mp e;exact O1 hl
 have m2:=(HP.mp p).mem_iff.mp m;obtain⟨k,hk,e⟩:=CL.mp m2;exact h k x (by rw[<- BV,AG hk,e])
def Di(rk:AE->Int)(xs:Array AE):Prop:=(xs.toList.map rk).Nodup
theorem Di.perm{xs ys:Array AE}(h:Di rk xs)(p:ys.Perm xs):Di rk ys:=((HP.mp p).map rk).nodup_iff.mpr h
theorem Di.ne{xs:Array AE}(h:Di rk xs)(ij:i<j)(jl:j<xs.size):N rk xs i≠N rk xs j:=by
 have il:i<xs.size:=uV ij jl;have:=CM.mp h i j (by simpa using il) (by simpa using jl) ij;unfold N;rw[Be il,Be jl];simpa using this
def Up(rk:AE->Int)(xs:Array AE)(lo hi:Nat):Prop:=∀i j,lo<=i->i<=j->j<hi->N rk xs i<=N rk xs j
def Down(rk:AE->Int)(xs:Array AE)(lo hi:Nat):Prop:=∀i j,lo<=i->i<=j->j<hi->N rk xs j<=N rk xs i
structure Ba(G:AE->Prop)(rk:AE->Int)(κ:EJ)(a₀:Array AE)(st:Bz):Prop where
 perm:(AU st).Perm a₀
 kind:kindOf st=κ
 failed:GV st=uB
 all:Al G a₀
 di:Di rk a₀
structure Nx(lo:Nat)(st bh:Bz):Prop where
 perm:(AU bh).Perm (AU st)
 kind:kindOf bh=kindOf st
 failed:GV bh=GV st
 pend:BF bh=BF st
 low:∀i,i<lo->(AU bh)[i]?=(AU st)[i]?
theorem Nx.refl(lo:Nat)(st:Bz):Nx lo st st:=⟨VY _,rfl,rfl,rfl,λ_ _=>rfl⟩
theorem Nx.trans{lo:Nat}{a b c:Bz}(h:Nx lo a b)(k:Nx lo b c):Nx lo a c:=⟨k.perm.trans h.perm,k.kind.trans h.kind,k.failed.trans h.failed,k.pend.trans h.pend,λi hi=>(k.low i hi).trans (h.low i hi)⟩
theorem Ba.nx{G:AE->Prop}{lo:Nat}(h:Ba G rk κ a₀ st)(n:Nx lo st bh):Ba G rk κ a₀ bh:=⟨n.perm.trans h.perm,n.kind.trans h.kind,n.failed.trans h.failed,h.all,h.di⟩
theorem Ba.size{G:AE->Prop}(h:Ba G rk κ a₀ st):(AU st).size=a₀.size:=h.perm.size_eq
theorem Ba.ne{G:AE->Prop}(h:Ba G rk κ a₀ st)(ij:i<j)(jl:j<a₀.size):N rk (AU st) i≠N rk (AU st) j:=(h.di.perm h.perm).ne ij (by rw[h.size];exact jl)
section
variable{G:AE->Prop}
def Cmp(prog:AJ)(w:AQ)(A:BB)(E:As->AA->Prop)(s:AA)(κ:EJ)(G:AE->Prop)(rk:AE->Int):Prop :=
 ∀x y,G x->G y->∀(st:Bz) (Q:Option Bool->Bz->Prop),kindOf st=κ->Q (uA (decide (rk x<rk y))) st->wpS (AM prog w) A E s (lt' x y) Q st
theorem Bj{xs:Array AE}{Q:AE->Bz->Prop}(hi:i<xs.size)(h:Q xs[i] st):wpS (AM prog w) A E s (DT xs i) Q st:=by
 rw[elem'_eq,Be hi];exact AX h
theorem Fo{xs:Array AE}(hi:i<xs.size):N rk xs i=rk xs[i]:=by unfold N;rw[Be hi]
theorem Al.at{xs:Array AE}(h:Al G xs)(hi:i<xs.size):G xs[i]:=h i _ (Be hi)
theorem Sw(C:Cmp prog w A E s κ G rk)(B:Ba G rk κ a₀ st){Q:Option Bool->Bz->Prop}(hi:i<a₀.size)(hj:j<a₀.size)(h:Q (uA (decide (N rk (AU st) i<N rk (AU st) j))) st):wpS (AM prog w) A E s (PD i j) Q st:=by
 have ci:i<(AU st).size:=by rw[B.size];exact hi
 have dq:j<(AU st).size:=by rw[B.size];exact hj
 have al:=B.all.perm B.perm;rw[ltAt'_eq];refine AR (J6 ?_);refine AR (Bj ci (AR (Bj dq ?_)));refine C _ _ (al.at ci) (al.at dq) st Q B.kind ?_;rw[<- Fo (rk:=rk) ci,<- Fo (rk:=rk) dq];exact h
theorem Tf{xs:Array AE}(hj:j<=xs.size)(k:Nat):N rk (mirror xs i j ((j-i) / 2)) k=if i<=k/\k<j then N rk xs (i+j-1-k) else N rk xs k:=by
 have e:=getElem?_mirror_all (i:=i) hj k;by_cases h1:i<=k/\k<j
 .rw[uE h1] at e ⊢;exact Eo e
 .rw[uD h1] at e ⊢;exact Eo e
theorem Rf{xs:Array AE}{ma d:Nat}(hs:ma<xs.size)(hd:d<=ma)(k:Nat):N rk (bubble xs ma d) k=if k=ma-d then N rk xs ma else if ma-d<k/\k<=ma then N rk xs (k-1) else N rk xs k:=by
 have e:=getElem?_bubble hs d hd k;by_cases h1:k=ma-d
 .rw[uE h1] at e ⊢;exact Eo e
 .rw[uD h1] at e ⊢
  by_cases h2:ma-d<k/\k<=ma
  .rw[uE h2] at e ⊢;exact Eo e
  .rw[uD h2] at e ⊢;exact Eo e
theorem AGN{lo hi:Nat}(hh:hi<=(AU st).size):Nx lo st (VZ st (mirror (AU st) lo hi ((hi-lo) / 2))):=⟨mirror_perm _ _ _ _,rfl,rfl,rfl,λi ci=>by
 rw[getElem?_mirror_all hh,uD (yf ci)]⟩
theorem ACl(C:Cmp prog w A E s κ G rk){lo:Nat}(B:Ba G rk κ a₀ st)(h1:1<=n)(hn:n<b5)(hs:lo+b5<=a₀.size)(up:Up rk (AU st) lo (lo+n)){Q:Option Bool->Bz->Prop}
  (hy:N rk (AU st) (lo+n)<N rk (AU st) (lo+n-1)->Q (uA true) st) (hno:Up rk (AU st) lo (lo+(n+1))->Q (uA false) st):wpS (AM prog w) A E s (PD (lo+n) (lo+n-1)) Q st:=by
 refine Sw C B (vG hs hn) (wR hs hn) ?_;by_cases c:N rk (AU st) (lo+n)<N rk (AU st) (lo+n-1)
 .rw[uF c]
  exact hy c
 .rw[uG c]
  refine hno λi j li ij jh=>?_;by_cases d:j<lo+n
  .exact up i j li ij d
  .by_cases e:i=j
   .rw[e];exact JP _
   .have:=up i (lo+n-1) li (by lia) (by lia)
    have ej:j=lo+n:=yg jh d;rw[ej];lia
theorem Xa(C:Cmp prog w A E s κ G rk){lo n0:Nat}(B:Ba G rk κ a₀ st)(h1:1<=n0)(hn:n0<=b5)(hs:lo+b5<=a₀.size)(up:Up rk (AU st) lo (lo+n0)){Q:(Option uW×Nat)->Bz->Prop}
  (h:∀n,n0<=n->n<=b5->Up rk (AU st) lo (lo+n)->(n<b5->N rk (AU st) (lo+n)<N rk (AU st) (lo+n-1))->Q (uB,n) st) :
  wpS (AM prog w) A E s (forIn [n0:b5] ((uB,n0):Option uW×Nat) λ_ r=>do
   let x <- PD (lo+r.2) (lo+r.2-1)
   match x with
   | some smaller=>if smaller=true then pure (BM (uB,r.2)) else pure (CS (uB,r.2+1))
   | _=>pure (BM (uA uB,r.2))) Q st:=by
 refine DM (I:=λx c bh=>bh=st/\c=(uB,x)/\n0<=x/\x<=b5/\Up rk (AU st) lo (lo+x)) ?_ ?_ ⟨rfl,rfl,AF _,hn,up⟩
 .rintro x c bh ax xb ⟨rfl,rfl,_,_,g0⟩
  refine AR (ACl C B (vD h1 ax) xb hs g0 (λlt=>?_) (λup2=>?_))
  .exact AX (h x ax (by lia) g0 λ_=>lt)
  .exact AX ⟨rfl,rfl,vK ax,xb,up2⟩
 .rintro c bh ⟨rfl,rfl,a1,a2,g0⟩
  refine h _ a1 a2 g0 λz=>?_;lia
end
variable{rk:AE->Int}{G:AE->Prop}
theorem Mv(C:Cmp prog w A E s κ G rk){lo:Nat}(B:Ba G rk κ a₀ st)(h1:1<=b5)(hs:lo+b5<=a₀.size){Q:uW->Bz->Prop}
  (h:∀n bh,1<=n->n<=b5->Nx lo st bh->Up rk (AU bh) lo (lo+n)->Q (uA n) bh):wpS (AM prog w) A E s (JM lo b5) Q st:=by
 rw[Qs];refine AR (Xa C B (AF 1) h1 hs (λi j li ij jh=>by
  have:i=j:=by lia
  rw[this];exact JP _) λn n1 nn up lt=>?_)
 dsimp only;by_cases c:n=b5
 .rw[uE (by rw[c];exact beq_self_eq_true _)]
  exact AX (h n st n1 nn (Nx.refl _ _) up)
 rw[uD (by intro z;exact c (beq_iff_eq.mp z))];have sm:=lt (wc nn c);by_cases d:n>1
 .rw[uE d]
  refine AR (Sw C B (by lia) (zx hs d nn) ?_);have a1:=up lo (lo+n-1) (AF _) (by lia) (by lia);have a2:=B.ne (i:=lo) (j:=lo+n-1) (by lia) (zx hs d nn);rw[uF (show N rk (AU st) lo<N rk (AU st) (lo+n-1) by lia)];exact AX (h n st n1 nn (Nx.refl _ _) up)
 rw[uD d];have e1:n=1:=by lia
 subst e1;have wn:lo+1-1=lo:=by lia
 rw[wn] at sm;refine AR (NF (F7 ⟨rfl,?_⟩));refine AR (EE (DM (I:=λx c bh=>bh=st/\c=(uB,x,0)/\2<=x/\x<=b5/\Down rk (AU st) lo (lo+x)) (Q:=λc bh=>bh=st/\∃m,c=(uB,m,0)/\2<=m/\m<=b5/\Down rk (AU st) lo (lo+m)) ?_ ?_ ⟨rfl,rfl,AF _,by lia,?_⟩) ?_)
 .rintro x c bh ax xb ⟨rfl,rfl,x2,_,dn⟩
  dsimp only;refine AR (Sw C B (vG hs xb) (wR hs xb) ?_);by_cases c1:N rk (AU bh) (lo+x)<N rk (AU bh) (lo+x-1)
  .rw[uF c1]
   dsimp only;rw[uE rfl,uD xQ];refine AX ⟨rfl,rfl,by lia,xb,λi j li ij jh=>?_⟩;by_cases d1:j<lo+x
   .exact dn i j li ij d1
   .have ej:j=lo+x:=yg jh d1
    subst ej;by_cases e:i=lo+x
    .rw[e];exact JP _
    .have:=dn i (lo+x-1) li (by lia) (zy ax)
     exact zm c1 this
  .rw[uG c1]
   dsimp only;rw[uD (by decide)];refine AR (Sw C B (wR hs xb) (vG hs xb) ?_);have a2:=B.ne (i:=lo+x-1) (j:=lo+x) (zy ax) (vG hs xb);rw[uF (show N rk (AU bh) (lo+x-1)<N rk (AU bh) (lo+x) by lia)];dsimp only;rw[uE rfl];exact AX ⟨rfl,x,rfl,x2,by lia,dn⟩
 .rintro c bh ⟨rfl,rfl,a1,a2,dn⟩
  exact⟨rfl,_,rfl,a1,a2,dn⟩
 .intro i j li ij jh
  by_cases e:i=j
  .rw[e];exact JP _
  .rw[show i=lo by lia,show j=lo+1 by lia]
   exact vU sm
 .rintro c bh ⟨rfl,m,rfl,m2,mn,dn⟩
  dsimp only;rw[uD xQ,reverseSlice'_eq];have sz:lo+m<=(AU bh).size:=by rw[B.size];lia
  have nx:=AGN (st:=bh) (lo:=lo) sz;refine AR (Ix ?_);have up2:Up rk (AU (VZ bh (mirror (AU bh) lo (lo+m) ((lo+m-lo) / 2)))) lo (lo+m):=λi j li ij jh=>by
   rw[Tf sz,Tf sz,uE (by lia),uE (by lia)];exact dn _ _ (by lia) (yh ij) (by lia)
  refine AR (Xa C (B.nx nx) (wU m2) mn hs up2 λn' n1' nn' g0 _=>?_);exact AX (h n' _ (by lia) nn' nx g0)
def Km:Nat->Nat->Nat->StateT Bz Sem Bool:=sortPriv% PySem.Builtin.binarySort
theorem TQ(lo n ok:Nat):Km lo n ok=(do
 for k in [max ok 1:n] do
  let mut l:=0
  let mut r:=k
  for _ in [0:k] do
   if l >= r then break
   let m:=(l+r) / 2
   let uA less <- PD (lo+k) (lo+m)| return false
   if less then r:=m else l:=m+1
  moveDown' (lo+k) (lo+l)
 return true):=rfl
theorem RB(C:Cmp prog w A E s κ G rk){lo ok:Nat}(B:Ba G rk κ a₀ st)(hn:lo+n<=a₀.size)(hok:ok<=n)(up:Up rk (AU st) lo (lo+ok)){Q:Bool->Bz->Prop}
  (h:∀bh,Nx lo st bh->Up rk (AU bh) lo (lo+n)->Q true bh):wpS (AM prog w) A E s (Km lo n ok) Q st:=by
 rw[TQ];refine AR (EE (DM (I:=λk c bh=>c=(uB,())/\Nx lo st bh/\Up rk (AU bh) lo (lo+min k n))
  (Q:=λc bh=>c=(uB,())/\Nx lo st bh/\Up rk (AU bh) lo (lo+n)) ?step ?fin ?init) ?post)
 case post =>
  rintro c bh ⟨rfl,nx,g0⟩;exact AX (h bh nx g0)
 case init =>
  refine⟨rfl,Nx.refl _ _,λi j li ij jh=>?_⟩;by_cases e:i=j
  .rw[e];exact JP _
  .exact up i j li ij (by lia)
 case fin =>
  rintro c bh ⟨hc,nx,g0⟩;refine⟨hc,nx,?_⟩
  rwa [show min (max (max ok 1) n) n=n by lia] at g0
 case step =>
  rintro k c bh qO hkn ⟨rfl,nx,g0⟩;rw[show min k n=k from x8 hkn] at g0;have B':=B.nx nx;have hk:lo+k<a₀.size:=vG hn hkn;refine AR (EE (DM (I:=λx c dP=>dP=bh/\∃l r,c=(uB,l,r)/\l<=r/\r<=k/\r-l<=k-x /\
    (∀i,lo<=i->i<lo+l->N rk (AU bh) i<=N rk (AU bh) (lo+k))/\(∀i,lo+r<=i->i<lo+k->N rk (AU bh) (lo+k)<N rk (AU bh) i))
   (Q:=λc dP=>dP=bh/\∃l r,c=(uB,l,r)/\l<=k /\
    (∀i,lo<=i->i<lo+l->N rk (AU bh) i<=N rk (AU bh) (lo+k))/\(∀i,lo+l<=i->i<lo+k->N rk (AU bh) (lo+k)<N rk (AU bh) i)) ?istep ?ifin ?iinit) ?ipost)
  case iinit=>exact⟨rfl,0,k,rfl,vZ,vC,vC,λi hi=>by lia,λi h1 h2=>by lia⟩
  case ifin =>
   rintro c dP ⟨rfl,l,r,rfl,hlr,hrk,hm,qi,hhi⟩;have:l=r:=za hlr hm;subst this;exact⟨rfl,l,l,rfl,hrk,qi,hhi⟩
  case istep =>
   rintro x c dP _ oP ⟨rfl,l,r,rfl,hlr,hrk,hm,qi,hhi⟩;dsimp only;by_cases sw:l >= r
   .rw[uE sw]
    have:l=r:=wK hlr sw;subst this;exact AX ⟨rfl,l,l,rfl,hrk,qi,hhi⟩
   .rw[uD sw]
    refine AR (Sw C B' hk (by lia) ?_);by_cases hless:N rk (AU dP) (lo+k)<N rk (AU dP) (lo+(l+r) / 2)
    .simp only[hless,decide_true,if_true]
     refine AX ⟨rfl,l,(l+r) / 2,rfl,by lia,by lia,by lia,qi,λi h1 h2=>?_⟩;exact Int.lt_of_lt_of_le hless (g0 _ _ uS h1 h2)
    .simp only[hless,decide_false,Ct,if_false]
     refine AX ⟨rfl,(l+r) / 2+1,r,rfl,by lia,hrk,by lia,λi h0 h1=>?_,hhi⟩;exact D3 (g0 i (lo+(l+r) / 2) h0 (by lia) (by lia)) (HV.mp hless)
  case ipost =>
   rintro c dP ⟨rfl,l,r,rfl,hlk,qi,hhi⟩;show wpS _ _ _ _ (do moveDown' (lo+k) (lo+l);pure (CS (uB,()))) _ _;rw[moveDown'_eq];have qR:lo+k<(AU dP).size:=by rw[B'.size];exact hk
   have nx2:Nx lo dP (VZ dP (bubble (AU dP) (lo+k) (lo+k-(lo+l)))):=⟨bubble_perm _ _ _,rfl,rfl,rfl,λi hi=>by
    rw[getElem?_bubble qR _ vi,uD (by lia),uD (by lia)]⟩
   refine AR (Ix (AX ⟨rfl,nx.trans nx2,?_⟩));rw[show min (k+1) n=k+1 by lia];intro i j li kB hj;rw[Rf qR vi,Rf qR vi,show lo+k-(lo+k-(lo+l))=lo+l by lia]
   repeat' split
   all_goals first
    | (exfalso;omega)
    | exact JP _
    | exact qi _ (by omega) (by omega)
    | exact FE (hhi _ (by lia) (by lia))
    | exact g0 _ _ (by lia) (by lia) (by lia)
variable{rk:AE->Int}{G:AE->Prop}
noncomputable def Cu:Bool->AE->Array AE->Nat->Nat->Nat->StateT Bz Sem uW:=sortPriv% PySem.Builtin.gallop
noncomputable def Ej(left:Bool)(key:AE)(arr:Array AE)(base i:Nat):StateT Bz Sem (Option Bool):=do
  let x <- DT arr (base+i)
  if left then lt' x key else return (<- lt' key x).map (!·)
theorem VF(left:Bool)(key:AE)(arr:Array AE)(base n hint:Nat):Cu left key arr base n hint=(do
 let mut lastofs:=0
 let mut ofs:=1
 let mut lo:=0
 let mut hi:=0
 let uA right <- Ej left key arr base hint| return uB
 if right then
  let maxofs:=n-hint
  for _ in [0:n] do
   if ofs >= maxofs then break
   let uA more <- Ej left key arr base (hint+ofs)| return uB
   if !more then break
   lastofs:=ofs
   ofs:=2*ofs+1
  lo:=hint+lastofs+1
  hi:=hint+min ofs maxofs
 else
  let maxofs:=hint+1
  for _ in [0:n] do
   if ofs >= maxofs then break
   let uA found <- Ej left key arr base (hint-ofs)| return uB
   if found then break
   lastofs:=ofs
   ofs:=2*ofs+1
  lo:=hint+1-min ofs maxofs
  hi:=hint-lastofs
 for _ in [0:n] do
  if lo >= hi then break
  let m:=lo+(hi-lo) / 2
  let uA more <- Ej left key arr base m| return uB
  if more then lo:=m+1 else hi:=m
 return uA hi):=rfl
noncomputable def bey(rk:AE->Int)(left:Bool)(key:AE)(arr:Array AE)(base i:Nat):Bool:=if left then decide (N rk arr (base+i)<rk key) else !decide (rk key<N rk arr (base+i))
theorem Vj(C:Cmp prog w A E s κ G rk){key:AE}{base:Nat}{Q:Option Bool->Bz->Prop}(hk:G key)(al:Al G arr)(kd:kindOf st=κ)(hi:base+i<arr.size)(h:Q (uA (bey rk left key arr base i)) st) :
  wpS (AM prog w) A E s (Ej left key arr base i) Q st:=by
 unfold Ej;refine AR (Bj hi ?_);unfold bey at h;rw[Fo hi] at h;cases left with
 | true =>
  rw[uE rfl] at h ⊢;exact C _ _ (al.at hi) hk st _ kd h
 | false =>
  rw[uD (by decide)] at h ⊢;refine AR (C _ _ hk (al.at hi) st _ kd (AX ?_));exact h
def Mono(p:Nat->Bool)(n:Nat):Prop:=∀i j,i<=j->j<n->p j=true->p i=true
theorem FJ{key:AE}{base:Nat}(up:Up rk arr base (base+n)):Mono (bey rk left key arr base) n:=λi j ij jn h=>by
 have:=up (base+i) (base+j) uS (by lia) (yk jn);unfold bey at h ⊢;cases left with
 | true =>
  rw[uE rfl] at h ⊢;have:=uH h;exact uF (by lia)
 | false =>
  rw[uD (by decide)] at h ⊢;have h':¬ rk key<N rk arr (base+j):=λz=>by rw[uF z] at h;cases h
  rw[uG (by lia)];rfl
theorem DQ(C:Cmp prog w A E s κ G rk){key:AE}{base hint:Nat}{Q:uW->Bz->Prop}(hk:G key)(al:Al G arr)(kd:kindOf st=κ)(hn:base+n<=arr.size)(hh:hint<n)(mo:Mono (bey rk left key arr base) n)
  (h:∀k,k<=n->(∀i,i<k->bey rk left key arr base i=true)->(∀i,k<=i->i<n->bey rk left key arr base i=false)->Q (uA k) st):wpS (AM prog w) A E s (Cu left key arr base n hint) Q st:=by
 rw[VF];generalize hp:bey rk left key arr base=p at mo h;have ask:∀{i:Nat}{Q:Option Bool->Bz->Prop},i<n->Q (uA (p i)) st->wpS (AM prog w) A E s (Ej left key arr base i) Q st:=λ{i Q} hi q=>Vj C hk al kd (vG hn hi) (by rw[hp];exact q);have p7:∀{k:Nat},(k<n->p k=false)->∀i,k<=i->i<n->p i=false:=λ{k} hk i ki il=>by
  cases e:p i with
  | false=>rfl
  | true =>
   have:=mo k i ki il e;rw[hk (vb ki il)] at this;cases this
 have fin:∀{lo hi:Nat},lo<=hi->hi<=n->(∀i,i<lo->p i=true)->(∀i,hi<=i->i<n->p i=false) ->
   ∀{Q':(Option uW×Nat×Nat)->Bz->Prop},(∀l,l<=n->(∀i,i<l->p i=true)->(∀i,l<=i->i<n->p i=false)->Q' (uB,l,l) st) ->
   wpS (AM prog w) A E s (forIn [0:n] ((uB,lo,hi):Option uW×Nat×Nat) λ_ r =>
     if r.2.1 >= r.2.2 then pure (BM (uB,r.2.1,r.2.2))
     else do
      let x <- Ej left key arr base (r.2.1+(r.2.2-r.2.1) / 2)
      match x with
      | some more =>
       if more=true then pure (CS (uB,r.2.1+(r.2.2-r.2.1) / 2+1,r.2.2))
       else pure (CS (uB,r.2.1,r.2.1+(r.2.2-r.2.1) / 2))
      | _=>pure (BM (uA uB,r.2.1,r.2.2))) Q' st:=λ{lo hi} lh qd ht hf {Q'} h'=>by
  refine EE (DM (I:=λx c bh=>bh=st/\∃l r,c=(uB,l,r)/\l<=r/\r<=n/\r-l<=n-x/\(∀i,i<l->p i=true)/\(∀i,r<=i->i<n->p i=false))
   (Q:=λc bh=>bh=st/\∃l,c=(uB,l,l)/\l<=n/\(∀i,i<l->p i=true)/\(∀i,l<=i->i<n->p i=false)) ?_ ?_ ⟨rfl,lo,hi,rfl,lh,qd,by lia,ht,hf⟩) ?_
  .rintro x c bh _ xn ⟨rfl,l,r,rfl,lr,rn,sz,tr,fa⟩
   dsimp only;by_cases c1:l >= r
   .rw[uE c1]
    have:l=r:=wK lr c1;subst this;exact AX ⟨rfl,l,rfl,rn,tr,fa⟩
   .rw[uD c1]
    refine AR (ask (y9 rn c1) ?_);cases e:p (l+(r-l) / 2) with
    | true =>
     dsimp only;rw[uE rfl];exact AX ⟨rfl,_,r,rfl,by lia,rn,by lia,λi hi=>mo i _ (vo hi) (y9 rn c1) e,fa⟩
    | false =>
     dsimp only;rw[uD (by decide)];exact AX ⟨rfl,l,_,rfl,uS,by lia,by lia,tr,p7 λ_=>e⟩
  .rintro c bh ⟨rfl,l,r,rfl,lr,rn,sz,tr,fa⟩
   have:l=r:=za lr sz;subst this;exact⟨rfl,l,rfl,rn,tr,fa⟩
  .rintro c bh ⟨rfl,l,rfl,ln,tr,fa⟩
   exact h' l ln tr fa
 refine AR (ask hh ?_);cases ph:p hint with
 | true =>
  dsimp only;rw[uE rfl];refine AR (EE (DM (I:=λx c bh=>bh=st/\∃l o,c=(uB,l,o)/\l<o/\x+1<=o/\hint+l<n/\p (hint+l)=true)
   (Q:=λc bh=>bh=st/\∃l o,c=(uB,l,o)/\l<o/\hint+l<n/\p (hint+l)=true/\(o<n-hint->p (hint+o)=false)) ?_ ?_ ⟨rfl,0,1,rfl,zc,zd,by lia,ph⟩) ?_)
  .rintro x c bh _ xn ⟨rfl,l,o,rfl,lo,xo,ln,pl⟩
   dsimp only;by_cases c1:o >= n-hint
   .rw[uE c1]
    exact AX ⟨rfl,l,o,rfl,lo,ln,pl,λz=>uI z (v8 c1)⟩
   .rw[uD c1]
    refine AR (ask (zi c1) ?_);cases e:p (hint+o) with
    | true =>
     dsimp only;rw[uD (by decide)];exact AX ⟨rfl,o,_,rfl,zj,zk xo,zi c1,e⟩
    | false =>
     dsimp only;rw[uE (by decide)];exact AX ⟨rfl,l,o,rfl,lo,ln,pl,λ_=>e⟩
  .rintro c bh ⟨rfl,l,o,rfl,lo,xo,ln,pl⟩
   exact⟨rfl,l,o,rfl,lo,ln,pl,λz=>uI z (by lia)⟩
  .rintro c bh ⟨rfl,l,o,rfl,lo,ln,pl,pf⟩
   dsimp only;refine AR (fin (lo:=hint+l+1) (hi:=hint+min o (n-hint)) (by lia) (by lia) (λi hi=>mo i (hint+l) (vo hi) ln pl) ?_ λk kn kt kf=>AX (h k kn kt kf));by_cases c1:o<n-hint
   .rw[show hint+min o (n-hint)=hint+o by lia]
    exact p7 λ_=>pf c1
   .rw[show hint+min o (n-hint)=n by lia]
    exact λi a b=>uI a (by lia)
 | false =>
  dsimp only;rw[uD (by decide)];refine AR (EE (DM (I:=λx c bh=>bh=st/\∃l o,c=(uB,l,o)/\l<o/\x+1<=o/\l<=hint/\p (hint-l)=false)
   (Q:=λc bh=>bh=st/\∃l o,c=(uB,l,o)/\l<o/\l<=hint/\p (hint-l)=false/\(o<hint+1->p (hint-o)=true)) ?_ ?_ ⟨rfl,0,1,rfl,zc,zd,vZ,ph⟩) ?_)
  .rintro x c bh _ xn ⟨rfl,l,o,rfl,lo,xo,ln,pl⟩
   dsimp only;by_cases c1:o >= hint+1
   .rw[uE c1]
    exact AX ⟨rfl,l,o,rfl,lo,ln,pl,λz=>uI z (v8 c1)⟩
   .rw[uD c1]
    refine AR (ask (wu hh) ?_);cases e:p (hint-o) with
    | true =>
     dsimp only;rw[uE rfl];exact AX ⟨rfl,l,o,rfl,lo,ln,pl,λ_=>e⟩
    | false =>
     dsimp only;rw[uD (by decide)];exact AX ⟨rfl,o,_,rfl,zj,zk xo,by lia,e⟩
  .rintro c bh ⟨rfl,l,o,rfl,lo,xo,ln,pl⟩
   exact⟨rfl,l,o,rfl,lo,ln,pl,λz=>uI z (by lia)⟩
  .rintro c bh ⟨rfl,l,o,rfl,lo,ln,pl,pt⟩
   dsimp only;refine AR (fin (lo:=hint+1-min o (hint+1)) (hi:=hint-l) (by lia) (by lia) ?_ (p7 λ_=>pl) λk kn kt kf=>AX (h k kn kt kf));by_cases c1:o<hint+1
   .rw[show hint+1-min o (hint+1)=hint+1-o by lia]
    exact λi hi=>mo i (hint-o) (wJ hi) (wu hh) (pt c1)
   .rw[show hint+1-min o (hint+1)=0 by lia]
    exact λi hi=>uI hi vd
variable{rk:AE->Int}{G:AE->Prop}
def Srt(rk:AE->Int)(l:List AE):Prop:=l.Pairwise λx y=>rk x<=rk y
structure MI(rk:AE->Int)(a b out:List AE)(ia ib:Nat):Prop where
 perm:(out++(a.drop ia++b.drop ib)).Perm (a++b)
 srt:Srt rk out
 oa:∀x∈out,∀y∈a.drop ia,rk x<=rk y
 ob:∀x∈out,∀y∈b.drop ib,rk x<=rk y
theorem UL(l:List α)(i k:Nat):l.drop i=(l.drop i).take k++l.drop (i+k):=by rw[<- Re];exact(FX k (l.drop i)).symm
theorem MI.takeA{a b out:List AE}(m:MI rk a b out ia ib)(sa:Srt rk a)(k:Nat)(h:∀y∈(a.drop ia).take k,∀z∈b.drop ib,rk y<=rk z):MI rk a b (out++(a.drop ia).take k) (ia+k) ib:=by
 have e:=UL a ia k;have sd:Srt rk (a.drop ia):=sa.sublist (HU ..);refine⟨?_,?_,?_,?_⟩
 .refine PF ?_ m.perm
  rw[B9];refine E3 _ ?_;rw[<- B9,<- e]
 .refine C6.mpr ⟨m.srt,sd.sublist (J0 ..),λx hx y hy=>m.oa x hx y (M5 hy)⟩
 .intro x hx y hy
  rcases B8.mp hx with hx| hx
  .exact m.oa x hx y (by rw[e];exact BS _ hy)
  .unfold Srt at sd
   rw[e] at sd;exact(C6.mp sd).2.2 x hx y hy
 .intro x hx y hy
  rcases B8.mp hx with hx| hx
  .exact m.ob x hx y hy
  .exact h x hx y hy
theorem MI.takeB{a b out:List AE}(m:MI rk a b out ia ib)(sb:Srt rk b)(k:Nat)(h:∀y∈(b.drop ib).take k,∀z∈a.drop ia,rk y<=rk z):MI rk a b (out++(b.drop ib).take k) ia (ib+k):=by
 have e:=UL b ib k;have sd:Srt rk (b.drop ib):=sb.sublist (HU ..);refine⟨?_,?_,?_,?_⟩
 .refine PF ?_ m.perm
  rw[B9];refine E3 _ ?_;rw[<- B9];refine(L9 _ (HH)).trans ?_;rw[B9,<- e]
 .refine C6.mpr ⟨m.srt,sd.sublist (J0 ..),λx hx y hy=>m.ob x hx y (M5 hy)⟩
 .intro x hx y hy
  rcases B8.mp hx with hx| hx
  .exact m.oa x hx y hy
  .exact h x hx y hy
 .intro x hx y hy
  rcases B8.mp hx with hx| hx
  .exact m.ob x hx y (by rw[e];exact BS _ hy)
  .unfold Srt at sd
   rw[e] at sd;exact(C6.mp sd).2.2 x hx y hy
def Mg(rk:AE->Int)(a b r:List AE):Prop:=r.Perm (a++b)/\Srt rk r
theorem MI.doneB{a b out:List AE}(m:MI rk a b out ia ib)(sa:Srt rk a)(h:b.length<=ib):Mg rk a b (out++a.drop ia++b.drop ib):=by
 rw[FK h,B3];have p:=m.perm;rw[FK h,B3] at p;exact⟨p,C6.mpr ⟨m.srt,sa.sublist (HU ..),m.oa⟩⟩
theorem MI.doneA{a b out:List AE}(m:MI rk a b out ia ib)(sb:Srt rk b)(h:a.length<=ia):Mg rk a b (out++a.drop ia++b.drop ib):=by
 rw[FK h,B3];have p:=m.perm;rw[FK h,Pp] at p;exact⟨p,C6.mpr ⟨m.srt,sb.sublist (HU ..),m.ob⟩⟩
theorem MI.last{a b out:List AE}(m:MI rk a b out ia ib)(sb:Srt rk b)(h:ia+1=a.length)(hl:∀y∈b,∀z∈a.drop ia,rk y<=rk z):Mg rk a b (out++b.drop ib++a.drop ia):=by
 refine⟨?_,?_⟩
 .refine PF ?_ m.perm
  rw[B9];exact E3 _ HH
 .have one:Srt rk (a.drop ia):=by
   have l1:(a.drop ia).length=1:=by rw[Me];lia
   obtain⟨x,ex⟩:=P6.mp l1;rw[ex];exact LL ..
  refine C6.mpr ⟨C6.mpr ⟨m.srt,sb.sublist (HU ..),m.ob⟩,one,λx hx y hy=>?_⟩;rcases B8.mp hx with hx| hx
  .exact m.oa x hx y hy
  .exact hl x (RR hx) y hy
variable{rk:AE->Int}{G:AE->Prop}
theorem ifc{c:Prop}{i j:Decidable c}{x y u v:α}(h1:x=u)(h2:y=v):(@ite α c i x y)=(@ite α c j u v):=by rw[h1,h2];congr
def Dg:Nat->StateT Bz Sem Unit:=sortPriv% PySem.Builtin.setMinGallop
theorem WX(g:Nat):Dg g=modify λs=>JJ (kindOf s) (AU s) (BF s) g (GV s):=rfl
noncomputable abbrev loDone(a b out:Array AE)(ia ib:Nat):Array AE:=out++a.extract ia a.size++b.extract ib b.size
noncomputable abbrev loLast(a b out:Array AE)(ia ib:Nat):Array AE:=out++b.extract ib b.size++a.extract ia a.size
abbrev S1:=Option (Array AE)×Array AE×Nat×Nat×Nat×Nat
abbrev S2:=Option (Array AE)×Array AE×Nat×Nat×Nat×Nat×Nat
abbrev S0:=Option (Array AE)×Array AE×Nat×Nat×Nat
noncomputable def loOne(a b:Array AE)(mg:Nat)(r:S1):StateT Bz Sem (ForInStep S1):=do
 let y <- DT b r.2.2.2.1
 let x <- DT a r.2.2.1
 let c <- lt' y x
 match c with
 | some bWins =>
  if bWins=true then do
   let y <- DT b r.2.2.2.1
   if(r.2.2.2.1+1==b.size)=true then
    pure (BM (uA (loDone a b (r.2.1.push y) r.2.2.1 (r.2.2.2.1+1)),r.2.1.push y,r.2.2.1,r.2.2.2.1+1,0,r.2.2.2.2.2+1))
   else if r.2.2.2.2.2+1 >= mg then
    pure (BM (uB,r.2.1.push y,r.2.2.1,r.2.2.2.1+1,0,r.2.2.2.2.2+1))
   else pure (CS (uB,r.2.1.push y,r.2.2.1,r.2.2.2.1+1,0,r.2.2.2.2.2+1))
  else do
   let x <- DT a r.2.2.1
   if(r.2.2.1+1+1==a.size)=true then
    pure (BM (uA (loLast a b (r.2.1.push x) (r.2.2.1+1) r.2.2.2.1),r.2.1.push x,r.2.2.1+1,r.2.2.2.1,r.2.2.2.2.1+1,0))
   else if r.2.2.2.2.1+1 >= mg then
    pure (BM (uB,r.2.1.push x,r.2.2.1+1,r.2.2.2.1,r.2.2.2.2.1+1,0))
   else pure (CS (uB,r.2.1.push x,r.2.2.1+1,r.2.2.2.1,r.2.2.2.2.1+1,0))
 | _=>pure (BM (uA (loDone a b r.2.1 r.2.2.1 r.2.2.2.1),r.2.1,r.2.2.1,r.2.2.2.1,r.2.2.2.2.1,r.2.2.2.2.2))
noncomputable def loEnd(a b:Array AE)(mg ac bc:Nat)(out:Array AE)(ia ib:Nat):StateT Bz Sem (ForInStep S2):=do
 let x <- DT a ia
 if(ia+1+1==a.size)=true then pure (BM (uA (loLast a b (out.push x) (ia+1) ib),out.push x,ia+1,ib,mg,ac,bc))
 else if(decide (ac<7)&&decide (bc<7))=true then pure (BM (uB,out.push x,ia+1,ib,mg,ac,bc))
 else pure (CS (uB,out.push x,ia+1,ib,mg,ac,bc))
noncomputable def loMid(a b:Array AE)(mg k bc:Nat)(out:Array AE)(ia ib:Nat):StateT Bz Sem (ForInStep S2):=do
 let y <- DT b ib
 if(ib+1==b.size)=true then pure (BM (uA (loDone a b (out.push y) ia (ib+1)),out.push y,ia,ib+1,mg,k,bc))
 else do
  let x <- DT a ia
  let r <- Cu true x b (ib+1) (b.size-(ib+1)) 0
  match r with
  | some k' =>
   if k'>0 then
    if(ib+1+k'==b.size)=true then pure (BM (uA (loDone a b (out.push y++b.extract (ib+1) (ib+1+k')) ia (ib+1+k')),out.push y++b.extract (ib+1) (ib+1+k'),ia,ib+1+k',mg,k,k'))
    else loEnd a b mg k k' (out.push y++b.extract (ib+1) (ib+1+k')) ia (ib+1+k')
   else loEnd a b mg k k' (out.push y) ia (ib+1)
  | _=>pure (BM (uA (loDone a b (out.push y) ia (ib+1)),out.push y,ia,ib+1,mg,k,bc))
noncomputable def loGal(a b:Array AE)(mg ac bc:Nat)(out:Array AE)(ia ib:Nat):StateT Bz Sem (ForInStep S2):=do
 Dg mg
 let y <- DT b ib
 let r <- Cu false y a ia (a.size-ia) 0
 match r with
 | some k =>
  if k>0 then
   if(ia+k+1==a.size)=true then pure (BM (uA (loLast a b (out++a.extract ia (ia+k)) (ia+k) ib),out++a.extract ia (ia+k),ia+k,ib,mg,k,bc))
   else if(ia+k==a.size)=true then pure (BM (uA (loDone a b (out++a.extract ia (ia+k)) (ia+k) ib),out++a.extract ia (ia+k),ia+k,ib,mg,k,bc))
   else loMid a b mg k bc (out++a.extract ia (ia+k)) (ia+k) ib
  else loMid a b mg k bc out ia ib
 | _=>pure (BM (uA (loDone a b out ia ib),out,ia,ib,mg,ac,bc))
def JC:Array AE->Array AE->StateT Bz Sem (Array AE):=sortPriv% PySem.Builtin.mergeLo
theorem VG(a b:Array AE):JC a b=(do
 rule "list.sort.merge-lo"
 let total:=a.size+b.size
 let done (out:Array AE) (ia ib:Nat):=out++a.extract ia a.size++b.extract ib b.size
 let lastOfA (out:Array AE) (ia ib:Nat):=out++b.extract ib b.size++a.extract ia a.size
 let mut out:Array AE:=#[<- DT b 0]
 let mut ia:=0
 let mut ib:=1
 if ib==b.size then return done out ia ib
 if ia+1==a.size then return lastOfA out ia ib
 let mut minGallop:=RU (<- get)
 for _ in [0:total] do
  let mut acount:=0
  let mut bcount:=0
  for _ in [0:total] do
   let uA bWins <- lt' (<- DT b ib) (<- DT a ia)| return done out ia ib
   if bWins then
    out:=out.push (<- DT b ib);ib:=ib+1;bcount:=bcount+1;acount:=0
    if ib==b.size then return done out ia ib
    if bcount >= minGallop then break
   else
    out:=out.push (<- DT a ia);ia:=ia+1;acount:=acount+1;bcount:=0
    if ia+1==a.size then return lastOfA out ia ib
    if acount >= minGallop then break
  rule "list.sort.gallop"
  minGallop:=minGallop+1
  for _ in [0:total] do
   if minGallop>1 then minGallop:=minGallop-1
   Dg minGallop
   let uA k <- Cu false (<- DT b ib) a ia (a.size-ia) 0| return done out ia ib
   acount:=k
   if k>0 then
    out:=out++a.extract ia (ia+k);ia:=ia+k
    if ia+1==a.size then return lastOfA out ia ib
    if ia==a.size then return done out ia ib
   out:=out.push (<- DT b ib);ib:=ib+1
   if ib==b.size then return done out ia ib
   let uA k <- Cu true (<- DT a ia) b ib (b.size-ib) 0| return done out ia ib
   bcount:=k
   if k>0 then
    out:=out++b.extract ib (ib+k);ib:=ib+k
    if ib==b.size then return done out ia ib
   out:=out.push (<- DT a ia);ia:=ia+1
   if ia+1==a.size then return lastOfA out ia ib
   if acount<7&&bcount<7 then break
  minGallop:=minGallop+1
  Dg minGallop
 unsupported "internal:list.sort.merge-bound"):=rfl
set_option pp.proofs true in
theorem SQ(a b:Array AE):JC a b=(do
 liftM (rule "list.sort.merge-lo")
 let y <- DT b 0
 if(1==b.size)=true then pure (loDone a b #[y] 0 1)
 else if(0+1==a.size)=true then pure (loLast a b #[y] 0 1)
 else do
  let g <- get
  let r <- forIn [0:a.size+b.size] ((uB,#[y],0,1,RU g):S0) λ_ r0=>do
   let r1 <- forIn [0:a.size+b.size] ((uB,r0.2.1,r0.2.2.1,r0.2.2.2.1,0,0):S1) λ_ r=>loOne a b r0.2.2.2.2 r
   match r1.1 with
   | some x=>pure (BM ((uA x,r1.2.1,r1.2.2.1,r1.2.2.2.1,r0.2.2.2.2):S0))
   | none=>do
    liftM (rule "list.sort.gallop")
    let r2 <- forIn [0:a.size+b.size] ((uB,r1.2.1,r1.2.2.1,r1.2.2.2.1,r0.2.2.2.2+1,r1.2.2.2.2.1,r1.2.2.2.2.2):S2) λ_ r =>
     if r.2.2.2.2.1>1 then loGal a b (r.2.2.2.2.1-1) r.2.2.2.2.2.1 r.2.2.2.2.2.2 r.2.1 r.2.2.1 r.2.2.2.1
     else loGal a b r.2.2.2.2.1 r.2.2.2.2.2.1 r.2.2.2.2.2.2 r.2.1 r.2.2.1 r.2.2.2.1
    match r2.1 with
    | some x=>pure (BM ((uA x,r2.2.1,r2.2.2.1,r2.2.2.2.1,r2.2.2.2.2.1):S0))
    | none=>do
     Dg (r2.2.2.2.2.1+1)
     pure (CS ((uB,r2.2.1,r2.2.2.1,r2.2.2.2.1,r2.2.2.2.2.1+1):S0))
  match r.1 with
  | some x=>pure x
  | none=>unsupported "internal:list.sort.merge-bound"):=by
 rw[VG];dsimp only
 congr 1
 funext _
 congr 1
 funext y
 refine ifc rfl (ifc rfl ?_)
 congr 1
 funext g
 congr 1
 .congr 1
  funext x r0
  congr 1
  funext r1
  obtain⟨o1,r1⟩:=r1;cases o1 with
  | some x=>rfl
  | none =>
   dsimp only
   congr 1
   funext u
   congr 1
   funext r2
   obtain⟨o2,r2⟩:=r2;cases o2<;>rfl
 .funext r
  obtain⟨o,r⟩:=r;cases o<;>rfl
variable{rk:AE->Int}{G:AE->Prop}
structure Gx(st bh:Bz):Prop where
 arr:AU bh=AU st
 kind:kindOf bh=kindOf st
 failed:GV bh=GV st
 pend:BF bh=BF st
theorem Gx.refl(st:Bz):Gx st st:=⟨rfl,rfl,rfl,rfl⟩
theorem Ur{b:Array AE}(h:ib<b.size):(out.push b[ib]).toList=out.toList++(b.toList.drop ib).take 1:=by
 rw[HR]
 congr 1
 have hl:ib<b.toList.length:=by simpa using h
 rw[KU hl,Nc,NG];simp
theorem YX{a:Array AE}(i k:Nat):(out++a.extract i (i+k)).toList=out.toList++(a.toList.drop i).take k:=by
 rw[De,GW]
 congr 1
 simp[Tb]
theorem Iz(a:Array AE)(i:Nat):(a.extract i a.size).toList=a.toList.drop i:=by
 rw[GW];simp[Tb];rw[P5 (by simp)]
theorem Uj(a b out:Array AE)(ia ib:Nat):(loDone a b out ia ib).toList=out.toList++a.toList.drop ia++b.toList.drop ib:=by
 unfold loDone;rw[De,De,Iz,Iz]
theorem AAp(a b out:Array AE)(ia ib:Nat):(loLast a b out ia ib).toList=out.toList++b.toList.drop ib++a.toList.drop ia:=by
 unfold loLast;rw[De,De,Iz,Iz]
theorem Dp{a:Array AE}{z:AE}(h:z∈a.toList.drop i):∃j,i<=j/\∃hj:j<a.size,z=a[j]:=by
 obtain⟨k,hk,e⟩:=CL.mp h;rw[Me] at hk;refine⟨i+k,by lia,by
               have:a.toList.length=a.size:=by simp
               lia,?_⟩
 rw[<- e,OC];simp
theorem CZ{a:Array AE}{k:Nat}{z:AE}(h:z∈(a.toList.drop i).take k):∃j,i<=j/\j<i+k/\∃hj:j<a.size,z=a[j]:=by
 obtain⟨n,hk,e⟩:=CL.mp h;rw[B7,Me] at hk;have:a.toList.length=a.size:=by simp
 refine⟨i+n,uS,by lia,by lia,?_⟩;rw[<- e,J2,OC];simp
theorem Es{a:Array AE}(sa:Srt rk a.toList)(ij:i<=j)(hj:j<a.size):rk (a[i]'(vb ij hj))<=rk a[j]:=by
 by_cases e:i=j
 .subst e;exact JP _
 .have:=CM.mp sa i j (by simp;exact vb ij hj) (by simpa using hj) (wc ij e)
  simpa using this
theorem RQ{a:Array AE}(sa:Srt rk a.toList){lo hi:Nat}(h:hi<=a.size):Up rk a lo hi:=λi j li ij jh=>by
 rw[Fo (show i<a.size by lia),Fo (show j<a.size from uP jh h)];exact Es sa ij (uP jh h)
section
variable{a b:Array AE}
def At(rk:AE->Int)(a b out:Array AE)(ia ib:Nat):Prop:=MI rk a.toList b.toList out.toList ia ib/\ia+1<a.size/\ib<b.size
structure Lo(G:AE->Prop)(rk:AE->Int)(a b:Array AE):Prop where
 ga:Al G a
 gb:Al G b
 sa:Srt rk a.toList
 sb:Srt rk b.toList
 hl:∀y∈b.toList,∀z∈a.toList.drop (a.size-1),rk y<=rk z
theorem Lo.done(L:Lo G rk a b)(m:MI rk a.toList b.toList out.toList ia ib)(h:b.size<=ib):Mg rk a.toList b.toList (loDone a b out ia ib).toList:=by
 rw[Uj];exact m.doneB L.sa (by simpa using h)
theorem Lo.doneA(L:Lo G rk a b)(m:MI rk a.toList b.toList out.toList ia ib)(h:a.size<=ia):Mg rk a.toList b.toList (loDone a b out ia ib).toList:=by
 rw[Uj];exact m.doneA L.sb (by simpa using h)
theorem Lo.last(L:Lo G rk a b)(m:MI rk a.toList b.toList out.toList ia ib)(h:ia+1=a.size):Mg rk a.toList b.toList (loLast a b out ia ib).toList:=by
 rw[AAp];refine m.last L.sb (by simpa using h) λy hy z hz=>L.hl y hy z ?_;rw[show a.size-1=ia by lia];exact hz
theorem Lo.stepB(L:Lo G rk a b)(m:MI rk a.toList b.toList out.toList ia ib)(hb:ib<b.size)(h:∀j,ia<=j->∀hj:j<a.size,rk b[ib]<=rk a[j]):MI rk a.toList b.toList (out.push b[ib]).toList ia (ib+1):=by
 rw[Ur hb];refine m.takeB L.sb 1 λy hy z hz=>?_;obtain⟨j,j1,j2,hj,rfl⟩:=CZ hy;have:j=ib:=wW j2 j1;subst this;obtain⟨i,i1,hi,rfl⟩:=Dp hz;exact h i i1 hi
theorem Lo.stepA(L:Lo G rk a b)(m:MI rk a.toList b.toList out.toList ia ib)(ha:ia<a.size)(h:∀j,ib<=j->∀hj:j<b.size,rk a[ia]<=rk b[j]):MI rk a.toList b.toList (out.push a[ia]).toList (ia+1) ib:=by
 rw[Ur ha];refine m.takeA L.sa 1 λy hy z hz=>?_;obtain⟨j,j1,j2,hj,rfl⟩:=CZ hy;have:j=ia:=wW j2 j1;subst this;obtain⟨i,i1,hi,rfl⟩:=Dp hz;exact h i i1 hi
theorem Lo.manyA(L:Lo G rk a b){k:Nat}(m:MI rk a.toList b.toList out.toList ia ib)(h:∀i,ia<=i->i<ia+k->∀hi:i<a.size,∀j,ib<=j->∀hj:j<b.size,rk a[i]<=rk b[j]):MI rk a.toList b.toList (out++a.extract ia (ia+k)).toList (ia+k) ib:=by
 rw[YX];refine m.takeA L.sa k λy hy z hz=>?_;obtain⟨i,i1,i2,hi,rfl⟩:=CZ hy;obtain⟨j,j1,hj,rfl⟩:=Dp hz;exact h i i1 i2 hi j j1 hj
theorem Lo.manyB(L:Lo G rk a b){k:Nat}(m:MI rk a.toList b.toList out.toList ia ib)(h:∀i,ib<=i->i<ib+k->∀hi:i<b.size,∀j,ia<=j->∀hj:j<a.size,rk b[i]<=rk a[j]):MI rk a.toList b.toList (out++b.extract ib (ib+k)).toList ia (ib+k):=by
 rw[YX];refine m.takeB L.sb k λy hy z hz=>?_;obtain⟨i,i1,i2,hi,rfl⟩:=CZ hy;obtain⟨j,j1,hj,rfl⟩:=Dp hz;exact h i i1 i2 hi j j1 hj
theorem Qe(g:Gx st bh)(m:Nat):Gx st (JJ (kindOf bh) (AU bh) (BF bh) m (GV bh)):=⟨g.arr,g.kind,g.failed,g.pend⟩
theorem setMin{g:Nat}{Q:Unit->Bz->Prop}(h:Q () (JJ (kindOf st) (AU st) (BF st) g (GV st))):wpS (AM prog w) A E s (Dg g) Q st:=by
 rw[WX];exact Ix h
def E1(rk:AE->Int)(a b:Array AE)(st:Bz)(m:Nat)(r:S1)(bh:Bz):Prop:=Gx st bh/\((∃x y,r=(uA x,y)/\Mg rk a.toList b.toList x.toList)\/∃out ia ib ac bc,r=(uB,out,ia,ib,ac,bc)/\At rk a b out ia ib/\m<=ia+ib)
def E2(rk:AE->Int)(a b:Array AE)(st:Bz)(m:Nat)(r:S2)(bh:Bz):Prop:=Gx st bh/\((∃x y,r=(uA x,y)/\Mg rk a.toList b.toList x.toList)\/∃out ia ib mg ac bc,r=(uB,out,ia,ib,mg,ac,bc)/\At rk a b out ia ib/\m<=ia+ib)
def Y1(rk:AE->Int)(a b:Array AE)(st:Bz)(m:Nat)(r:S1)(bh:Bz):Prop:=Gx st bh/\∃out ia ib ac bc,r=(uB,out,ia,ib,ac,bc)/\At rk a b out ia ib/\m<=ia+ib
def Y2(rk:AE->Int)(a b:Array AE)(st:Bz)(m:Nat)(r:S2)(bh:Bz):Prop:=Gx st bh/\∃out ia ib mg ac bc,r=(uB,out,ia,ib,mg,ac,bc)/\At rk a b out ia ib/\m<=ia+ib
theorem Yv(C:Cmp prog w A E s κ G rk)(L:Lo G rk a b){mg:Nat}(kd:kindOf cv=κ)(g:Gx cv st)(at_:At rk a b out ia ib)(hm:m<=ia+ib) :
  wpS (AM prog w) A E s (loOne a b mg (uB,out,ia,ib,ac,bc)) (λr bh=>match r with| .done c'=>E1 rk a b cv (m+1) c' bh| .yield c'=>Y1 rk a b cv (m+1) c' bh) st:=by
 obtain⟨mi,la,lb⟩:=at_;have iL:ia<a.size:=u5 la;unfold loOne;dsimp only;refine AR (Bj lb (AR (Bj iL (AR (C _ _ (L.gb.at lb) (L.ga.at iL) st _ (g.kind.trans kd) ?_)))));by_cases c:rk b[ib]<rk a[ia]
 .rw[uF c]
  dsimp only;rw[uE rfl];refine AR (Bj lb ?_);have db:=L.stepB mi lb λj j1 hj=>D3 (FE c) (Es L.sa j1 hj);by_cases c1:ib+1=b.size
  .rw[uE (by rw[c1];exact beq_self_eq_true _)]
   exact AX ⟨g,.inl ⟨_,_,rfl,L.done db (u6 c1)⟩⟩
  .rw[uD (by intro z;exact c1 (beq_iff_eq.mp z))]
   by_cases c2:bc+1 >= mg
   .rw[uE c2]
    exact AX ⟨g,.inr ⟨_,_,_,_,_,rfl,⟨db,la,vw lb c1⟩,yH hm⟩⟩
   .rw[uD c2]
    exact AX ⟨g,_,_,_,_,_,rfl,⟨db,la,vw lb c1⟩,yH hm⟩
 .rw[uG c]
  dsimp only;rw[uD (by decide)];refine AR (Bj iL ?_);have db:=L.stepA mi iL λj j1 hj=>D3 (HV.mp c) (Es L.sb j1 hj);by_cases c1:ia+1+1=a.size
  .rw[uE (by rw[c1];exact beq_self_eq_true _)]
   exact AX ⟨g,.inl ⟨_,_,rfl,L.last db c1⟩⟩
  .rw[uD (by intro z;exact c1 (beq_iff_eq.mp z))]
   by_cases c2:ac+1 >= mg
   .rw[uE c2]
    exact AX ⟨g,.inr ⟨_,_,_,_,_,rfl,⟨db,vw la c1,lb⟩,yI hm⟩⟩
   .rw[uD c2]
    exact AX ⟨g,_,_,_,_,_,rfl,⟨db,vw la c1,lb⟩,yI hm⟩
theorem Nt(L:Lo G rk a b){mg:Nat}(g:Gx cv st)(mi:MI rk a.toList b.toList out.toList ia ib)(la:ia+1<a.size)(lb:ib<b.size)(h:∀j,ib<=j->∀hj:j<b.size,rk (a[ia]'(u5 la))<=rk b[j])(hm:m<=ia+ib) :
  wpS (AM prog w) A E s (loEnd a b mg ac bc out ia ib) (λr bh=>match r with| .done c'=>E2 rk a b cv m c' bh| .yield c'=>Y2 rk a b cv m c' bh) st:=by
 have iL:ia<a.size:=u5 la;unfold loEnd;refine AR (Bj iL ?_);have db:=L.stepA mi iL h;by_cases c1:ia+1+1=a.size
 .rw[uE (by rw[c1];exact beq_self_eq_true _)]
  exact AX ⟨g,.inl ⟨_,_,rfl,L.last db c1⟩⟩
 .rw[uD (by intro z;exact c1 (beq_iff_eq.mp z))]
  by_cases c2:(decide (ac<7)&&decide (bc<7))=true
  .rw[uE c2]
   exact AX ⟨g,.inr ⟨_,_,_,_,_,_,rfl,⟨db,vw la c1,lb⟩,wX hm⟩⟩
  .rw[uD c2]
   exact AX ⟨g,_,_,_,_,_,_,rfl,⟨db,vw la c1,lb⟩,wX hm⟩
theorem Ea{key:AE}{base:Nat}(h:base+i<arr.size):bey rk false key arr base i=!decide (rk key<rk arr[base+i]):=by
 unfold bey;rw[uD (by decide),Fo h]
theorem Ez{key:AE}{base:Nat}(h:base+i<arr.size):bey rk true key arr base i=decide (rk arr[base+i]<rk key):=by
 unfold bey;rw[uE rfl,Fo h]
theorem Ov(C:Cmp prog w A E s κ G rk)(L:Lo G rk a b){mg k:Nat}(kd:kindOf cv=κ)(g:Gx cv st)(mi:MI rk a.toList b.toList out.toList ia ib)(la:ia+1<a.size)(lb:ib<b.size)(h:∀j,ia<=j->∀hj:j<a.size,rk b[ib]<=rk a[j])(hm:m<=ia+ib) :
  wpS (AM prog w) A E s (loMid a b mg k bc out ia ib) (λr bh=>match r with| .done c'=>E2 rk a b cv m c' bh| .yield c'=>Y2 rk a b cv m c' bh) st:=by
 have iL:ia<a.size:=u5 la;unfold loMid;refine AR (Bj lb ?_);have db:=L.stepB mi lb h;by_cases c1:ib+1=b.size
 .rw[uE (by rw[c1];exact beq_self_eq_true _)]
  exact AX ⟨g,.inl ⟨_,_,rfl,L.done db (u6 c1)⟩⟩
 .rw[uD (by intro z;exact c1 (beq_iff_eq.mp z))]
  refine AR (Bj iL ?_);refine AR (DQ C (L.ga.at iL) L.gb (g.kind.trans kd) (yJ lb) (by lia) (FJ (RQ L.sb (yJ lb))) λk' kn kt kf=>?_);dsimp only;have t1:∀i,ib+1<=i->i<ib+1+k'->∀hi:i<b.size,rk b[i]<rk a[ia]:=λi i1 i2 hi=>by
   have z:=kt (i-(ib+1)) (wg i2 i1);rw[Ez (yL i1 hi)] at z;have e:ib+1+(i-(ib+1))=i:=vp i1;simp only[e] at z;exact uH z
  have t2:∀j,ib+1+k'<=j->∀hj:j<b.size,rk a[ia]<=rk b[j]:=λi i1 hi=>by
   have z:=kf (i-(ib+1)) (wj i1) (yM hi i1);rw[Ez (yN i1 hi)] at z;have e:ib+1+(i-(ib+1))=i:=wk i1;simp only[e] at z;exact HV.mp (of_decide_eq_false z)
  by_cases c2:k'>0
  .rw[uE c2]
   have i6:=L.manyB (k:=k') db λi i1 i2 hi j j1 hj=>D3 (FE (t1 i i1 i2 hi)) (Es L.sa j1 hj);by_cases c3:ib+1+k'=b.size
   .rw[uE (by rw[c3];exact beq_self_eq_true _)]
    exact AX ⟨g,.inl ⟨_,_,rfl,L.done i6 (u6 c3)⟩⟩
   .rw[uD (by intro z;exact c3 (beq_iff_eq.mp z))]
    exact Nt L g i6 la (by lia) t2 (by lia)
  .rw[uD c2]
   have:k'=0:=yO c2;subst this;exact Nt L g db la (vw lb c1) t2 (by lia)
theorem OJ(C:Cmp prog w A E s κ G rk)(L:Lo G rk a b){mg:Nat}(kd:kindOf cv=κ)(g:Gx cv st)(at_:At rk a b out ia ib)(hm:m<=ia+ib) :
  wpS (AM prog w) A E s (loGal a b mg ac bc out ia ib) (λr bh=>match r with| .done c'=>E2 rk a b cv m c' bh| .yield c'=>Y2 rk a b cv m c' bh) st:=by
 obtain⟨mi,la,lb⟩:=at_;have iL:ia<a.size:=u5 la;unfold loGal;refine AR (setMin ?_);have g':=Qe g mg;generalize JJ (kindOf st) (AU st) (BF st) mg (GV st)=st1 at g';refine AR (Bj lb ?_);refine AR (DQ C (L.gb.at lb) L.ga (g'.kind.trans kd) (yP la) (by lia) (FJ (RQ L.sa (yP la))) λk kn kt kf=>?_);dsimp only;have t1:∀i,ia<=i->i<ia+k->∀hi:i<a.size,rk a[i]<=rk b[ib]:=λi i1 i2 hi=>by
  have z:=kt (i-ia) (wg i2 i1);rw[Ea (yL i1 hi)] at z;have e:ia+(i-ia)=i:=vp i1;simp only[e] at z;refine HV.mp λy=>?_;rw[uF y] at z;cases z
 have t2:∀j,ia+k<=j->∀hj:j<a.size,rk b[ib]<=rk a[j]:=λi i1 hi=>by
  have z:=kf (i-ia) (wj i1) (yM hi i1);rw[Ea (yN i1 hi)] at z;have e:ia+(i-ia)=i:=wk i1;simp only[e] at z;have z':decide (rk b[ib]<rk a[i])=true:=by
   cases q:decide (rk b[ib]<rk a[i]) with
   | true=>rfl
   | false=>rw[q] at z;cases z
  exact FE (uH z')
 by_cases c2:k>0
 .rw[uE c2]
  have i6:=L.manyA (k:=k) mi λi i1 i2 hi j j1 hj=>D3 (t1 i i1 i2 hi) (Es L.sb j1 hj);by_cases c3:ia+k+1=a.size
  .rw[uE (by rw[c3];exact beq_self_eq_true _)]
   exact AX ⟨g',.inl ⟨_,_,rfl,L.last i6 c3⟩⟩
  .rw[uD (by intro z;exact c3 (beq_iff_eq.mp z))]
   by_cases c4:ia+k=a.size
   .rw[uE (by rw[c4];exact beq_self_eq_true _)]
    exact AX ⟨g',.inl ⟨_,_,rfl,L.doneA i6 (u6 c4)⟩⟩
   .rw[uD (by intro z;exact c4 (beq_iff_eq.mp z))]
    exact Ov C L kd g' i6 (by lia) lb t2 (wX hm)
 .rw[uD c2]
  have:k=0:=yO c2;subst this;exact Ov C L kd g' mi la lb t2 hm
theorem Rk(C:Cmp prog w A E s κ G rk)(L:Lo G rk a b)(kd:kindOf st=κ)(a1:1<=a.size)(b1:1<=b.size)(hf:∀j,∀hj:j<a.size,rk b[0]<=rk a[j]){Q:Array AE->Bz->Prop}(h:∀r bh,Gx st bh->Mg rk a.toList b.toList r.toList->Q r bh):wpS (AM prog w) A E s (JC a b) Q st:=by
 rw[SQ];refine AR (NF (F7 ⟨rfl,?_⟩));refine AR (Bj b1 ?_);have mi0:MI rk a.toList b.toList (#[]:Array AE).toList 0 0:=⟨LF _,LP,λx hx=>(by cases hx),λx hx=>(by cases hx)⟩;have mi:=L.stepB mi0 b1 λj _ hj=>hf j hj;by_cases c1:1=b.size
 .rw[uE (by rw[<- c1];rfl)]
  exact AX (h _ _ (Gx.refl _) (L.done mi (u6 c1)))
 rw[uD (by intro z;exact c1 (beq_iff_eq.mp z))];by_cases c2:0+1=a.size
 .rw[uE (by rw[<- c2];rfl)]
  exact AX (h _ _ (Gx.refl _) (L.last mi c2))
 rw[uD (by intro z;exact c2 (beq_iff_eq.mp z))];refine AR (J6 ?_);refine AR (EE (DM (I:=λx c bh=>Gx st bh/\∃out ia ib mg,c=(uB,out,ia,ib,mg)/\At rk a b out ia ib/\x+1<=ia+ib)
  (Q:=λc bh=>Gx st bh/\∃x y,c=(uA x,y)/\Mg rk a.toList b.toList x.toList) ?_ ?_ ⟨Gx.refl _,_,_,_,_,rfl,⟨mi,by lia,wc b1 c1⟩,vC⟩) ?_)
 .rintro x c bh _ xn ⟨g,out,ia,ib,mg,rfl,at_,xm⟩
  dsimp only;refine AR (EE (DM (I:=λy c bh=>Y1 rk a b st (x+1+y) c bh) (Q:=E1 rk a b st (x+2)) ?_ ?_ ⟨g,_,_,_,_,_,rfl,at_,yQ xm⟩) ?_)
  .rintro y c b6 _ yn ⟨g2,out2,ia2,ib2,ac,bc,rfl,at2,hm⟩
   refine EE (Yv C L kd g2 at2 hm) λr e9 hr=>?_;cases r with
   | done c' =>
    obtain⟨g3,q⟩:=hr;refine⟨g3,q.imp id λ⟨o,i,j,k,l,e,a',b'⟩=>⟨o,i,j,k,l,e,a',by lia⟩⟩
   | yield c'=>exact hr
  .rintro c b6 ⟨g2,out2,ia2,ib2,ac,bc,rfl,at2,hm⟩
   exact⟨g2,.inr ⟨_,_,_,_,_,rfl,at2,by lia⟩⟩
  .rintro c b6 ⟨g2,⟨r,y,rfl,m⟩| ⟨out2,ia2,ib2,ac,bc,rfl,at2,hm⟩⟩
   .exact AX ⟨g2,_,_,rfl,m⟩
   .refine AR (NF (F7 ⟨rfl,?_⟩))
    refine AR (EE (DM (I:=λy c bh=>Y2 rk a b st (x+2) c bh) (Q:=E2 rk a b st (x+2)) ?_ ?_ ⟨g2,_,_,_,_,_,_,rfl,at2,hm⟩) ?_)
    .rintro y c e9 _ yn ⟨g3,out3,ia3,ib3,mg3,ac3,bc3,rfl,at3,hm3⟩
     split
     .exact EE (OJ C L kd g3 at3 hm3) λr st4 hr=>by cases r<;>exact hr
     .exact EE (OJ C L kd g3 at3 hm3) λr st4 hr=>by cases r<;>exact hr
    .rintro c e9 ⟨g3,out3,ia3,ib3,mg3,ac3,bc3,rfl,at3,hm3⟩
     exact⟨g3,.inr ⟨_,_,_,_,_,_,rfl,at3,hm3⟩⟩
    .rintro c e9 ⟨g3,⟨r,y,rfl,m⟩| ⟨out3,ia3,ib3,mg3,ac3,bc3,rfl,at3,hm3⟩⟩
     .exact AX ⟨g3,_,_,rfl,m⟩
     .refine AR (setMin (AX ⟨Qe g3 _,_,_,_,_,rfl,at3,by lia⟩))
 .rintro c bh ⟨g,out,ia,ib,mg,rfl,⟨_,la,lb⟩,xm⟩
  lia
 .rintro c bh ⟨g,x,y,rfl,m⟩
  exact AX (h _ _ g m)
end
variable{rk:AE->Int}{G:AE->Prop}
noncomputable abbrev hiDone(a b out:Array AE)(na nb:Nat):Array AE:=a.extract 0 na++b.extract 0 nb++out.reverse
noncomputable abbrev HW(a b out:Array AE)(na nb:Nat):Array AE:=b.extract 0 nb++a.extract 0 na++out.reverse
abbrev T1:=Option (Array AE)×Nat×Nat×Array AE×Nat×Nat
abbrev T2:=Option (Array AE)×Nat×Nat×Array AE×Nat×Nat×Nat
abbrev T0:=Option (Array AE)×Nat×Nat×Array AE×Nat
noncomputable def hiOne(a b:Array AE)(mg:Nat)(r:T1):StateT Bz Sem (ForInStep T1):=do
 let y <- DT b (r.2.2.1-1)
 let x <- DT a (r.2.1-1)
 let c <- lt' y x
 match c with
 | some aWins =>
  if aWins=true then do
   let x <- DT a (r.2.1-1)
   if(r.2.1-1==0)=true then
    pure (BM (uA (hiDone a b (r.2.2.2.1.push x) (r.2.1-1) r.2.2.1),r.2.1-1,r.2.2.1,r.2.2.2.1.push x,r.2.2.2.2.1+1,0))
   else if r.2.2.2.2.1+1 >= mg then
    pure (BM (uB,r.2.1-1,r.2.2.1,r.2.2.2.1.push x,r.2.2.2.2.1+1,0))
   else pure (CS (uB,r.2.1-1,r.2.2.1,r.2.2.2.1.push x,r.2.2.2.2.1+1,0))
  else do
   let y <- DT b (r.2.2.1-1)
   if(r.2.2.1-1==1)=true then
    pure (BM (uA (HW a b (r.2.2.2.1.push y) r.2.1 (r.2.2.1-1)),r.2.1,r.2.2.1-1,r.2.2.2.1.push y,0,r.2.2.2.2.2+1))
   else if r.2.2.2.2.2+1 >= mg then
    pure (BM (uB,r.2.1,r.2.2.1-1,r.2.2.2.1.push y,0,r.2.2.2.2.2+1))
   else pure (CS (uB,r.2.1,r.2.2.1-1,r.2.2.2.1.push y,0,r.2.2.2.2.2+1))
 | _=>pure (BM (uA (hiDone a b r.2.2.2.1 r.2.1 r.2.2.1),r.2.1,r.2.2.1,r.2.2.2.1,r.2.2.2.2.1,r.2.2.2.2.2))
noncomputable def hiEnd(a b:Array AE)(mg ac bc:Nat)(out:Array AE)(na nb:Nat):StateT Bz Sem (ForInStep T2):=do
 let x <- DT a (na-1)
 if(na-1==0)=true then pure (BM (uA (hiDone a b (out.push x) (na-1) nb),na-1,nb,out.push x,mg,ac,bc))
 else if(decide (ac<7)&&decide (bc<7))=true then pure (BM (uB,na-1,nb,out.push x,mg,ac,bc))
 else pure (CS (uB,na-1,nb,out.push x,mg,ac,bc))
noncomputable def hiMid(a b:Array AE)(mg k bc:Nat)(out:Array AE)(na nb:Nat):StateT Bz Sem (ForInStep T2):=do
 let y <- DT b (nb-1)
 if(nb-1==1)=true then pure (BM (uA (HW a b (out.push y) na (nb-1)),na,nb-1,out.push y,mg,k,bc))
 else do
  let x <- DT a (na-1)
  let r <- Cu true x b 0 (nb-1) (nb-1-1)
  match r with
  | some t =>
   if nb-1-t>0 then
    if(t==1)=true then pure (BM (uA (HW a b (out.push y++(b.extract t (nb-1)).reverse) na t),na,t,out.push y++(b.extract t (nb-1)).reverse,mg,k,nb-1-t))
    else if(t==0)=true then pure (BM (uA (hiDone a b (out.push y++(b.extract t (nb-1)).reverse) na t),na,t,out.push y++(b.extract t (nb-1)).reverse,mg,k,nb-1-t))
    else hiEnd a b mg k (nb-1-t) (out.push y++(b.extract t (nb-1)).reverse) na t
   else hiEnd a b mg k (nb-1-t) (out.push y) na (nb-1)
  | _=>pure (BM (uA (hiDone a b (out.push y) na (nb-1)),na,nb-1,out.push y,mg,k,bc))
noncomputable def hiGal(a b:Array AE)(mg ac bc:Nat)(out:Array AE)(na nb:Nat):StateT Bz Sem (ForInStep T2):=do
 Dg mg
 let y <- DT b (nb-1)
 let r <- Cu false y a 0 na (na-1)
 match r with
 | some t =>
  if na-t>0 then
   if(t==0)=true then pure (BM (uA (hiDone a b (out++(a.extract t na).reverse) t nb),t,nb,out++(a.extract t na).reverse,mg,na-t,bc))
   else hiMid a b mg (na-t) bc (out++(a.extract t na).reverse) t nb
  else hiMid a b mg (na-t) bc out na nb
 | _=>pure (BM (uA (hiDone a b out na nb),na,nb,out,mg,ac,bc))
def Im:Array AE->Array AE->StateT Bz Sem (Array AE):=sortPriv% PySem.Builtin.mergeHi
theorem Vi(a b:Array AE):Im a b=(do
 rule "list.sort.merge-hi"
 let total:=a.size+b.size
 let done (out:Array AE) (na nb:Nat):=a.extract 0 na++b.extract 0 nb++out.reverse
 let firstOfB (out:Array AE) (na nb:Nat):=b.extract 0 nb++a.extract 0 na++out.reverse
 let mut na:=a.size-1
 let mut nb:=b.size
 let mut out:Array AE:=#[<- DT a na]
 if na==0 then return done out na nb
 if nb==1 then return firstOfB out na nb
 let mut minGallop:=RU (<- get)
 for _ in [0:total] do
  let mut acount:=0
  let mut bcount:=0
  for _ in [0:total] do
   let uA aWins <- lt' (<- DT b (nb-1)) (<- DT a (na-1))| return done out na nb
   if aWins then
    na:=na-1;out:=out.push (<- DT a na);acount:=acount+1;bcount:=0
    if na==0 then return done out na nb
    if acount >= minGallop then break
   else
    nb:=nb-1;out:=out.push (<- DT b nb);bcount:=bcount+1;acount:=0
    if nb==1 then return firstOfB out na nb
    if bcount >= minGallop then break
  rule "list.sort.gallop"
  minGallop:=minGallop+1
  for _ in [0:total] do
   if minGallop>1 then minGallop:=minGallop-1
   Dg minGallop
   let uA at_ <- Cu false (<- DT b (nb-1)) a 0 na (na-1)| return done out na nb
   let k:=na-at_
   acount:=k
   if k>0 then
    out:=out++(a.extract at_ na).reverse;na:=at_
    if na==0 then return done out na nb
   nb:=nb-1;out:=out.push (<- DT b nb)
   if nb==1 then return firstOfB out na nb
   let uA at_ <- Cu true (<- DT a (na-1)) b 0 nb (nb-1)| return done out na nb
   let k:=nb-at_
   bcount:=k
   if k>0 then
    out:=out++(b.extract at_ nb).reverse;nb:=at_
    if nb==1 then return firstOfB out na nb
    if nb==0 then return done out na nb
   na:=na-1;out:=out.push (<- DT a na)
   if na==0 then return done out na nb
   if acount<7&&bcount<7 then break
  minGallop:=minGallop+1
  Dg minGallop
 unsupported "internal:list.sort.merge-bound"):=rfl
theorem Uc(a b:Array AE):Im a b=(do
 liftM (rule "list.sort.merge-hi")
 let x <- DT a (a.size-1)
 if(a.size-1==0)=true then pure (hiDone a b #[x] (a.size-1) b.size)
 else if(b.size==1)=true then pure (HW a b #[x] (a.size-1) b.size)
 else do
  let g <- get
  let r <- forIn [0:a.size+b.size] ((uB,a.size-1,b.size,#[x],RU g):T0) λ_ r0=>do
   let r1 <- forIn [0:a.size+b.size] ((uB,r0.2.1,r0.2.2.1,r0.2.2.2.1,0,0):T1) λ_ r=>hiOne a b r0.2.2.2.2 r
   match r1.1 with
   | some x=>pure (BM ((uA x,r1.2.1,r1.2.2.1,r1.2.2.2.1,r0.2.2.2.2):T0))
   | none=>do
    liftM (rule "list.sort.gallop")
    let r2 <- forIn [0:a.size+b.size] ((uB,r1.2.1,r1.2.2.1,r1.2.2.2.1,r0.2.2.2.2+1,r1.2.2.2.2.1,r1.2.2.2.2.2):T2) λ_ r =>
     if r.2.2.2.2.1>1 then hiGal a b (r.2.2.2.2.1-1) r.2.2.2.2.2.1 r.2.2.2.2.2.2 r.2.2.2.1 r.2.1 r.2.2.1
     else hiGal a b r.2.2.2.2.1 r.2.2.2.2.2.1 r.2.2.2.2.2.2 r.2.2.2.1 r.2.1 r.2.2.1
    match r2.1 with
    | some x=>pure (BM ((uA x,r2.2.1,r2.2.2.1,r2.2.2.2.1,r2.2.2.2.2.1):T0))
    | none=>do
     Dg (r2.2.2.2.2.1+1)
     pure (CS ((uB,r2.2.1,r2.2.2.1,r2.2.2.2.1,r2.2.2.2.2.1+1):T0))
  match r.1 with
  | some x=>pure x
  | none=>unsupported "internal:list.sort.merge-bound"):=by
 rw[Vi];dsimp only
 congr 1
 funext _
 congr 1
 funext y
 refine ifc rfl (ifc rfl ?_)
 congr 1
 funext g
 congr 1
 .congr 1
  funext x r0
  congr 1
  funext r1
  obtain⟨o1,r1⟩:=r1;cases o1 with
  | some x=>rfl
  | none =>
   dsimp only
   congr 1
   funext u
   congr 1
   funext r2
   obtain⟨o2,r2⟩:=r2;cases o2<;>rfl
 .funext r
  obtain⟨o,r⟩:=r;cases o<;>rfl
variable{rk:AE->Int}{G:AE->Prop}
abbrev nk(rk:AE->Int):AE->Int:=λx=>- rk x
theorem Uu{a b l q:List AE}(m:Mg (nk rk) b.reverse a.reverse l)(e:q=l.reverse):Mg rk a b q:=by
 obtain⟨p,sr⟩:=m;subst e;refine⟨(OE l).trans (p.trans ?_),?_⟩
 .exact(((OE b).append (OE a))).trans HH
 .exact Rl.mpr (sr.imp λ{x y} h=>by
   have:- rk x<=- rk y:=h;lia)
theorem Dl{a:Array AE}(h:n<=a.size):a.toList.reverse.drop (a.size-n)=(a.toList.take n).reverse:=by
 rw[List.drop_reverse]
 congr 2
 simp;exact xL h
section
variable{a b:Array AE}
def HAt(rk:AE->Int)(a b out:Array AE)(na nb:Nat):Prop:=MI (nk rk) b.toList.reverse a.toList.reverse out.toList (b.size-nb) (a.size-na)/\na<=a.size/\nb<=b.size
structure Hi(G:AE->Prop)(rk:AE->Int)(a b:Array AE):Prop where
 ga:Al G a
 gb:Al G b
 sa:Srt rk a.toList
 sb:Srt rk b.toList
 hf:∀j,∀hj:j<a.size,∀h0:0<b.size,rk b[0]<=rk a[j]
theorem Fp{l:List AE}(h:Srt rk l):Srt (nk rk) l.reverse:=Rl.mpr (h.imp λ{x y} h=>by show-rk y<=- rk x;exact wT h)
theorem Ey{a:Array AE}{z:AE}(hn:n<=a.size)(h:z∈a.toList.reverse.drop (a.size-n)):∃j,j<n/\∃hj:j<a.size,z=a[j]:=by
 rw[Dl hn] at h;have h':=IG.mp h;obtain⟨k,hk,e⟩:=CL.mp h';rw[B7] at hk;have:a.toList.length=a.size:=by simp
 refine⟨k,v5 hk,by lia,?_⟩;rw[<- e,J2];simp
theorem rtake{a:Array AE}{t:Nat}(hn:n<=a.size)(ht:t<=n):(a.toList.reverse.drop (a.size-n)).take (n-t)=((a.toList.drop t).take (n-t)).reverse:=by
 rw[Dl hn,List.take_reverse]
 congr 1
 have:a.toList.length=a.size:=by simp
 rw[B7,show min n a.toList.length-(n-t)=t by lia,List.drop_take]
theorem Tt{a:Array AE}{t:Nat}(hn:n<=a.size)(ht:t<=n):(out++(a.extract t n).reverse).toList=out.toList++(a.toList.reverse.drop (a.size-n)).take (n-t):=by
 rw[rtake hn ht,De,Kx,GW]
theorem Np{a:Array AE}(h1:1<=n)(hn:n<=a.size):(out.push (a[n-1]'(u9 h1 hn))).toList=out.toList++(a.toList.reverse.drop (a.size-n)).take 1:=by
 have:=rtake (a:=a) (n:=n) (t:=n-1) hn vi;rw[show n-(n-1)=1 from xL h1] at this;rw[this,HR]
 congr 1
 have hl:n-1<a.toList.length:=by simp;exact u9 h1 hn
 rw[KU hl,Nc,NG];simp
theorem Hi.stepA(L:Hi G rk a b)(m:HAt rk a b out na nb)(h1:1<=na)(h:∀j,j<nb->∀hj:j<b.size,rk b[j]<=rk (a[na-1]'(by have:=m.2.1;exact u9 h1 this))):HAt rk a b (out.push (a[na-1]'(by have:=m.2.1;exact u9 h1 this))) (na-1) nb:=by
 obtain⟨mi,ha,hb⟩:=m;refine⟨?_,wI ha,hb⟩;rw[Np h1 ha,show a.size-(na-1)=a.size-na+1 from yu ha h1];refine mi.takeB (Fp L.sa) 1 λy hy z hz=>?_;rw[show(1:Nat)=na-(na-1) from yv h1,rtake ha vi] at hy;obtain⟨j,j1,j2,hj,rfl⟩:=CZ (IG.mp hy);have:j=na-1:=yw j2 j1;subst this;obtain⟨i,i1,hi,rfl⟩:=Ey hb hz;have:=h i i1 hi;show-_<=- _;lia
theorem Hi.stepB(L:Hi G rk a b)(m:HAt rk a b out na nb)(h1:1<=nb)(h:∀j,j<na->∀hj:j<a.size,rk a[j]<=rk (b[nb-1]'(by have:=m.2.2;exact u9 h1 this))):HAt rk a b (out.push (b[nb-1]'(by have:=m.2.2;exact u9 h1 this))) na (nb-1):=by
 obtain⟨mi,ha,hb⟩:=m;refine⟨?_,ha,wI hb⟩;rw[Np h1 hb,show b.size-(nb-1)=b.size-nb+1 from yu hb h1];refine mi.takeA (Fp L.sb) 1 λy hy z hz=>?_;rw[show(1:Nat)=nb-(nb-1) from yv h1,rtake hb vi] at hy;obtain⟨j,j1,j2,hj,rfl⟩:=CZ (IG.mp hy);have:j=nb-1:=yw j2 j1;subst this;obtain⟨i,i1,hi,rfl⟩:=Ey ha hz;have:=h i i1 hi;show-_<=- _;lia
theorem Hi.manyA(L:Hi G rk a b){t:Nat}(m:HAt rk a b out na nb)(ht:t<=na)(h:∀i,t<=i->i<na->∀hi:i<a.size,∀j,j<nb->∀hj:j<b.size,rk b[j]<=rk a[i]):HAt rk a b (out++(a.extract t na).reverse) t nb:=by
 obtain⟨mi,ha,hb⟩:=m;refine⟨?_,vD ht ha,hb⟩;rw[Tt ha ht,show a.size-t=a.size-na+(na-t) from yx ht ha];refine mi.takeB (Fp L.sa) _ λy hy z hz=>?_;rw[rtake ha ht] at hy;obtain⟨i,i1,i2,hi,rfl⟩:=CZ (IG.mp hy);obtain⟨j,j1,hj,rfl⟩:=Ey hb hz;have:=h i i1 (yy i2 ht) hi j j1 hj;show-_<=- _;exact wT this
theorem Hi.manyB(L:Hi G rk a b){t:Nat}(m:HAt rk a b out na nb)(ht:t<=nb)(h:∀i,t<=i->i<nb->∀hi:i<b.size,∀j,j<na->∀hj:j<a.size,rk a[j]<=rk b[i]):HAt rk a b (out++(b.extract t nb).reverse) na t:=by
 obtain⟨mi,ha,hb⟩:=m;refine⟨?_,ha,vD ht hb⟩;rw[Tt hb ht,show b.size-t=b.size-nb+(nb-t) from yx ht hb];refine mi.takeA (Fp L.sb) _ λy hy z hz=>?_;rw[rtake hb ht] at hy;obtain⟨i,i1,i2,hi,rfl⟩:=CZ (IG.mp hy);obtain⟨j,j1,hj,rfl⟩:=Ey ha hz;have:=h i i1 (yy i2 ht) hi j j1 hj;show-_<=- _;exact wT this
theorem HF(a:Array AE)(n:Nat):(a.extract 0 n).toList=a.toList.take n:=by
 rw[GW];simp[Tb]
theorem Hi.doneA(L:Hi G rk a b)(m:HAt rk a b out na nb)(z:na=0):Mg rk a.toList b.toList (hiDone a b out na nb).toList:=by
 subst z;obtain⟨mi,ha,hb⟩:=m;refine Uu (mi.doneB (Fp L.sb) (by simp)) ?_;rw[Dl hb,Dl ha];unfold hiDone;rw[De,De,Kx,HF,HF,G9,G9,GY,GY,B9]
theorem Hi.doneB(L:Hi G rk a b)(m:HAt rk a b out na nb)(z:nb=0):Mg rk a.toList b.toList (hiDone a b out na nb).toList:=by
 subst z;obtain⟨mi,ha,hb⟩:=m;refine Uu (mi.doneA (Fp L.sa) (by simp)) ?_;rw[Dl hb,Dl ha];unfold hiDone;rw[De,De,Kx,HF,HF,G9,G9,GY,GY,B9]
theorem Hi.first(L:Hi G rk a b)(m:HAt rk a b out na nb)(z:nb=1):Mg rk a.toList b.toList (HW a b out na nb).toList:=by
 subst z;obtain⟨mi,ha,hb⟩:=m;refine Uu (mi.last (Fp L.sa) (by simp;exact wM hb) λy hy z hz=>?_) ?_
 .obtain⟨j,j1,hj,rfl⟩:=Ey hb hz
  have:j=0:=by lia
  subst this;obtain⟨i,hi,rfl⟩:=CL.mp (IG.mp hy);have ci:i<a.size:=by simpa using hi
  have:=L.hf i ci hj;simp;exact this
 .rw[Dl hb,Dl ha]
  unfold HW;rw[De,De,Kx,HF,HF,G9,G9,GY,GY,B9]
def F1(rk:AE->Int)(a b:Array AE)(st:Bz)(m:Nat)(r:T1)(bh:Bz):Prop:=Gx st bh/\((∃x y,r=(uA x,y)/\Mg rk a.toList b.toList x.toList)\/∃out na nb ac bc,r=(uB,na,nb,out,ac,bc)/\HAt rk a b out na nb/\1<=na/\2<=nb/\na+nb+m<=a.size+b.size)
def F2(rk:AE->Int)(a b:Array AE)(st:Bz)(m:Nat)(r:T2)(bh:Bz):Prop:=Gx st bh/\((∃x y,r=(uA x,y)/\Mg rk a.toList b.toList x.toList)\/∃out na nb mg ac bc,r=(uB,na,nb,out,mg,ac,bc)/\HAt rk a b out na nb/\1<=na/\2<=nb/\na+nb+m<=a.size+b.size)
def Z1(rk:AE->Int)(a b:Array AE)(st:Bz)(m:Nat)(r:T1)(bh:Bz):Prop:=Gx st bh/\∃out na nb ac bc,r=(uB,na,nb,out,ac,bc)/\HAt rk a b out na nb/\1<=na/\2<=nb/\na+nb+m<=a.size+b.size
def Z2(rk:AE->Int)(a b:Array AE)(st:Bz)(m:Nat)(r:T2)(bh:Bz):Prop:=Gx st bh/\∃out na nb mg ac bc,r=(uB,na,nb,out,mg,ac,bc)/\HAt rk a b out na nb/\1<=na/\2<=nb/\na+nb+m<=a.size+b.size
theorem ZW(C:Cmp prog w A E s κ G rk)(L:Hi G rk a b){mg:Nat}(kd:kindOf cv=κ)(g:Gx cv st)(at_:HAt rk a b out na nb)(n1:1<=na)(n2:2<=nb)(hm:na+nb+m<=a.size+b.size) :
  wpS (AM prog w) A E s (hiOne a b mg (uB,na,nb,out,ac,bc)) (λr bh=>match r with| .done c'=>F1 rk a b cv (m+1) c' bh| .yield c'=>Z1 rk a b cv (m+1) c' bh) st:=by
 obtain⟨_,ha,hb⟩:=id at_;have la:na-1<a.size:=u9 n1 ha;have lb:nb-1<b.size:=we n2 hb;unfold hiOne;dsimp only;refine AR (Bj lb (AR (Bj la (AR (C _ _ (L.gb.at lb) (L.ga.at la) st _ (g.kind.trans kd) ?_)))));by_cases c:rk b[nb-1]<rk a[na-1]
 .rw[uF c]
  dsimp only;rw[uE rfl];refine AR (Bj la ?_);have db:=L.stepA at_ n1 λj j1 hj=>D3 (Es L.sb (show j<=nb-1 from vE j1) lb) (FE c);by_cases c1:na-1=0
  .rw[uE (by rw[c1];rfl)]
   exact AX ⟨g,.inl ⟨_,_,rfl,L.doneA db c1⟩⟩
  .rw[uD (by intro z;exact c1 (beq_iff_eq.mp z))]
   by_cases c2:ac+1 >= mg
   .rw[uE c2]
    exact AX ⟨g,.inr ⟨_,_,_,_,_,rfl,db,vF c1,n2,yA hm n1⟩⟩
   .rw[uD c2]
    exact AX ⟨g,_,_,_,_,_,rfl,db,vF c1,n2,yA hm n1⟩
 .rw[uG c]
  dsimp only;rw[uD (by decide)];refine AR (Bj lb ?_);have db:=L.stepB at_ (wU n2) λj j1 hj=>D3 (Es L.sa (show j<=na-1 from vE j1) la) (HV.mp c);by_cases c1:nb-1=1
  .rw[uE (by rw[c1];rfl)]
   exact AX ⟨g,.inl ⟨_,_,rfl,L.first db c1⟩⟩
  .rw[uD (by intro z;exact c1 (beq_iff_eq.mp z))]
   by_cases c2:bc+1 >= mg
   .rw[uE c2]
    exact AX ⟨g,.inr ⟨_,_,_,_,_,rfl,db,n1,wV n2 c1,yB n2 hm⟩⟩
   .rw[uD c2]
    exact AX ⟨g,_,_,_,_,_,rfl,db,n1,wV n2 c1,yB n2 hm⟩
theorem Nr(L:Hi G rk a b){mg:Nat}(g:Gx cv st)(at_:HAt rk a b out na nb)(n1:1<=na)(n2:2<=nb)(h:∀j,j<nb->∀hj:j<b.size,rk b[j]<=rk (a[na-1]'(by have:=at_.2.1;exact u9 n1 this)))(hm:na+nb+m<=a.size+b.size) :
  wpS (AM prog w) A E s (hiEnd a b mg ac bc out na nb) (λr bh=>match r with| .done c'=>F2 rk a b cv m c' bh| .yield c'=>Z2 rk a b cv m c' bh) st:=by
 obtain⟨_,ha,hb⟩:=id at_;have la:na-1<a.size:=u9 n1 ha;unfold hiEnd;refine AR (Bj la ?_);have db:=L.stepA at_ n1 h;by_cases c1:na-1=0
 .rw[uE (by rw[c1];rfl)]
  exact AX ⟨g,.inl ⟨_,_,rfl,L.doneA db c1⟩⟩
 .rw[uD (by intro z;exact c1 (beq_iff_eq.mp z))]
  by_cases c2:(decide (ac<7)&&decide (bc<7))=true
  .rw[uE c2]
   exact AX ⟨g,.inr ⟨_,_,_,_,_,_,rfl,db,vF c1,n2,yC hm⟩⟩
  .rw[uD c2]
   exact AX ⟨g,_,_,_,_,_,_,rfl,db,vF c1,n2,yC hm⟩
theorem Oi(C:Cmp prog w A E s κ G rk)(L:Hi G rk a b){mg k:Nat}(kd:kindOf cv=κ)(g:Gx cv st)(at_:HAt rk a b out na nb)(n1:1<=na)(n2:2<=nb)(h:∀j,j<na->∀hj:j<a.size,rk a[j]<=rk (b[nb-1]'(by have:=at_.2.2;exact we n2 this)))(hm:na+nb+m<=a.size+b.size) :
  wpS (AM prog w) A E s (hiMid a b mg k bc out na nb) (λr bh=>match r with| .done c'=>F2 rk a b cv m c' bh| .yield c'=>Z2 rk a b cv m c' bh) st:=by
 obtain⟨_,ha,hb⟩:=id at_;have la:na-1<a.size:=u9 n1 ha;have lb:nb-1<b.size:=we n2 hb;unfold hiMid;refine AR (Bj lb ?_);have db:=L.stepB at_ (wU n2) h;by_cases c1:nb-1=1
 .rw[uE (by rw[c1];rfl)]
  exact AX ⟨g,.inl ⟨_,_,rfl,L.first db c1⟩⟩
 .rw[uD (by intro z;exact c1 (beq_iff_eq.mp z))]
  refine AR (Bj la ?_);refine AR (DQ C (L.ga.at la) L.gb (g.kind.trans kd) (yD lb) (by lia) (FJ (RQ L.sb (yD lb))) λt kn kt kf=>?_);dsimp only;have t1:∀i,i<t->∀hi:i<b.size,rk b[i]<rk a[na-1]:=λi i1 hi=>by
   have z:=kt i i1;rw[Ez (wf hi)] at z;simp only[K1] at z;exact uH z
  have t2:∀j,t<=j->j<nb-1->∀hj:j<b.size,rk a[na-1]<=rk b[j]:=λi i1 i2 hi=>by
   have z:=kf i i1 i2;rw[Ez (wf hi)] at z;simp only[K1] at z;exact HV.mp (of_decide_eq_false z)
  by_cases c2:nb-1-t>0
  .rw[uE c2]
   have i6:=L.manyB (t:=t) db kn λi i1 i2 hi j j1 hj=>D3 (Es L.sa (show j<=na-1 from vE j1) la) (t2 i i1 i2 hi);by_cases c3:t=1
   .rw[uE (by rw[c3];rfl)]
    exact AX ⟨g,.inl ⟨_,_,rfl,L.first i6 c3⟩⟩
   .rw[uD (by intro z;exact c3 (beq_iff_eq.mp z))]
    by_cases c4:t=0
    .rw[uE (by rw[c4];rfl)]
     exact AX ⟨g,.inl ⟨_,_,rfl,L.doneB i6 c4⟩⟩
    .rw[uD (by intro z;exact c4 (beq_iff_eq.mp z))]
     exact Nr L g i6 n1 (by lia) (λj j1 hj=>FE (t1 j j1 hj)) (by lia)
  .rw[uD c2]
   exact Nr L g db n1 (wV n2 c1) (λj j1 hj=>FE (t1 j (yE j1 c2) hj)) (by lia)
theorem Nu(C:Cmp prog w A E s κ G rk)(L:Hi G rk a b){mg:Nat}(kd:kindOf cv=κ)(g:Gx cv st)(at_:HAt rk a b out na nb)(n1:1<=na)(n2:2<=nb)(hm:na+nb+m<=a.size+b.size) :
  wpS (AM prog w) A E s (hiGal a b mg ac bc out na nb) (λr bh=>match r with| .done c'=>F2 rk a b cv m c' bh| .yield c'=>Z2 rk a b cv m c' bh) st:=by
 obtain⟨_,ha,hb⟩:=id at_;have lb:nb-1<b.size:=we n2 hb;unfold hiGal;refine AR (setMin ?_);have g':=Qe g mg;generalize JJ (kindOf st) (AU st) (BF st) mg (GV st)=st1 at g';refine AR (Bj lb ?_);refine AR (DQ C (L.gb.at lb) L.ga (g'.kind.trans kd) (yF ha) (vX n1) (FJ (RQ L.sa (yF ha))) λt kn kt kf=>?_);dsimp only;have t1:∀i,i<t->∀hi:i<a.size,rk a[i]<=rk b[nb-1]:=λi i1 hi=>by
  have z:=kt i i1;rw[Ea (wf hi)] at z;simp only[K1] at z;refine HV.mp λy=>?_;rw[uF y] at z;cases z
 have t2:∀j,t<=j->j<na->∀hj:j<a.size,rk b[nb-1]<=rk a[j]:=λi i1 i2 hi=>by
  have z:=kf i i1 i2;rw[Ea (wf hi)] at z;simp only[K1] at z;have z':decide (rk b[nb-1]<rk a[i])=true:=by
   cases q:decide (rk b[nb-1]<rk a[i]) with
   | true=>rfl
   | false=>rw[q] at z;cases z
  exact FE (uH z')
 by_cases c2:na-t>0
 .rw[uE c2]
  have i6:=L.manyA (t:=t) at_ kn λi i1 i2 hi j j1 hj=>D3 (Es L.sb (show j<=nb-1 from vE j1) lb) (t2 i i1 i2 hi);by_cases c3:t=0
  .rw[uE (by rw[c3];rfl)]
   exact AX ⟨g',.inl ⟨_,_,rfl,L.doneA i6 c3⟩⟩
  .rw[uD (by intro z;exact c3 (beq_iff_eq.mp z))]
   exact Oi C L kd g' i6 (vF c3) n2 (λj j1 hj=>t1 j j1 hj) (by lia)
 .rw[uD c2]
  exact Oi C L kd g' at_ n1 n2 (λj j1 hj=>t1 j (yE j1 c2) hj) hm
theorem Ue(C:Cmp prog w A E s κ G rk)(L:Hi G rk a b)(kd:kindOf st=κ)(a1:1<=a.size)(b1:1<=b.size)(hl:∀j,∀hj:j<b.size,rk b[j]<=rk (a[a.size-1]'(vX a1))){Q:Array AE->Bz->Prop}(h:∀r bh,Gx st bh->Mg rk a.toList b.toList r.toList->Q r bh):wpS (AM prog w) A E s (Im a b) Q st:=by
 rw[Uc];refine AR (NF (F7 ⟨rfl,?_⟩));refine AR (Bj (vX a1) ?_);have mi0:HAt rk a b #[] a.size b.size:=⟨by
  rw[J5,J5];exact⟨HH.trans HH,LP,λx hx=>(by cases hx),λx hx=>(by cases hx)⟩,AF _,AF _⟩
 have mi:=L.stepA mi0 a1 λj _ hj=>hl j hj;by_cases c1:a.size-1=0
 .rw[uE (by rw[c1];rfl)]
  exact AX (h _ _ (Gx.refl _) (L.doneA mi c1))
 rw[uD (by intro z;exact c1 (beq_iff_eq.mp z))];by_cases c2:b.size=1
 .rw[uE (by rw[c2];rfl)]
  exact AX (h _ _ (Gx.refl _) (L.first mi c2))
 rw[uD (by intro z;exact c2 (beq_iff_eq.mp z))];refine AR (J6 ?_);refine AR (EE (DM (I:=λx c bh=>Gx st bh/\∃out na nb mg,c=(uB,na,nb,out,mg)/\HAt rk a b out na nb/\1<=na/\2<=nb/\na+nb+(x+1)<=a.size+b.size)
  (Q:=λc bh=>Gx st bh/\∃x y,c=(uA x,y)/\Mg rk a.toList b.toList x.toList) ?_ ?_ ⟨Gx.refl _,_,_,_,_,rfl,mi,vF c1,by lia,by lia⟩) ?_)
 .rintro x c bh _ xn ⟨g,out,na,nb,mg,rfl,at_,n1,n2,xm⟩
  dsimp only;refine AR (EE (DM (I:=λy c bh=>Z1 rk a b st (x+1+y) c bh) (Q:=F1 rk a b st (x+2)) ?_ ?_ ⟨g,_,_,_,_,_,rfl,at_,n1,n2,by lia⟩) ?_)
  .rintro y c b6 _ yn ⟨g2,out2,na2,nb2,ac,bc,rfl,at2,m1,m2,hm⟩
   refine EE (ZW C L kd g2 at2 m1 m2 hm) λr e9 hr=>?_;cases r with
   | done c' =>
    obtain⟨g3,q⟩:=hr;refine⟨g3,q.imp id λ⟨o,i,j,k,l,e,a',b',c',d'⟩=>⟨o,i,j,k,l,e,a',b',c',by lia⟩⟩
   | yield c'=>exact hr
  .rintro c b6 ⟨g2,out2,na2,nb2,ac,bc,rfl,at2,m1,m2,hm⟩
   exact⟨g2,.inr ⟨_,_,_,_,_,rfl,at2,m1,m2,by lia⟩⟩
  .rintro c b6 ⟨g2,⟨r,y,rfl,m⟩| ⟨out2,na2,nb2,ac,bc,rfl,at2,m1,m2,hm⟩⟩
   .exact AX ⟨g2,_,_,rfl,m⟩
   .refine AR (NF (F7 ⟨rfl,?_⟩))
    refine AR (EE (DM (I:=λy c bh=>Z2 rk a b st (x+2) c bh) (Q:=F2 rk a b st (x+2)) ?_ ?_ ⟨g2,_,_,_,_,_,_,rfl,at2,m1,m2,hm⟩) ?_)
    .rintro y c e9 _ yn ⟨g3,out3,na3,nb3,mg3,ac3,bc3,rfl,at3,k1,k2,hm3⟩
     split
     .exact EE (Nu C L kd g3 at3 k1 k2 hm3) λr st4 hr=>by cases r<;>exact hr
     .exact EE (Nu C L kd g3 at3 k1 k2 hm3) λr st4 hr=>by cases r<;>exact hr
    .rintro c e9 ⟨g3,out3,na3,nb3,mg3,ac3,bc3,rfl,at3,k1,k2,hm3⟩
     exact⟨g3,.inr ⟨_,_,_,_,_,_,rfl,at3,k1,k2,hm3⟩⟩
    .rintro c e9 ⟨g3,⟨r,y,rfl,m⟩| ⟨out3,na3,nb3,mg3,ac3,bc3,rfl,at3,k1,k2,hm3⟩⟩
     .exact AX ⟨g3,_,_,rfl,m⟩
     .refine AR (setMin (AX ⟨Qe g3 _,_,_,_,_,rfl,at3,k1,k2,by lia⟩))
 .rintro c bh ⟨g,out,na,nb,mg,rfl,at_,n1,n2,xm⟩
  lia
 .rintro c bh ⟨g,x,y,rfl,m⟩
  exact AX (h _ _ g m)
end
variable{rk:AE->Int}{G:AE->Prop}
noncomputable def lay(arr:Array AE)(sa:Nat)(r:Array AE):Array AE:=r.toList.zipIdx.foldl (λa (p,j)=>a.setIfInBounds (sa+j) p) arr
theorem Tr(sa:Nat):∀(l:List AE) (k:Nat) (arr:Array AE),sa+k+l.length<=arr.size->∀q:Nat,
  ((l.zipIdx k).foldl (λa (x:AE×Nat)=>a.setIfInBounds (sa+x.2) x.1) arr).size=arr.size/\((l.zipIdx k).foldl (λa (x:AE×Nat)=>a.setIfInBounds (sa+x.2) x.1) arr)[q]?=if sa+k<=q/\q<sa+k+l.length then l[q-(sa+k)]? else arr[q]?
 | [],k,arr,h,q=>by
  refine⟨rfl,?_⟩;rw[uD (by simp)];rfl
 | x::l,k,arr,h,q=>by
  rw[D0] at h;rw[List.zipIdx_cons,MU];have ih:=Tr sa l (k+1) (arr.setIfInBounds (sa+k) x) (by rw[IF];lia) q;refine⟨ih.1.trans IF,ih.2.trans ?_⟩;rw[D0];by_cases c:sa+k<=q/\q<sa+k+(l.length+1)
  .rw[uE c]
   by_cases d:q=sa+k
   .subst d
    rw[uD (by lia),Array.getElem?_setIfInBounds_self_of_lt (by lia)];simp
   .rw[uE (by lia),show q-(sa+k)=(q-(sa+(k+1)))+1 by lia,List.getElem?_cons_succ]
  .rw[uD c,uD (by lia),IM (by lia)]
theorem QC{r:Array AE}(h:sa+r.size<=arr.size)(q:Nat):(lay arr sa r)[q]?=if sa<=q/\q<sa+r.size then r[q-sa]? else arr[q]?:=by
 have:=(Tr sa r.toList 0 arr (by simpa using h) q).2;unfold lay;simpa using this
theorem ABo{r:Array AE}{lo mid hi:Nat}(lm:lo<=mid)(mh:mid<=hi)(ha:hi<=arr.size)(p:r.toList.Perm ((arr.extract lo mid).toList++(arr.extract mid hi).toList)):(lay arr lo r).Perm arr:=by
 have rl:r.size=hi-lo:=by
  have:=p.length_eq;simp at this;lia
 have e:(lay arr lo r).toList=arr.toList.take lo++(r.toList++arr.toList.drop hi):=by
  apply FC;intro q;rw[BV,QC (by lia)];by_cases c:q<lo
  .rw[uD (yf c),BC (by simp;lia),F5 c,BV]
  .rw[CB (by simp;lia)]
   have e1:(arr.toList.take lo).length=lo:=by simp;lia
   rw[e1];by_cases d:q<hi
   .rw[uE (by lia),BC (by simp;lia),BV]
   .rw[uD (by lia),CB (by simp;lia),S9,A2,rl,BV]
    congr 1
    lia
 have e2:arr.toList=arr.toList.take lo++(((arr.extract lo mid).toList++(arr.extract mid hi).toList)++arr.toList.drop hi):=by
  have x1:(arr.extract lo mid).toList=(arr.toList.drop lo).take (mid-lo):=by rw[GW]
  have x2:(arr.extract mid hi).toList=(arr.toList.drop mid).take (hi-mid):=by rw[GW]
  rw[x1,x2,B9];have y2:(arr.toList.drop mid).take (hi-mid)++arr.toList.drop hi=arr.toList.drop mid:=by
   rw[show arr.toList.drop hi=(arr.toList.drop mid).drop (hi-mid) by rw[Re];congr 1;exact zv mh];exact FX ..
  rw[y2];have y1:(arr.toList.drop lo).take (mid-lo)++arr.toList.drop mid=arr.toList.drop lo:=by
   rw[show arr.toList.drop mid=(arr.toList.drop lo).drop (mid-lo) by rw[Re];congr 1;exact zv lm];exact FX ..
  rw[y1];exact(FX ..).symm
 refine HP.mpr ?_;rw[e,e2];have e3:(WS lo arr.toList++(((arr.extract lo mid).toList++(arr.extract mid hi).toList)++arr.toList.drop hi)).take lo=WS lo arr.toList:=by rw[<- e2]
 have e4:(WS lo arr.toList++(((arr.extract lo mid).toList++(arr.extract mid hi).toList)++arr.toList.drop hi)).drop hi=arr.toList.drop hi:=by rw[<- e2]
 first
  | exact E3 _ (L9 _ p)
  | (rw[e3,e4];exact E3 _ (L9 _ p))
theorem Fv(h:Al G arr)(i j:Nat):Al G (arr.extract i j):=λk x e=>by
 rw[Array.getElem?_extract] at e;split at e
 .exact h _ x e
 .cases e
theorem srt_extract(h:Up rk arr i j)(hj:j<=arr.size):Srt rk (arr.extract i j).toList:=by
 unfold Srt;rw[CM];intro p q hp hq pq;simp at hp hq;have:=h (i+p) (i+q) uS (by lia) (by lia);rw[Fo (zw hp),Fo (zw hq)] at this;simpa using this
theorem ACI{k:Nat}(h:k<(arr.extract i j).size):(arr.extract i j)[k]=arr[i+k]'(by simp at h;lia):=by simp
def Ch(rk:AE->Int)(arr:Array AE):List (Nat×Nat×Nat)->Nat->Nat->Prop
 | [],lo,hi=>lo=hi
 | (s,n,_)::rest,lo,hi=>s=lo/\1<=n/\Up rk arr lo (lo+n)/\Ch rk arr rest (lo+n) hi
theorem Ch.le:∀{l:List (Nat×Nat×Nat)}{lo hi:Nat},Ch rk arr l lo hi->lo+l.length<=hi
 | [],lo,hi,h=>by have h':lo=hi:=h;simp;exact vt h'
 | (s,n,_)::rest,lo,hi,⟨_,h1,_,h⟩=>by have:=Ch.le h;simp;lia
theorem Up.congr{lo hi:Nat}(h:Up rk arr lo hi)(e:∀i,lo<=i->i<hi->k8[i]?=arr[i]?):Up rk k8 lo hi:=λi j li ij jh=>by
 rw[Eo (e i li (vb ij jh)),Eo (e j (vD li ij) jh)];exact h i j li ij jh
theorem Ch.congr:∀{l:List (Nat×Nat×Nat)}{lo hi:Nat},Ch rk arr l lo hi->(∀i,lo<=i->i<hi->k8[i]?=arr[i]?)->Ch rk k8 l lo hi
 | [],lo,hi,h,_=>h
 | (s,n,_)::rest,lo,hi,⟨e1,h1,u,h⟩,e=>by
  have le:=Ch.le h;exact⟨e1,h1,u.congr λi li il=>e i li (by lia),Ch.congr h λi li il=>e i (u7 li) il⟩
theorem Ch.cut:∀{l m:List (Nat×Nat×Nat)}{lo hi:Nat},Ch rk arr (l++m) lo hi↔∃mid,Ch rk arr l lo mid/\Ch rk arr m mid hi
 | [],m,lo,hi=>⟨λh=>⟨lo,rfl,h⟩,λ⟨mid,e,h⟩=>by have e':lo=mid:=e;rw[e'];exact h⟩
 | (s,n,x)::l,m,lo,hi=>⟨λ⟨e1,h1,u,h⟩=>by
   obtain⟨mid,a,b⟩:=Ch.cut.mp h;exact⟨mid,⟨e1,h1,u,a⟩,b⟩,λ⟨mid,⟨e1,h1,u,a⟩,b⟩=>⟨e1,h1,u,Ch.cut.mpr ⟨mid,a,b⟩⟩⟩
variable{rk:AE->Int}{G:AE->Prop}
def Ga:Nat->StateT Bz Sem Bool:=sortPriv% PySem.Builtin.mergeAt
noncomputable abbrev Dy(st:Bz)(p:Array (Nat×Nat×Nat)):Bz:=JJ (kindOf st) (AU st) p (RU st) (GV st)
theorem Td(i:Nat):Ga i=(do
 let s <- get
 let (uA (sa,na,power),uA (sb,nb,_)):=((BF s)[i]?,(BF s)[i+1]?)| unsupported "internal:list.sort.pending"
 set (Dy s (((BF s).setIfInBounds i (sa,na+nb,power)).eraseIdxIfInBounds (i+1)))
 let uA k <- Cu false (<- DT (AU s) sb) (AU s) sa na 0| return false
 let (sa,na):=(sa+k,na-k)
 if na==0 then return true
 let uA nb <- Cu true (<- DT (AU s) (sa+na-1)) (AU s) sb nb (nb-1)| return false
 if nb==0 then return true
 let x:=(AU s).extract sa sb
 let y:=(AU s).extract sb (sb+nb)
 let merged <- if na<=nb then JC x y else Im x y
 modify λs=>VZ s (lay (AU s) sa merged)
 return (GV (<- get)).isNone):=rfl
theorem ADc{σ:Type}{M:ME}{x:σ}{Q:PUnit->σ->Prop}{st:σ}(h:Q ⟨⟩ x):wpS M A E s (set x:StateT σ Sem PUnit) Q st:=by
 unfold wpS;rw[StateT.run_set];exact AC ⟨rfl,h⟩
theorem Ri(C:Cmp prog w A E s κ G rk)(B:Ba G rk κ a₀ st){pa sb pb:Nat}(hp1:(BF st)[i]?=uA (sa,na,pa))(n4:(BF st)[i+1]?=uA (sb,nb,pb))(pO:sb=sa+na)(n1:1<=na)(n2:1<=nb)(hz:sb+nb<=a₀.size)(ua:Up rk (AU st) sa (sa+na))(ub:Up rk (AU st) sb (sb+nb)){Q:Bool->Bz->Prop}
  (h:∀bh,Ba G rk κ a₀ bh->BF bh=((BF st).setIfInBounds i (sa,na+nb,pa)).eraseIdxIfInBounds (i+1)->(∀q,q<sa\/sb+nb<=q->(AU bh)[q]?=(AU st)[q]?)->Up rk (AU bh) sa (sb+nb)->Q true bh):wpS (AM prog w) A E s (Ga i) Q st:=by
 have sz:=B.size;have al:=B.all.perm B.perm;rw[Td];refine AR (J6 ?_);rw[hp1,n4];dsimp only;refine AR (ADc ?_);have B1:Ba G rk κ a₀ (Dy st (((BF st).setIfInBounds i (sa,na+nb,pa)).eraseIdxIfInBounds (i+1))):=⟨B.perm,B.kind,B.failed,B.all,B.di⟩;have hb:sb<(AU st).size:=by lia
 refine AR (Bj hb ?_);refine AR (DQ C (al.at hb) al B1.kind (yb hb pO) (by lia) (FJ ua) λk kn kt kf=>?_);dsimp only;have t1:∀q,sa<=q->q<sa+k->N rk (AU st) q<=N rk (AU st) sb:=λq q1 q2=>by
  have z:=kt (q-sa) (wg q2 q1);rw[Ea (by lia)] at z;have e:sa+(q-sa)=q:=vp q1;simp only[e] at z;rw[Fo (show q<(AU st).size by lia),Fo hb];refine HV.mp λy=>?_;rw[uF y] at z;cases z
 have t2:∀q,sa+k<=q->q<sa+na->N rk (AU st) sb<N rk (AU st) q:=λq q1 q2=>by
  have z:=kf (q-sa) (wj q1) (yS q2 q1);rw[Ea (by lia)] at z;have e:sa+(q-sa)=q:=wk q1;simp only[e] at z;rw[Fo (show q<(AU st).size from yT q2 hb pO),Fo hb];cases c:decide (rk (AU st)[sb]<rk ((AU st)[q]'(yT q2 hb pO))) with
  | true=>exact uH c
  | false=>rw[c] at z;cases z
 by_cases c1:na-k=0
 .rw[uE (by rw[c1];rfl)]
  refine AX (h _ B1 rfl (λ_ _=>rfl) λp q sp pq qh=>?_);by_cases d:q<sa+na
  .exact ua p q sp pq d
  .by_cases d':p<sa+na
   .exact D3 (t1 p sp (by lia)) (ub sb q (AF _) (wY pO d) qh)
   .exact ub p q (wY pO d') pq qh
 rw[uD (by intro z;exact c1 (beq_iff_eq.mp z))];have hl:sa+k+(na-k)-1<(AU st).size:=by lia
 refine AR (Bj hl ?_);refine AR (DQ C (al.at hl) al B1.kind (by lia) (vX n2) (FJ ub) λm mn mt mf=>?_);dsimp only;have el:sa+k+(na-k)-1=sb-1:=by lia
 have u1:∀q,sb<=q->q<sb+m->N rk (AU st) q<N rk (AU st) (sb-1):=λq q1 q2=>by
  have z:=mt (q-sb) (wg q2 q1);rw[Ez (by lia)] at z;have e:sb+(q-sb)=q:=vp q1;simp only[e,el] at z;rw[Fo (show q<(AU st).size by lia),Fo (show sb-1<(AU st).size from vO hl el)];exact uH z
 have u2:∀q,sb+m<=q->q<sb+nb->N rk (AU st) (sb-1)<=N rk (AU st) q:=λq q1 q2=>by
  have z:=mf (q-sb) (wj q1) (yS q2 q1);rw[Ez (by lia)] at z;have e:sb+(q-sb)=q:=wk q1;simp only[e,el] at z;rw[Fo (show q<(AU st).size by lia),Fo (show sb-1<(AU st).size from vO hl el)];exact HV.mp (of_decide_eq_false z)
 by_cases c2:m=0
 .rw[uE (by rw[c2];rfl)]
  refine AX (h _ B1 rfl (λ_ _=>rfl) λp q sp pq qh=>?_);by_cases d:q<sa+na
  .exact ua p q sp pq d
  .by_cases d':p<sa+na
   .exact D3 (ua p (sb-1) sp (by lia) (by lia)) (u2 q (by lia) qh)
   .exact ub p q (wY pO d') pq qh
 rw[uD (by intro z;exact c2 (beq_iff_eq.mp z))];have exs:((AU st).extract (sa+k) sb).size=sb-(sa+k):=by simp;lia
 have eys:((AU st).extract sb (sb+m)).size=m:=by simp;lia
 have sx:Srt rk ((AU st).extract (sa+k) sb).toList:=srt_extract (λp q a b c=>ua p q (u7 a) b (uM c pO)) (vy hb);have sy:Srt rk ((AU st).extract sb (sb+m)).toList:=srt_extract (λp q a b c=>ub p q a b (wZ c mn)) (yU hz mn sz);have atx:∀j,∀hj:j<((AU st).extract (sa+k) sb).size,rk ((AU st).extract (sa+k) sb)[j]=N rk (AU st) (sa+k+j):=λj hj=>by
  rw[ACI hj,Fo (by lia)]
 have aty:∀j,∀hj:j<((AU st).extract sb (sb+m)).size,rk ((AU st).extract sb (sb+m))[j]=N rk (AU st) (sb+j):=λj hj=>by
  rw[ACI hj,Fo (by lia)]
 have first:∀j,∀hj:j<((AU st).extract (sa+k) sb).size,∀h0:0<((AU st).extract sb (sb+m)).size,rk (((AU st).extract sb (sb+m))[0]'h0)<=rk ((AU st).extract (sa+k) sb)[j]:=λj hj h0=>by
  rw[atx j hj,aty 0 h0,S8];exact FE (t2 _ uS (by lia))
 have pH:∀j,∀hj:j<((AU st).extract sb (sb+m)).size,rk ((AU st).extract sb (sb+m))[j]<=N rk (AU st) (sb-1):=λj hj=>by
  rw[aty j hj];exact FE (u1 _ uS (yV hj eys))
 have fin:∀(r:Array AE) (b6:Bz),Gx (Dy st (((BF st).setIfInBounds i (sa,na+nb,pa)).eraseIdxIfInBounds (i+1))) b6->Mg rk ((AU st).extract (sa+k) sb).toList ((AU st).extract sb (sb+m)).toList r.toList ->
   wpS (AM prog w) A E s (do modify λs=>VZ s (lay (AU s) (sa+k) r);let g <- get;pure (GV g).isNone) Q b6:=λr b6 g ⟨pm,sr⟩=>by
  have rs:r.size=sb+m-(sa+k):=by
   have:=pm.length_eq;simp at this;lia
  have ea:=g.arr;have hs:sa+k+r.size<=(AU st).size:=by lia
  refine AR (Ix ?_);refine AR (J6 ?_);have ef:=g.failed.trans B.failed;rw[ef];have lp:=ABo (arr:=AU st) (r:=r) (lo:=sa+k) (mid:=sb) (hi:=sb+m) (by lia) uS (yU hz mn sz) pm;have mem:∀j,∀hj:j<r.size,∃q,sa+k<=q/\q<sb+m/\rk r[j]=N rk (AU st) q:=λj hj=>by
   have:r[j]∈r.toList:=O1 hj;rcases B8.mp (pm.mem_iff.mp this) with z| z
   .obtain⟨q,hq,e⟩:=CL.mp z
    have fb:q<((AU st).extract (sa+k) sb).size:=by rw[<- A2];exact hq
    exact⟨sa+k+q,uS,by lia,by rw[<- e,<- atx q fb];simp⟩
   .obtain⟨q,hq,e⟩:=CL.mp z
    have fb:q<((AU st).extract sb (sb+m)).size:=by rw[<- A2];exact hq
    exact⟨sb+q,by lia,yV fb eys,by rw[<- e,<- aty q fb];simp⟩
  have laid:∀q,N rk (lay (AU st) (sa+k) r) q=if c:sa+k<=q/\q<sa+k+r.size then rk (r[q-(sa+k)]'(vQ c)) else N rk (AU st) q:=λq=>by
   have e:=QC (arr:=AU st) (r:=r) (sa:=sa+k) hs q;by_cases c:sa+k<=q/\q<sa+k+r.size
   .rw[dif_pos c]
    rw[uE c] at e;unfold N;rw[e,Be (vQ c)]
   .rw[dif_neg c]
    rw[uD c] at e;exact Eo e
  refine AX (h _ ⟨?_,g.kind.trans B.kind,ef,B.all,B.di⟩ g.pend (λq hq=>?_) ?_)
  .rw[ea]
   exact lp.trans B.perm
  .rw[ea,QC hs,uD (by lia)]
  .rw[ea]
   intro p q sp pq qh;rw[laid p,laid q];by_cases cp:sa+k<=p/\p<sa+k+r.size
   .rw[dif_pos cp]
    by_cases cq:sa+k<=q/\q<sa+k+r.size
    .rw[dif_pos cq]
     exact Es sr (by lia) (vQ cq)
    .rw[dif_neg cq]
     obtain⟨v,v1,v2,ev⟩:=mem (p-(sa+k)) (vQ cp);rw[ev];by_cases d:v<sb
     .exact D3 (ua v (sb-1) (u7 v1) (vE d) (by lia)) (u2 q (by lia) qh)
     .exact ub v q (uR d) (by lia) qh
   .rw[dif_neg cp]
    by_cases cq:sa+k<=q/\q<sa+k+r.size
    .rw[dif_pos cq]
     obtain⟨v,v1,v2,ev⟩:=mem (q-(sa+k)) (vQ cq);rw[ev];by_cases d:v<sb
     .exact ua p v sp (by lia) (uM d pO)
     .exact D3 (t1 p sp (by lia)) (ub sb v (AF _) (uR d) (wZ v2 mn))
    .rw[dif_neg cq]
     by_cases d:q<sa+k
     .exact ua p q sp pq (wZ d kn)
     .by_cases d2:p<sa+k
      .exact D3 (t1 p sp d2) (ub sb q (AF _) (yW rs cq d) qh)
      .exact ub p q (yW rs cp d2) pq qh
 by_cases c3:na-k<=m
 .rw[uE c3]
  refine AR (Rk C ⟨Fv al _ _,Fv al _ _,sx,sy,λy hy z hz=>?_⟩ B1.kind (by lia) (yX eys c2) (λj hj=>first j hj (by lia)) λr b6 g mg=>fin r b6 g mg);obtain⟨j,j1,hj,rfl⟩:=Dp hz;obtain⟨q,hq,e⟩:=CL.mp hy;have fb:q<((AU st).extract sb (sb+m)).size:=by rw[<- A2];exact hq
  have e':y=((AU st).extract sb (sb+m))[q]:=by rw[<- e];simp
  rw[e',atx j hj,show sa+k+j=sb-1 by lia];exact pH q fb
 .rw[uD c3]
  refine AR (Ue C ⟨Fv al _ _,Fv al _ _,sx,sy,λj hj h0=>first j hj h0⟩ B1.kind (by lia) (yX eys c2) (λj hj=>?_) λr b6 g mg=>fin r b6 g mg);rw[atx _ (by lia),show sa+k+(((AU st).extract (sa+k) sb).size-1)=sb-1 by lia];exact pH j hj
variable{rk:AE->Int}{G:AE->Prop}
def Pk:Nat->Nat->Nat->Nat:=sortPriv% PySem.Builtin.minRun
noncomputable def powerT:Nat->Nat->Nat->Nat->Nat:=sortPriv% PySem.Builtin.power
def Nz:StateT Bz Sem Unit:=sortPriv% PySem.Builtin.sortRuns
theorem Qw:Nz=(do
 let size:=(AU (<- get)).size
 let minrun:=Pk size size 0
 let mut lo:=0
 for _ in [0:size] do
  if lo >= size then break
  let uA found <- JM lo (size-lo)| return
  let mut n:=found
  if n<minrun then
   rule "list.sort.binary-insertion"
   let force:=min (size-lo) minrun
   if !(<- Km lo force n) then return
   n:=force
  if let uA (s1,n1,_):=(BF (<- get)).back? then
   let pw:=powerT size (2*s1+n1) (2*s1+n1+n1+n) size
   for _ in [0:size] do
    let p:=BF (<- get)
    let uA (_,_,older):=(if p.size>1 then p[p.size-2]? else uB)| break
    if older<=pw then break
    if !(<- Ga (p.size-2)) then return
   modify λs=>Dy s ((BF s).modify ((BF s).size-1) λ(st,len,_)=>(st,len,pw))
  modify λs=>Dy s ((BF s).push (lo,n,0))
  lo:=lo+n
 for _ in [0:size] do
  let p:=BF (<- get)
  if p.size<=1 then break
  let i:=p.size-2
  let before:=if i>0 then p[i-1]?.map (·.2.1) else uB
  let i:=if before.any (· < (p[i+1]?.elim 0 (·.2.1))) then i-1 else i
  if !(<- Ga i) then return):=rfl
structure Rn(G:AE->Prop)(rk:AE->Int)(κ:EJ)(a₀:Array AE)(lo:Nat)(st:Bz):Prop where
 ba:Ba G rk κ a₀ st
 ch:Ch rk (AU st) (BF st).toList 0 lo
theorem Lz{α:Type}:∀{l:List α}{i:Nat}{x y:α},l[i]?=uA x->l[i+1]?=uA y->l=l.take i++x::y::l.drop (i+2)
 | a::b::l,0,x,y,h1,h2=>by
  simp at h1 h2;subst h1 h2;rfl
 | a::l,i+1,x,y,h1,h2=>by
  have:=Lz (l:=l) (i:=i) (x:=x) (y:=y) (by simpa using h1) (by simpa using h2);rw[Nc,UP]
  congr 1
theorem Zi{p:Array (Nat×Nat×Nat)}{x y v:Nat×Nat×Nat}(h1:p[i]?=uA x)(h2:p[i+1]?=uA y):((p.setIfInBounds i v).eraseIdxIfInBounds (i+1)).toList=p.toList.take i++v::p.toList.drop (i+2):=by
 have hi:=(Cn.mp h2).1;have e:=Lz (l:=p.toList) (i:=i) (x:=x) (y:=y) (by rw[BV];exact h1) (by rw[BV];exact h2);have tl:(p.toList.take i).length=i:=by simp;lia
 have es:(p.setIfInBounds i v).toList=p.toList.take i++v::y::p.toList.drop (i+2):=by
  rw[Array.toList_setIfInBounds]
  conv=>lhs;rw[e]
  rw[List.set_append_right _ _ (vt tl),tl,J5];rfl
 have hz:i+1<(p.setIfInBounds i v).size:=by rw[IF];exact hi
 rw[Array.eraseIdxIfInBounds,dif_pos hz,Array.toList_eraseIdx,es,List.eraseIdx_append_of_length_le (by lia),tl]
 congr 1
 rw[show i+1-i=1 by lia];rfl
theorem Rb(C:Cmp prog w A E s κ G rk){lo:Nat}(R:Rn G rk κ a₀ lo st)(hl:lo<=a₀.size)(hi:i+1<(BF st).size){Q:Bool->Bz->Prop}
  (h:∀bh,Rn G rk κ a₀ lo bh->(BF bh).size+1=(BF st).size->(∀q,lo<=q->(AU bh)[q]?=(AU st)[q]?)->Q true bh):wpS (AM prog w) A E s (Ga i) Q st:=by
 obtain⟨sa,na,pa,e1⟩:∃sa na pa,(BF st)[i]?=uA (sa,na,pa):=⟨_,_,_,Be (u5 hi)⟩;obtain⟨sb,nb,pb,e2⟩:∃sb nb pb,(BF st)[i+1]?=uA (sb,nb,pb):=⟨_,_,_,Be hi⟩;have e:=Lz (l:=(BF st).toList) (i:=i) (by rw[BV];exact e1) (by rw[BV];exact e2);have ch:=R.ch;rw[e] at ch;obtain⟨mid,c1,rfl,n1,ua,rfl,n2,ub,c2⟩:=Ch.cut.mp ch;have le:=c2.le;have le1:=c1.le;have z2:sa+na+nb<=lo:=u7 le;refine Ri C R.ba e1 e2 rfl n1 n2 (vD z2 hl) ua ub λbh B' pe low up=>?_;have pl:=Zi (v:=(sa,na+nb,pa)) e1 e2;refine h bh ⟨B',?_⟩ ?_ λq hq=>low q (.inr (by lia))
 .rw[pe,pl]
  refine Ch.cut.mpr ⟨sa,c1.congr λq _ hq=>low q (.inl hq),rfl,vK n1,?_,?_⟩
  .rw[show sa+(na+nb)=sa+na+nb from wN]
   exact up
  .rw[show sa+(na+nb)=sa+na+nb from wN]
   exact c2.congr λq hq _=>low q (.inr hq)
 .have:=congrArg DI pl
  rw[<- pe] at this;simp at this;lia
theorem Ch.mod{f:Nat×Nat×Nat->Nat×Nat×Nat}(hf:∀x,(f x).1=x.1/\(f x).2.1=x.2.1):∀{l:List (Nat×Nat×Nat)}{lo hi:Nat} (i:Nat),Ch rk arr l lo hi->Ch rk arr (l.modify i f) lo hi
 | [],lo,hi,i,h=>by rw[List.modify_nil];exact h
 | (a,n,p)::l,lo,hi,0,⟨e1,h1,u,h⟩=>by
  rw[List.modify_zero_cons];have:=hf (a,n,p);generalize f (a,n,p)=y at this;obtain⟨y1,y2,y3⟩:=y;obtain⟨z1,z2⟩:=this;subst z1 z2;exact⟨e1,h1,u,h⟩
 | (a,n,p)::l,lo,hi,i+1,⟨e1,h1,u,h⟩=>by
  rw[List.modify_succ_cons];exact⟨e1,h1,u,Ch.mod hf i h⟩
theorem ADu{c:Prop}{i:Decidable c}{a b:Nat}(h1:a<=m)(h2:b<=m):(@ite Nat c i a b)<=m:=by
 split
 .exact h1
 .exact h2
theorem Ms(C:Cmp prog w A E s κ G rk)(B:Ba G rk κ a₀ st)(hp:BF st=#[]){Q:Unit->Bz->Prop}
  (h:∀bh,Ba G rk κ a₀ bh->Up rk (AU bh) 0 a₀.size->Q () bh):wpS (AM prog w) A E s Nz Q st:=by
 rw[Qw];refine AR (J6 ?_);dsimp only;rw[B.size];refine AR (EE (DM (I:=λx c bh=>∃lo,c=(uB,lo)/\x<=lo/\lo<=a₀.size/\Rn G rk κ a₀ lo bh) (Q:=λc bh=>c=(uB,a₀.size)/\Rn G rk κ a₀ a₀.size bh) ?_ ?_ ⟨0,rfl,AF _,A7 _,B,by rw[hp];rfl⟩) ?_)
 .rintro x c st1 _ xn ⟨lo,rfl,xl,ll,R⟩
  dsimp only;by_cases c1:lo >= a₀.size
  .rw[uE c1]
   have:lo=a₀.size:=wK ll c1;subst this;exact AX ⟨rfl,R⟩
  rw[uD c1];refine AR (Mv C R.ba (by lia) (by lia) λn b6 n1 nn nx up=>?_);dsimp only;have R2:Rn G rk κ a₀ lo b6:=⟨R.ba.nx nx,by rw[nx.pend];exact R.ch.congr λi _ hi=>nx.low i hi⟩;by_cases c2:n<Pk a₀.size a₀.size 0
  .rw[uE c2]
   refine AR (NF (F7 ⟨rfl,?_⟩));obtain⟨f,ef⟩:∃f,f=min (a₀.size-lo) (Pk a₀.size a₀.size 0):=⟨_,rfl⟩;rw[<- ef];refine AR (RB C R2.ba (n:=f) (xc ef c1) (by lia) up λe9 nx3 up3=>?_);have R3:Rn G rk κ a₀ lo e9:=⟨R2.ba.nx nx3,by rw[nx3.pend];exact R2.ch.congr λi _ hi=>nx3.low i hi⟩;rw[uD (by decide)];refine AR (J6 ?_);have put:∀{st4:Bz},Rn G rk κ a₀ lo st4->(∀q,lo<=q->(AU st4)[q]?=(AU e9)[q]?)->Rn G rk κ a₀ (lo+f) (Dy st4 ((BF st4).push (lo,f,0))):=λ{st4} R4 e4=>⟨⟨R4.ba.perm,R4.ba.kind,R4.ba.failed,R4.ba.all,R4.ba.di⟩,by
    rw[HR];exact Ch.cut.mpr ⟨lo,R4.ch,rfl,by lia,up3.congr λq hq _=>e4 q hq,rfl⟩⟩
   cases hb:(BF e9).back? with
   | none =>
    dsimp only;exact AR (Ix (AX ⟨lo+f,rfl,zn xl n1 nn c2 ef,xc ef c1,put R3 λ_ _=>rfl⟩))
   | some v =>
    obtain⟨s1,m1,q1⟩:=v;dsimp only;refine AR (EE (DM (I:=λ_ c st4=>c=(uB,())/\Rn G rk κ a₀ lo st4/\∀q,lo<=q->(AU st4)[q]?=(AU e9)[q]?) (Q:=λc st4=>c=(uB,())/\Rn G rk κ a₀ lo st4/\∀q,lo<=q->(AU st4)[q]?=(AU e9)[q]?) ?_ (λ_ _ h=>h) ⟨rfl,R3,λ_ _=>rfl⟩) ?_)
    .rintro y c st4 _ _ ⟨rfl,R4,e4⟩
     refine AR (J6 ?_);by_cases d1:(BF st4).size>1
     .rw[uE d1,Be (show(BF st4).size-2<(BF st4).size from zo d1)]
      dsimp only;split
      .exact AX ⟨rfl,R4,e4⟩
      .refine AR (Rb C R4 ll (zq d1) λqQ R5 _ e5=>?_)
       rw[uD (by decide)];exact AX ⟨rfl,R5,λq hq=>(e5 q hq).trans (e4 q hq)⟩
     .rw[uD d1]
      exact AX ⟨rfl,R4,e4⟩
    .rintro c st4 ⟨rfl,R4,e4⟩
     dsimp only;refine AR (Ix (AR (Ix (AX ⟨lo+f,rfl,zn xl n1 nn c2 ef,xc ef c1,?_⟩))));refine put (st4:=Dy st4 ((BF st4).modify ((BF st4).size-1) _)) ⟨⟨R4.ba.perm,R4.ba.kind,R4.ba.failed,R4.ba.all,R4.ba.di⟩,?_⟩ e4;show Ch rk (AU st4) ((BF st4).modify ((BF st4).size-1) _).toList 0 lo;rw[Sn];refine Ch.mod (f:=_) ?_ _ R4.ch;exact λ_=>⟨rfl,rfl⟩
  .rw[uD c2]
   refine AR (J6 ?_);have put:∀{st4:Bz},Rn G rk κ a₀ lo st4->(∀q,lo<=q->(AU st4)[q]?=(AU b6)[q]?)->Rn G rk κ a₀ (lo+n) (Dy st4 ((BF st4).push (lo,n,0))):=λ{st4} R4 e4=>⟨⟨R4.ba.perm,R4.ba.kind,R4.ba.failed,R4.ba.all,R4.ba.di⟩,by
    rw[HR];exact Ch.cut.mpr ⟨lo,R4.ch,rfl,n1,up.congr λq hq _=>e4 q hq,rfl⟩⟩
   cases hb:(BF b6).back? with
   | none =>
    dsimp only;exact AR (Ix (AX ⟨lo+n,rfl,zr xl n1,zt nn c1,put R2 λ_ _=>rfl⟩))
   | some v =>
    obtain⟨s1,m1,q1⟩:=v;dsimp only;refine AR (EE (DM (I:=λ_ c st4=>c=(uB,())/\Rn G rk κ a₀ lo st4/\∀q,lo<=q->(AU st4)[q]?=(AU b6)[q]?) (Q:=λc st4=>c=(uB,())/\Rn G rk κ a₀ lo st4/\∀q,lo<=q->(AU st4)[q]?=(AU b6)[q]?) ?_ (λ_ _ h=>h) ⟨rfl,R2,λ_ _=>rfl⟩) ?_)
    .rintro y c st4 _ _ ⟨rfl,R4,e4⟩
     refine AR (J6 ?_);by_cases d1:(BF st4).size>1
     .rw[uE d1,Be (show(BF st4).size-2<(BF st4).size from zo d1)]
      dsimp only;split
      .exact AX ⟨rfl,R4,e4⟩
      .refine AR (Rb C R4 ll (zq d1) λqQ R5 _ e5=>?_)
       rw[uD (by decide)];exact AX ⟨rfl,R5,λq hq=>(e5 q hq).trans (e4 q hq)⟩
     .rw[uD d1]
      exact AX ⟨rfl,R4,e4⟩
    .rintro c st4 ⟨rfl,R4,e4⟩
     dsimp only;refine AR (Ix (AR (Ix (AX ⟨lo+n,rfl,zr xl n1,zt nn c1,?_⟩))));refine put (st4:=Dy st4 ((BF st4).modify ((BF st4).size-1) _)) ⟨⟨R4.ba.perm,R4.ba.kind,R4.ba.failed,R4.ba.all,R4.ba.di⟩,?_⟩ e4;show Ch rk (AU st4) ((BF st4).modify ((BF st4).size-1) _).toList 0 lo;rw[Sn];refine Ch.mod (f:=_) ?_ _ R4.ch;exact λ_=>⟨rfl,rfl⟩
 .rintro c bh ⟨lo,rfl,xl,ll,R⟩
  have:lo=a₀.size:=by lia
  subst this;exact⟨rfl,R⟩
 .rintro c bh ⟨rfl,R⟩
  dsimp only;refine AR (EE (DM (I:=λx c b6=>c=(uB,())/\Rn G rk κ a₀ a₀.size b6/\((BF b6).size<=1\/(BF b6).size+x<=a₀.size)) (Q:=λc b6=>c=(uB,())/\Rn G rk κ a₀ a₀.size b6/\(BF b6).size<=1) ?_ ?_ ⟨rfl,R,.inr ?_⟩) ?_)
  .rintro x c b6 _ xn ⟨rfl,R2,sz⟩
   refine AR (J6 ?_);by_cases d1:(BF b6).size<=1
   .rw[uE d1]
    exact AX ⟨rfl,R2,d1⟩
   .rw[uD d1]
    refine AR (Rb C R2 (AF _) ?_ λe9 R3 z3 _=>?_)
    .exact EL (MC (ADu (m:=(BF b6).size-2) vi vC) 1) (by lia)
    .rw[uD (by decide)]
     exact AX ⟨rfl,R3,by lia⟩
  .rintro c b6 ⟨rfl,R2,sz⟩
   exact⟨rfl,R2,by lia⟩
  .have:=R.ch.le
   simp at this;exact yQ this
  .rintro c b6 ⟨rfl,R2,sz⟩
   refine AX (h b6 R2.ba ?_);have ch:=R2.ch;cases e:(BF b6).toList with
   | nil =>
    rw[e] at ch;have z:0=a₀.size:=ch;intro i j _ _ hj;lia
   | cons v l =>
    rw[e] at ch;obtain⟨v1,v2,v3⟩:=v;have ln:l=[]:=by
     have:=congrArg DI e;simp at this;exact G4.mp (by lia)
    subst ln;obtain⟨_,_,u,z⟩:=ch;have z':=z;rw[<- z'];exact u
end TM
namespace SB
open PySem PySem.W PyProof.Rows
theorem RG:∀{x y:uJ},HT.lexLt x y=true->HT.lexLt y x=false
 | [],[],h=>by cases h
 | [],_::_,_=>rfl
 | _::_,[],h=>by cases h
 | a::x,b::y,h=>by
  rw[HT.Cd] at h ⊢;by_cases c:a=b
  .rw[uE c] at h
   rw[uE c.symm];exact RG h
  .rw[uD c] at h
   rw[uD (CF c)];have:=uH h;exact uG (xR this)
theorem WL:∀{x y:uJ},x≠y->HT.lexLt x y=false->HT.lexLt y x=true
 | [],[],n,_=>uI rfl n
 | [],_::_,_,h=>by cases h
 | _::_,[],_,_=>rfl
 | a::x,b::y,n,h=>by
  rw[HT.Cd] at h ⊢;by_cases c:a=b
  .rw[uE c] at h
   rw[uE c.symm];exact WL (λe=>n (by rw[c,e])) h
  .rw[uD c] at h
   rw[uD (CF c)];have:=of_decide_eq_false h;exact uF (by lia)
theorem Wj:∀{x y z:uJ},HT.lexLt x y=true->HT.lexLt y z=true->HT.lexLt x z=true
 | [],[],_,h,_=>by cases h
 | [],_::_,[],_,h=>by cases h
 | [],_::_,_::_,_,_=>rfl
 | _::_,[],_,h,_=>by cases h
 | _::_,_::_,[],_,h=>by cases h
 | a::x,b::y,c::z,h,k=>by
  rw[HT.Cd] at h k ⊢;by_cases ab:a=b
  .rw[uE ab] at h
   by_cases bc:b=c
   .rw[uE bc] at k
    rw[uE (ab.trans bc)];exact Wj h k
   .rw[uD bc] at k
    rw[uD (λe=>bc (by lia))];have:=uH k;exact uF (by lia)
  .rw[uD ab] at h
   have h':=uH h;by_cases bc:b=c
   .rw[uE bc] at k
    rw[uD (by lia)];exact uF (by lia)
   .rw[uD bc] at k
    have k':=uH k;rw[uD (by lia)];exact uF (by lia)
theorem ACY{b fin:Bool}{Q:uN}{x y:uJ}(hx:ItemsAre (Lm prog w) x vs):∀{y:uJ}{us:List As} (i:Nat),ItemsAre (Lm prog w) y us->fin=decide (x.length<y.length)->Q (HT.lexLt x y) s->KatLex prog w A b fin Q (vs.zip us) i s:=by
 induction hx with
 | nil =>
  intro y us i hy hf q;cases hy with
  | nil=>rw[hf];exact q
  | cons h1 t=>rw[hf];exact q
 | @cons k v ks vs' hk ht ih =>
  intro y us i hy hf q;cases hy with
  | nil=>rw[hf];exact q
  | @cons k' v' cK us' bu qB =>
   rw[HT.Cd] at q;refine kat_cons ((Lm prog w).eqBool hk bu ?_);by_cases c:k=k'
   .rw[uE c] at q
    rw[uF c];refine kat_yes (ih (i+1) qB ?_ q);rw[hf];simp
   .rw[uD c] at q
    rw[uG c];refine kat_no ?_;obtain⟨t1,rfl⟩:=G0 hk;obtain⟨t2,rfl⟩:=G0 bu;cases (b&&i==0) with
    | true =>
     rw[<- WF];exact kat_lt_int q
    | false=>exact kat_one _ _ (lt_int q)
theorem AFl{b:Bool}{x y:uJ}{c:Addr}{Q:uN}(hx:IK prog w s.heap x a)(hy:IK prog w s.heap y c)(q:Q (HT.lexLt x y) s):wpAny (AM prog w) A (V0 (tuples' b) (.ref a) (.ref c)) Q E s:=by
 obtain⟨ox,xs,n,gx,cx,dx,ix⟩:=hx;obtain⟨oy,ys,k,gy,cy,dy,iy⟩:=hy;refine kat_lt gx dx gy dy (ACY (x:=x) (y:=y) (us:=ys.toList) ix 0 iy ?_ q);have l1:=ix.length;have l2:=iy.length;rw[l1,l2,A2,A2]
structure Row(prog:AJ)(w:AQ)(h:Heap)(vs:List As)(ks:List (uJ×Addr)):Prop where
 vals:vs=ks.map λx=>AV x.2
 keys:∀x∈ks,IK prog w h x.1 x.2
 full:∀x∈ks,x.1≠[]
 nd:(ks.map (·.1)).Nodup
noncomputable def ltK(ks:List (uJ×Addr))(i j:Nat):Bool:=HT.lexLt (ks.getD i ([],0)).1 (ks.getD j ([],0)).1
section
theorem Row.tups(R:Row prog w h vs ks):∃fs,KatTups h vs fs/\fs.length=vs.length/\∀v∈fs,∃n t,v=NM n t:=by
 obtain⟨e,hk,hf,hn⟩:=R;clear hn;subst e
 induction ks with
 | nil=>exact⟨[],trivial,rfl,λv hv=>by cases hv⟩
 | cons x r ih =>
  obtain⟨fs,t,l,q⟩:=ih (λy hy=>hk y (AL _ hy)) (λy hy=>hf y (AL _ hy));obtain⟨o,xs,n,gx,cx,dx,ix⟩:=hk x AI;have hx:=hf x AI;obtain⟨xk,xa⟩:=x;cases hxs:xs.toList with
  | nil =>
   rw[hxs] at ix;cases ix;exact uI rfl hx
  | cons f rest =>
   have hf0:xs[0]?=uA f:=by rw[<- BV,hxs];rfl
   have hi:=RK ix f (by rw[hxs];exact AI);refine⟨f::fs,KatTups.cons gx cx dx hf0 t,by simp[l],λv hv=>?_⟩;rcases AS.mp hv with rfl| hv
   .exact hi
   .exact q v hv
theorem perm_back{f:α->β}{l m:List β}(p:l.Perm m):∀ks:List α,m=ks.map f->∃cK:List α,cK.Perm ks/\l=cK.map f:=by
 induction p with
 | nil =>
  intro ks e;cases ks with
  | nil=>exact⟨[],.refl _,rfl⟩
  | cons _ _=>cases e
 | @cons x l1 l2 _ ih =>
  intro ks e;cases ks with
  | nil=>cases e
  | cons k r =>
   rw[BU] at e;obtain⟨e1,e2⟩:=Sb e;obtain⟨r',p',e'⟩:=ih r e2;exact⟨k::r',p'.cons k,by rw[BU,e1,e']⟩
 | swap x y l1 =>
  intro ks e
  match ks,e with
  | [],e=>cases e
  | [_],e=>simp at e
  | a::b::r,e =>
   rw[BU,BU] at e;obtain⟨e1,e2⟩:=Sb e;obtain⟨e3,e4⟩:=Sb e2;exact⟨b::a::r,Q7 ..,by rw[BU,BU,e1,e3,e4]⟩
 | trans _ _ ih1 ih2 =>
  intro ks e;obtain⟨k2,p2,e2⟩:=ih2 ks e;obtain⟨k1,p1,e1⟩:=ih1 k2 e2;exact⟨k1,p1.trans p2,e1⟩
theorem PB{ks:uJ}(h:ItemsAre (Lm prog w) ks us):ks=us.map numOf:=by
 induction h with
 | nil=>rfl
 | cons h1 _ ih =>
  obtain⟨t,e⟩:=G0 h1;rw[BU,<- ih,e];rfl
theorem AGx{k k':uJ}(x:IK prog w h k a)(y:IK prog w h k' a):k=k':=by
 obtain⟨o,items,n,ho,_,hd,hi⟩:=x;obtain⟨o',items',n',dS,_,eW,ci⟩:=y;rw[ho] at dS;cases dS;rw[hd] at eW;cases eW;rw[PB hi,PB ci]
set_option tactic.hygienic true in
theorem Jm{α:Type}{p q:α->Bool}:∀{l:List α}{x:α},(∀y∈l,p y=true->q y=true)->x∈l->p x=false->q x=true->(l.filter p).length<(l.filter q).length
 | [],x,_,h,_,_=>by cases h
 | a::l,x,hs,hx,px,qx=>by
  have le:∀{m:List α},(∀y∈m,p y=true->q y=true)->(m.filter p).length<=(m.filter q).length:=λ{m}=>by
   induction m with
   | nil=>exact λ_=>AF _
   | cons b m ih =>
    intro hm;have:=ih λy hy=>hm y (AL _ hy);rw[FM,FM];have hb:=hm b (AI ..);split
    .rename_i pb
     rw[uE (hb pb)];simp;exact this
    .split
     .simp;exact vK this
     .exact this
  have hl:=le λy hy=>hs y (AL _ hy);rw[FM,FM];rcases AS.mp hx with rfl| hx
  .rw[uD (by rw[px];decide),uE qx]
   simp;exact wH hl
  .have ih:=Jm (λy hy=>hs y (AL _ hy)) hx px qx
   have ha:=hs a (AI ..);split
   .rename_i pa
    rw[uE (ha pa)];simp;exact ih
   .split
    .simp;exact vg ih
    .exact ih
noncomputable def cntK(ks:List (uJ×Addr))(k:uJ):Int:=((ks.filter λy=>HT.lexLt y.1 k).length:Int)
open Classical in
noncomputable def rkK(ks:List (uJ×Addr))(x:AE):Int:=if h:∃i,i<ks.length/\x.1=AV (ks.getD i ([],0)).2 then cntK ks (ks.getD (EQ h) ([],0)).1 else 0
noncomputable def itK(ks:List (uJ×Addr))(i:Nat):AE:=(AV (ks.getD i ([],0)).2,AV (ks.getD i ([],0)).2)
theorem Rr{a b:uJ}(ha:a∈ks.map (·.1))(h:HT.lexLt a b=true):cntK ks a<cntK ks b:=by
 obtain⟨x,hx,rfl⟩:=BD.mp ha;unfold cntK;have:=Jm (p:=λy:uJ×Addr=>HT.lexLt y.1 x.1) (q:=λy=>HT.lexLt y.1 b) (l:=ks) (x:=x) (λy _ e=>Wj e h) hx (by
  cases c:HT.lexLt x.1 x.1 with
  | false=>rfl
  | true=>have:=RG c;rw[c] at this;cases this) h
 exact vn this
end
theorem Qu{p:Array Nat}(P:PP n p):p.toList.Perm (AK n):=by
 refine SB.Gu ?_ (λx hx=>?_) (by rw[A9,A2,P.size];exact AF _)
 .refine CM.mpr λi j hi hj kB e=>?_
  have ci:i<n:=by rw[<- P.size];simpa using hi
  have dq:j<n:=by rw[<- P.size];simpa using hj
  have ls:i<p.size:=by simpa using hi
  have hj2:j<p.size:=by simpa using hj
  have:=P.inj i j ci dq (by simpa [g,EA,ls,hj2] using e);exact vk kB this
 .obtain⟨i,hi,rfl⟩:=CL.mp hx
  have ls:i<p.size:=by simpa using hi
  have:=P.lt i (by rw[<- P.size];exact ls);refine AN.mpr ?_;simpa [g,EA,ls] using this
section
variable{es:Array (Int×As)}{t:CU}
theorem SJ{Q:List As->AA->Prop}(hh:A.handled=uB)(ho:s.heap.get? S=uA o)(e8:o.ExactSet)(hd:o.data=.set es ep t)(T:Tab t)(hl:es.size=t.place.size)(hp:t.plain=true)(dC:t.led=ledOf w)(mI:es.size<=301)
  (q:∀(h':Heap) (tk:Nat) (bX:Array As),(∀b ob,s.heap.get? b=uA ob->h'.get? b=uA ob)->s.heap.objs.size<=h'.objs.size->bX.toList.map (λv=>v)=(ord w S ep es).toList.map (·.2)->Q bX.toList {s with heap:=h',toks:=tk}) :
  wpAny (AM prog w) A (QP (.ref S)) Q E s:=by
 unfold QP;refine Ap (Lv (EK NX ?_));rw[Fn NY _];refine Ap (C8 ?_);refine AC ⟨Mc IN _,EK O7 ?_⟩;rw[Fn IN _];have gD:(s.heap.push {cls:=.type "list",data:=.seq ([]:List As).toArray}).get? s.heap.objs.size=uA {cls:=.type "list",data:=.seq #[] 0}:=AT _ rfl;have l7:∀(h':Heap) (tk:Nat) (bi:Array As) (c':Nat),(∀b ob,b≠s.heap.objs.size->(s.heap.push {cls:=.type "list",data:=.seq ([]:List As).toArray}).get? b=uA ob->h'.get? b=uA ob)->h'.get? s.heap.objs.size=uA {cls:=.type "list",dict:=uB,data:=.seq bi c',slots:=#[]} ->
   ItemsOf (λi v=>∃e,(ord w S ep es)[i]?=uA e/\v=e.2) bi es.size->wpAny (AM prog w) A (match AV s.heap.objs.size with
   | AV a=>do
    match (<- load a).data with
     | Data.seq xs _=>pure xs.toList
     | _=>unsupported "internal:collect"
   | _=>unsupported "internal:collect") Q E {s with heap:=h',toks:=tk}:=λh' tk bi c' hk fi bj=>by
  refine Ap (RA fi ?_);refine AC ?_;refine q h' tk bi (λb ob e=>hk b ob (BH (AW e)) (AH _ e)) (C3 (AW fi)) ?_;rw[Zl];apply FC;intro i;rw[AY,BV,BV];by_cases c:i<es.size
  .have c1:i<bi.size:=by rw[bj.1];exact c
   obtain⟨e,ge,ev⟩:=bj.2 i _ (Be c1);rw[Be c1,ge,ev];rfl
  .rw[Hk (by rw[bj.1];exact uR c),Hk (by rw[Kf];exact uR c)]
   rfl
 refine C5 (WW (A:=A) (R:=λr s'=>∃h' tk bi c',r=.ok (.ret (.ref s.heap.objs.size))/\s'={s with heap:=h',toks:=tk}/\(∀b ob,b≠s.heap.objs.size->(s.heap.push {cls:=.type "list",data:=.seq ([]:List As).toArray}).get? b=uA ob->h'.get? b=uA ob)/\h'.get? s.heap.objs.size=uA {cls:=.type "list",dict:=uB,data:=.seq bi c',slots:=#[]}/\ItemsOf (λi v=>∃e,(ord w S ep es)[i]?=uA e/\v=e.2) bi es.size)
  (s:={s with heap:=s.heap.push {cls:=.type "list",data:=.seq ([]:List As).toArray}}) hh (AH _ ho) e8 hd T hl hp dC mI s.heap.objs.size (.ref s.heap.objs.size) 0 gD λh' tk bi c' hk fi bj=>⟨h',tk,bi,c',rfl,rfl,hk,fi,bj⟩) (λfin s' h=>?_) (λe s' h=>?_)
 .cases fin with
  | done f =>
   obtain⟨h',tk,bi,c',e,rfl,hk,fi,bj⟩:=h;cases e;exact l7 h' tk bi c' hk fi bj
  | again c'=>exact⟨h.1,E8 h.2 λr pK hr=>by obtain⟨h',tk,bi,c',rfl,rfl,hk,fi,bj⟩:=hr;exact l7 h' tk bi c' hk fi bj⟩
 .obtain⟨_,_,_,_,e,_⟩:=h
  cases e
end
end SB
namespace SB
open PySem PySem.SetTable
section
set_option tactic.hygienic true in
theorem Ys{G:Array Rs->Array Rs->Prop}{P:Nat->As->Prop}{St:Nat->AA->Prop}
  (W:WalksS prog w A.in1 I fp wr G n P St) (S:Addr) (hSf:S∉fp) (vals:Nat->uJ×Addr) (hP:∀i v,P i v->v=.ref (vals i).2) (hn:∀ks:List (uJ×Addr),(∀x∈ks,∃j,j<n/\x=vals j)->(ks.map (·.1)).Nodup->ks.length<=300) (tI:∀i,i<n->(vals i).2∉S::wr) (hu:A.in1.units<C0)
  (hR:∀s' cE t' cK,TS prog w s'.heap S cE t' cK->Of vals n cK->Moved (S::wr) G s s'->R (.ok (.ret .none)) s') :
  ∀(k i:Nat) (s₁:AA) (es:Array (Int×As)) (t:CU) (ks:List (uJ×Addr)),n-i=k->i<=n->St i s₁->TS prog w s₁.heap S es t ks->(∀j,j<n->IK prog w s₁.heap (vals j).1 (vals j).2)->Of vals i ks->Moved (S::wr) G s s₁ ->
   codeAny (AM prog w) A (.builtin "set.update.loop" ⟨[.ref S,.ref I],[]⟩) R s₁:=by
 have nSw:S∉wr:=λh=>hSf (W.sub _ h);have inS:∀b∈wr,b∈S::wr:=λb hb=>AL _ hb;intro k
 induction k with
 | zero =>
  intro i s₁ es t ks hk hi cr X hK O mv;obtain rfl:i=n:=by lia
  refine EK Ll ?_;rw[Fn HC _];show wpAny _ A.in1 (IU (.ref I) >>= _) _ _ s₁;refine Ap (W.done s₁ _ _ cr λs₂ m2=>?_);show wpAny _ A.in1 (ret CY) _ _ s₂;exact AC (hR s₂ es t ks (YZ X λo e=>m2.heap S o nSw e) O (Z0 W.gtrans mv (m2.mono inS)))
 | succ k ih =>
  intro i s₁ es t ks hk hi cr X hK O mv;have lt:i<n:=by lia
  refine EK Ll ?_;rw[Fn HC _];show wpAny _ A.in1 (IU (.ref I) >>= _) _ _ s₁;refine Ap (W.item i s₁ _ _ lt cr λv s₂ pv b6 m2=>?_);obtain rfl:=hP i v pv;have X2:TS prog w s₂.heap S es t ks:=YZ X λo e=>m2.heap S o nSw e;have hK2:∀j,j<n->IK prog w s₂.heap (vals j).1 (vals j).2:=λj hj=>Hh (hK j hj) λo e=>m2.heap _ o (λz=>tI j hj (inS _ z)) e;show wpAny _ A.in1 (Nd [AV (vals i).2] (setAdd S (.ref (vals i).2)) >>= _) _ _ s₂;refine Ap (D8 (AFk X2 (λx hx=>?_) (hK2 i lt) hu (hn ks (λx hx=>let ⟨j,hj,e⟩:=O.sub x hx;⟨j,uV hj lt,e⟩) X2.nd) λb h' cE t' cK sb X' ad=>?_))
  .obtain⟨j,hj,rfl⟩:=O.sub x hx
   exact hK2 j (uV hj lt)
  .refine AC ⟨Mc HC _,ih (i+1) _ cE t' cK (by lia) lt (W.frame _ s₂ _ _ b6 (Ha _ _) λb hb o e=>?_) X' (λj hj=>Hh (hK2 j hj) λo e=>?_) (O.next ad) ?_⟩
   .rw[sb.2 b (λ(z:b=S)=>hSf (by rw[<- z];exact hb))]
    exact e
   .rw[sb.2 _ (λ(z:(vals j).2=S)=>tI j hj (by rw[z];exact AI))]
    exact e
   .refine Z0 W.gtrans mv ((m2.mono inS).then_heap (Ha _ _) λb o hb e=>?_)
    rw[sb.2 b (λ(z:b=S)=>hb (by rw[z];exact AI))];exact e
end
end SB
namespace L2
open PySem PySem.Spec PyProof.Rows
theorem ik_ofB(I:Inv X aS σ H s)(h:SqT X.K H b (ns.map V.int)):SB.IK X.prog X.w s.heap ns b:=by
 obtain⟨bg,r,⟨o,ho,hc,n,hd⟩,_⟩:=I.tuple h;exact⟨o,bg.toArray,n,ho,hc,hd,by simpa using Uq r⟩
end L2
namespace SB
open PySem PySem.W PyProof.Rows
structure RowE(prog:AJ)(w:AQ)(h:Heap)(vs:List As)(ks:List (uJ×Addr)):Prop where
 vals:vs=ks.map λx=>AV x.2
 keys:∀x∈ks,IK prog w h x.1 x.2
 nd:(ks.map (·.1)).Nodup
theorem RowE.tot(R:RowE prog w h vs ks):Tot ks.length (ltK ks):=by
 have ne:∀i j,i<ks.length->j<ks.length->i≠j->(ks.getD i ([],0)).1≠(ks.getD j ([],0)).1:=λi j hi hj kB e=>by
  have r:=CM.mp R.nd;have g1:(ks.getD i ([],0)).1=(ks.map (·.1))[i]'(by simpa using hi):=by simp[AD,hi]
  have g2:(ks.getD j ([],0)).1=(ks.map (·.1))[j]'(by simpa using hj):=by simp[AD,hj]
  rw[g1,g2] at e;rcases Nat.lt_or_gt_of_ne kB with c| c
  .exact r i j _ _ c e
  .exact r j i _ _ c e.symm
 exact⟨λi j hi hj kB e=>WL (ne i j hi hj kB) e,λi j _ _ e=>RG e,λi j k _ _ _ e1 e2=>Wj e1 e2⟩
theorem ACf(h:ItemsAre (Lm prog w) ns vs):FS vs ns:=by
 induction h with
 | nil=>exact .nil
 | cons h1 _ ih =>
  obtain⟨t,rfl⟩:=G0 h1;exact .cons _ t ih
theorem Qd{x:uJ}(hx:IK prog w s.heap x a):∃items:Array As,Tl s.heap a items/\FS items.toList x:=by
 obtain⟨o,xs,n,g,c,d,i⟩:=hx;exact⟨xs,⟨o,g,c,n,d⟩,ACf i⟩
theorem Lk(x y:As):V0 UT x y=oneLt' false x y:=rfl
theorem AFs{x y:uJ}{c:Addr}{Q:uN}(hu:A.units<C0)(hx:IK prog w s.heap x a)(hy:IK prog w s.heap y c)(q:Q (HT.lexLt x y) s):wpAny (AM prog w) A (V0 UT (.ref a) (.ref c)) Q E s:=by
 obtain⟨i1,t1,j1⟩:=Qd hx;obtain⟨i2,t2,j2⟩:=Qd hy;rw[Lk];exact kat_one _ _ (HT.Ut t1 t2 j1 j2 hu q)
theorem AGB{x y:uJ}{c:Addr}{Q:uN}(hu:A.units<C0)(hx:IK prog w s.heap x a)(hy:IK prog w s.heap y c)(q:Q (HT.lexLt x y) s):wpAny (AM prog w) A (V0 oneType' (.ref a) (.ref c)) Q E s:=by
 obtain⟨i1,t1,j1⟩:=Qd hx;obtain⟨i2,t2,j2⟩:=Qd hy;obtain⟨⟨cls,dd,data,sl⟩,ho,hc,n,hd⟩:=id t1;obtain⟨⟨nv,kA,X0,kD⟩,fF,gL,n2,gE⟩:=id t2;simp only at hc hd gL gE;subst hc hd gL gE;rw[WF,oneLt'_eq];refine Ap (wpAny_cRoomFor hu ?_);refine Ap (wpAny_callSpecialIfBound?_slot (T:="tuple") ⟨_,ho,rfl⟩ Mo ?_);exact MV Mo ⟨_,ho,rfl⟩ PV (O5 _ _) (HT.Hq a c i1 i2 n n2 dd kA sl kD x y j1 j2) ⟨ho,fF,G1 q⟩
theorem Pg:∀(ks:List (uJ×Addr)) {Q:List (Option As)->AA->Prop},(∀x∈ks,IK prog w s.heap x.1 x.2)->(∀fs:List (Option As),fs.map (·.isSome)=ks.map (λx=>!x.1.isEmpty)->Q fs s)->wpAny (AM prog w) A ((ks.map λx=>AV x.2).mapM firstOfTuple') Q E s
 | [],_,_,h=>by rw[MS,List.mapM_nil];exact AC (h [] rfl)
 | x::ks,Q,hk,h=>by
  obtain⟨o,xs,n,ho,hc,hd,hi⟩:=hk x AI;rw[BU,List.mapM_cons];refine Ap ?_;rw[kas_first_eq];refine Ap (Z7 ((Y3 ho).andThen .now) ?_);rw[hc,uD (by first| decide| simp)];refine Ap (OX ho hd (AC ?_));refine Ap (Pg ks (Q:=λbs s'=>wpAny (AM prog w) A (pure (xs[0]?::bs)) Q E s') (λy hy=>hk y (AL _ hy)) λfs rf=>AC (h _ ?_));rw[BU,BU,rf]
  congr 1
  have l:=hi.length;rw[A2] at l;by_cases e:x.1=[]
  .rw[e] at l ⊢
   rw[Hk (by simp at l;exact u6 l)];rfl
  .have:0<xs.size:=by
    have:=List.length_pos_iff.mpr e;exact uM this l
   rw[Be this];cases hx:x.1 with
   | nil=>exact uI hx e
   | cons a b=>rfl
theorem ADa{Q:EJ->AA->Prop}(hk:∀x∈ks,IK prog w s.heap x.1 x.2)(he:∃x∈ks,x.1=[])(q1:Q UT s)(q2:Q oneType' s):wpAny (AM prog w) A (keyKind' (ks.map λx=>AV x.2).toArray) Q E s:=by
 rw[kat_kind_eq,TZ,map_eq_pure_bind];refine Ap (Ap (Pg ks hk λfs rf=>AC ?_));have cw:¬ ((fs.toArray.all λx=>x.isSome)=true):=λh=>by
  obtain⟨x,hx,ex⟩:=he;obtain⟨i,hi,gx⟩:=List.getElem_of_mem hx;have l:fs.length=ks.length:=by simpa using congrArg DI rf
  have z:(fs.map (·.isSome))[i]?=(ks.map (λx=>!x.1.isEmpty))[i]?:=by rw[rf]
  have ls:i<fs.length:=dl hi l;rw[AY,AY,AG hi,AG ls,gx] at z;have z':fs[i].isSome=false:=by simpa [ex] using z
  have:=Fa.mp (by simpa using h) fs[i] (ER ls);rw[z'] at this;exact uI this (by decide)
 rw[uD cw];refine wpAny_ite ?_;split
 .exact AC q1
 .rw[oneTypeOnly'_eq,TZ,map_eq_pure_bind]
  refine Ap (Ap (Ap (kas_mapM (r:=C4 "tuple") _ (λv hv Q' hq=>?_) (AC ?_))))
  .obtain⟨x,hx,rfl⟩:=BD.mp hv
   obtain⟨o,xs,n,ho,hc,hd,hi⟩:=hk x hx;refine Z7 ((Y3 ho).andThen .now) ?_;rw[hc];exact hq
  .have tW:∀T:As,(T==T)=true->((O2 (λ_=>T) (ks.map λx=>AV x.2)).toArray.all λx=>x==T)=true:=λT hT=>by
    simp only[List.all_toArray,Zp,Fa];intro _ _;exact hT
   have h0:(O2 (λ_=>C4 "tuple") (ks.map λx=>AV x.2)).toArray[0]?=uA (C4 "tuple"):=by
    obtain⟨x,hx,_⟩:=he;cases ks with
    | nil=>cases hx
    | cons a b=>simp
   rw[h0];simp only[tW (C4 "tuple") (by decide),if_true];exact AC (AC q2)
def KOk(prog:AJ)(w:AQ)(κ:EJ):Prop:=∀(A:BB) (E:As->AA->Prop) (s:AA) (x y:uJ) (a c:Addr) (Q:uN),A.units<C0->IK prog w s.heap x a->IK prog w s.heap y c->Q (HT.lexLt x y) s ->
 wpAny (AM prog w) A (V0 κ (.ref a) (.ref c)) Q E s
theorem kind_any{Q:EJ->AA->Prop}(R:RowE prog w s.heap vs ks)(h2:2<=ks.length)(q:∀κ,KOk prog w κ->Q κ s):wpAny (AM prog w) A (keyKind' vs.toArray) Q E s:=by
 by_cases c:∃x∈ks,x.1=[]
 .rw[R.vals]
  exact ADa R.keys c (q _ λA E s x y a c Q hu hx hy h=>AFs hu hx hy h) (q _ λA E s x y a c Q hu hx hy h=>AGB hu hx hy h)
 .have R':Row prog w s.heap vs ks:=⟨R.vals,R.keys,λx hx e=>c ⟨x,hx,e⟩,R.nd⟩
  obtain⟨fs,kt,lf,rf⟩:=R'.tups;have lk:ks.length=vs.length:=by rw[R.vals,AB]
  exact kat_kind (T:=.type "int") kt (by lia) (λv hv=>by obtain⟨n,t,rfl⟩:=rf v hv;exact Looks.of_pure rfl) (by decide) (q _ λA E s x y a c Q hu hx hy h=>AFl hx hy h)
theorem AAS(R:RowE prog w h vs ks)(e:∀x∈ks,∀o,h.get? x.2=uA o->h'.get? x.2=uA o):RowE prog w h' vs ks:=⟨R.vals,λx hx=>Hh (R.keys x hx) λo=>e x hx o,R.nd⟩
theorem RowE.key(R:RowE prog w h vs ks)(hi:i<ks.length):IK prog w h (ks.getD i ([],0)).1 (ks.getD i ([],0)).2:=by
 have e:ks.getD i ([],0)=ks[i]:=by simp[AD,hi]
 rw[e];exact R.keys _ (ER hi)
theorem RowE.rk(R:RowE prog w h vs ks)(hi:i<ks.length):rkK ks (itK ks i)=cntK ks (ks.getD i ([],0)).1:=by
 have ex:∃j,j<ks.length/\(itK ks i).1=AV (ks.getD j ([],0)).2:=⟨i,hi,rfl⟩;unfold rkK;rw[dif_pos ex];obtain⟨hj,ej⟩:=D6 ex;have ea:(ks.getD i ([],0)).2=(ks.getD (EQ ex) ([],0)).2:=by
  have:AV (ks.getD i ([],0)).2=AV (ks.getD (EQ ex) ([],0)).2:=ej;injection this
 have k1:=R.key hi;have k2:=R.key hj;rw[<- ea] at k2;rw[AGx k1 k2]
theorem RowE.rk_lt(R:RowE prog w h vs ks)(hi:i<ks.length)(hj:j<ks.length):decide (rkK ks (itK ks i)<rkK ks (itK ks j))=ltK ks i j:=by
 rw[R.rk hi,R.rk hj];have mk:∀{i:Nat},i<ks.length->(ks.getD i ([],0)).1∈ks.map (·.1):=λ{i} hi=>G7 (by
  have e:ks.getD i ([],0)=ks[i]:=by simp[AD,hi]
  rw[e];exact ER hi)
 unfold ltK;cases c:HT.lexLt (ks.getD i ([],0)).1 (ks.getD j ([],0)).1 with
 | true=>exact uF (Rr (mk hi) c)
 | false =>
  refine uG ?_;by_cases e:(ks.getD i ([],0)).1=(ks.getD j ([],0)).1
  .rw[e];exact Sc _
  .have:=Rr (ks:=ks) (mk hj) (WL e c)
   exact xR this
theorem Yq(hκ:KOk prog w κ)(hu:A.units<C0)(R:RowE prog w s.heap vs ks) :
  wpAny (AM prog w) A (sortRuns'.run (JJ κ (vs.toArray.zip vs.toArray) #[] 7 uB)) (λr s'=>s'=s/\∃p:Array Nat,PP ks.length p/\Up (ltK ks) p ks.length/\AU r.2=p.map (Zs (vs.toArray.zip vs.toArray))/\GV r.2=uB) E s:=by
 have lk:ks.length=vs.length:=by rw[R.vals,AB]
 have T:=R.tot;have gi:∀i,i<ks.length->Zs (vs.toArray.zip vs.toArray) i=itK ks i:=λi hi=>by
  rw[kat_item rfl];unfold itK;rw[R.vals];simp[AD,hi]
 have e0:(vs.toArray.zip vs.toArray).toList=(AK ks.length).map (itK ks):=by
  have:=congrArg SH (kas_range (vs.toArray.zip vs.toArray));rw[<- this,O3,show(vs.toArray.zip vs.toArray).size=ks.length by rw[lk];simp];exact G8 λi hi=>gi i (AN.mp hi)
 have C:TM.Cmp prog w A E s κ (λx=>∃i,i<ks.length/\x=itK ks i) (rkK ks):=λx y ⟨i,hi,ex⟩ ⟨j,hj,ey⟩ st Q kd q=>by
  subst ex ey;rw[lt'_eq];refine AR (J6 ?_);rw[kd];refine AR (NF (KG (hκ _ _ _ _ _ _ _ _ hu (R.key hi) (R.key hj) ⟨rfl,?_⟩)));rw[R.rk_lt hi hj] at q;exact AX q
 have al:TM.Al (λx=>∃i,i<ks.length/\x=itK ks i) (vs.toArray.zip vs.toArray):=λi x e=>by
  rw[<- BV,e0,AY] at e;cases g:(AK ks.length)[i]? with
  | none=>rw[g] at e;cases e
  | some k =>
   rw[g] at e;have hk:=AN.mp (BI g);exact⟨k,hk,(BO e).symm⟩
 have di:TM.Di (rkK ks) (vs.toArray.zip vs.toArray):=by
  unfold TM.Di;rw[e0,DL];unfold OH;rw[C9];refine Ff (λ{i j} hi hj ij e=>?_) ED;have ci:=AN.mp hi;have dq:=AN.mp hj;have e':rkK ks (itK ks i)=rkK ks (itK ks j):=e;have z1:=R.rk_lt ci dq;have z2:=R.rk_lt dq ci;rw[e',uG (Sc _)] at z1;rw[e',uG (Sc _)] at z2;have:=T.or i j ci dq ij z1.symm;rw[<- z2] at this;cases this
 have W:=TM.Ms C (st:=JJ κ (vs.toArray.zip vs.toArray) #[] 7 uB) (a₀:=vs.toArray.zip vs.toArray) ⟨VY _,rfl,rfl,al,di⟩ rfl
  (Q:=λ_ bh=>∃p:Array Nat,PP ks.length p/\Up (ltK ks) p ks.length/\AU bh=p.map (Zs (vs.toArray.zip vs.toArray))/\GV bh=uB) λbh B up=>by
  have pm:=HP.mp B.perm;rw[e0] at pm;obtain⟨l,pl,el⟩:=perm_back pm (AK ks.length) rfl;have ll:l.length=ks.length:=by rw[pl.length_eq,A9]
  have lt:∀{k:Nat},k<ks.length->g l.toArray k<ks.length/\l[k]?=uA (g l.toArray k):=λ{k} hk=>by
   have bu:k<l.length:=dl hk ll;have e:g l.toArray k=l[k]:=by unfold g;simp[EA,bu]
   rw[e];exact⟨AN.mp (pl.mem_iff.mp (ER bu)),AG bu⟩
  have nd:=pl.nodup_iff.mpr ED;have at_:∀{k:Nat},k<ks.length->TM.N (rkK ks) (AU bh) k=rkK ks (itK ks (g l.toArray k)):=λ{k} hk=>by
   unfold TM.N;rw[<- BV,el,AY,(lt hk).2];rfl
  have sz:(vs.toArray.zip vs.toArray).size=ks.length:=by rw[lk];simp
  refine⟨l.toArray,⟨by simpa using ll,λk hk=>(lt hk).1,λk k' hk bu e=>?_⟩,λx y xy hy=>?_,?_,B.failed⟩
  .have a1:=(lt hk).2
   have a2:=(lt bu).2;rw[<- e] at a2;exact(LW (dl hk ll) nd).mp (a1.trans a2.symm)
  .have hx:x<ks.length:=uV xy hy
   have u:=up x y (A7 _) (vy xy) (by rw[sz];exact hy);rw[at_ hx,at_ hy] at u;cases c:ltK ks (g l.toArray x) (g l.toArray y) with
   | true=>rfl
   | false =>
    have ne:g l.toArray x≠g l.toArray y:=λe=>by
     have a1:=(lt hx).2;have a2:=(lt hy).2;rw[<- e] at a2;have:=(LW (dl hx ll) nd).mp (a1.trans a2.symm);exact vk xy this
    have z:=T.or _ _ (lt hx).1 (lt hy).1 ne c;rw[<- R.rk_lt (lt hy).1 (lt hx).1] at z;have:=uH z;lia
  .apply UU.mp
   rw[el,O3];refine G8 λi hi=>(gi i ?_).symm;exact AN.mp (pl.mem_iff.mp (by simpa using hi))
 exact C5 W (λr s' h=>h) λ_ _ e=>e
theorem Wv{P:PySem.Fin->AA->Prop}(ho:s.heap.get? a=uA (EU "list" vs.toArray n))(R:RowE prog w s.heap vs ks)(hz:vs.length<=100000)(hu:A.units<C0)
  (h:∀p:Array Nat,PP ks.length p->Up (ltK ks) p ks.length->P (.done (.ret .none)) {s with heap:=sortedHeap s.heap a vs (Lc (p.toList.map λi=>vs.getD i CY))}) :
  wpAny (AM prog w) A (Builtin.«list.sort» ⟨[.ref a],[]⟩) P E s:=by
 have la:=AW ho;have lk:ks.length=vs.length:=by rw[R.vals,AB]
 rw[list_sort_plain];refine Ap (OX ho rfl ?_);refine Ap (N4 ho rfl ?_);obtain⟨e1,ho1⟩:∃e1,(s.heap.update a (Eg λ_=>#[])).get? a=uA (EU "list" #[] e1):=⟨_,get?_update_seq ho (λ_=>#[])⟩;refine Ap (Uf ho1 rfl ?_);refine Ap (WG ?_);refine Ap (N3 ?_);refine D8 ?_;have hoa:(((s.heap.update a (Eg λ_=>#[])).push (EU "tuple" vs.toArray 0)).push (EU "list" #[] 0)).get? a=uA (EU "list" #[] e1):=AH _ (AH _ ho1);dsimp only;have vz:vs.toArray.size=vs.length:=by simp
 by_cases h2:vs.toArray.size<2
 .rw[uE h2,uE h2]
  refine Ap (AC ?_);rw[StateT.run_pure];refine Ap (AC ?_);dsimp only;have out:((vs.toArray.zip vs.toArray).map (·.2))=Lc ((Lc (AK ks.length)).toList.map λi=>vs.getD i CY):=by
   apply UU.mp;rw[O3,Array.toList_zip,List.map_snd_zip (by simp),lk];apply FC;intro i;by_cases c:i<vs.length
   .simp[c]
   .simp[c]
  refine Ap (Uf hoa rfl ?_);refine Ap (N4 hoa rfl ?_ (hsz2:=by rw[Array.size_map,Array.size_zip,vz,FY];lia));simp only[bne_self_eq_false,Ct,if_false];refine AC ?_;rw[show(AU (JJ UT (vs.toArray.zip vs.toArray) #[] 7 uB)).map (·.2)=_ from out];exact h _ (ACj _) λx y hxy hy=>uI hxy (by lia)
 .rw[uD h2,uD h2]
  have R1:RowE prog w (((s.heap.update a (Eg λ_=>#[])).push (EU "tuple" vs.toArray 0)).push (EU "list" #[] 0)) vs ks:=AAS R λx hx o gx=>by
   have ne:x.2≠a:=λe=>by
    obtain⟨o',_,_,go',co',_⟩:=R.keys x hx;rw[e,ho] at go';cases go';have z:C4 "list" = C4 "tuple":=co';exact uI z (by decide)
   exact AH _ (AH _ ((DA _ _ (CF ne)).trans gx))
  refine Ap (kind_any (s:={s with heap:=((s.heap.update a (Eg λ_=>#[])).push (EU "tuple" vs.toArray 0)).push (EU "list" #[] 0)}) R1 (by lia) λκ hκ=>?_);refine Ap (C5 (Yq hκ hu (s:={s with heap:=((s.heap.update a (Eg λ_=>#[])).push (EU "tuple" vs.toArray 0)).push (EU "list" #[] 0)}) R1) ?_ λ_ _ e=>e)
  .rintro⟨⟨⟩,bh⟩ s' ⟨rfl,p,P1,P2,har,hf⟩
   have hout:=kat_snds (ks:=vs) (vs:=vs) rfl har;rw[hout];refine Ap (Uf hoa rfl ?_);refine Ap (N4 hoa rfl ?_ (hsz2:=by rw[A8,AB,A2,P1.size,FY];lia));rw[hf];simp only[bne_self_eq_false,Ct,if_false];exact AC (h p P1 P2)
section
variable{es:Array (Int×As)}{t:CU}
theorem Ub(hu:A.units+2<C0)(hh:A.handled=uB)(X:TS prog w s.heap S es t ks)(hK:∀x∈ks,IK prog w s.heap x.1 x.2)(mI:ks.length<=301)
  (q:∀(h':Heap) (tk:Nat) (D:Addr) (ko:List (uJ×Addr)) (e:Nat),(∀b ob,s.heap.get? b=uA ob->h'.get? b=uA ob)->s.heap.objs.size<=D->h'.get? D=uA (EU "list" (ko.map λx=>AV x.2).toArray e)->ko.Perm ks->(ko.map (·.1)).Pairwise (λa b=>HT.lexLt a b=true)->Q (.ref D) {s with heap:=h',toks:=tk}) :
  wpAny (AM prog w) A (call (.builtin "sorted") [.ref S]) Q E s:=by
 obtain⟨o,ep,ho,e8,hd⟩:=X.obj;have lks:ks.length=es.size:=by
  have:=congrArg DI X.els;rw[AB,A2] at this;exact this.symm
 refine KP kind_sorted plain_sorted entry_sorted (args_sorted1 _) ?_;unfold UM;refine Ap (m:=checkCount "sorted" 1 1 _) (AC ?_);refine Ap (SJ (A:=A.in1) (by simp[hh]) ho e8 hd X.tab X.len X.pl X.ld (vj lks mI) λh1 tk1 bX kp hsz bj=>?_);have op:=TY w S ep es;rw[X.els] at op;obtain⟨k1,p1,e1⟩:=perm_back op ks rfl;rw[e1,Zl,DL] at bj;have hvs:=bj;generalize hv:bX.toList=vs at hvs;have lvs:vs.length=ks.length:=by rw[hvs,AB,p1.length_eq]
 refine Ap (N3 ?_ (by rw[FY];lia));have oI:(h1.push (EU "list" vs.toArray 0)).get? h1.objs.size=uA (EU "list" vs.toArray 0):=AT _ rfl;have kp2:∀b ob,s.heap.get? b=uA ob->(h1.push (EU "list" vs.toArray 0)).get? b=uA ob:=λb ob e=>AH _ (kp b ob e);have R:RowE prog w (h1.push (EU "list" vs.toArray 0)) vs k1:=⟨hvs,λx hx=>Hh (hK x (p1.mem_iff.mp hx)) λob e=>kp2 _ ob e,(M9 (p1.map (·.1))).mpr X.nd⟩;refine Ap (D8 (Dx WA ⟨_,oI,rfl⟩ U9 (Wv (s:={s with heap:=h1.push (EU "list" vs.toArray 0),toks:=tk1}) oI R (by lia) (by lia) λp P1 P2=>⟨_,rfl,?_⟩) (WB _)));refine AC ⟨_,rfl,?_⟩;obtain⟨e,he⟩:=sortedHeap_at (out:=Lc (p.toList.map λi=>vs.getD i CY)) oI;have lk1:=p1.length_eq;have eo:(p.toList.map λi=>vs.getD i CY)=(p.toList.map λi=>k1.getD i ([],0)).map λx=>AV x.2:=by
  rw[DL];refine G8 λi hi=>?_;have ci:=AN.mp ((Qu P1).mem_iff.mp hi);rw[hvs];simp[AD,ci]
 rw[eo] at he ⊢;have pk:(p.toList.map λi=>k1.getD i ([],0)).Perm k1:=by
  have z:=SB.JV (l:=k1) (Qu P1);rw[SB.JH ([],0) λi hi=>AN.mp ((Qu P1).mem_iff.mp hi)] at z;exact z
 refine q _ tk1 h1.objs.size _ e (λb ob eb=>?_) hsz he (pk.trans p1) ?_
 .have hb:=AW (kp b ob eb)
  rw[sortedHeap_old (BH hb) (by rw[Do];exact LX hb)];exact kp2 b ob eb
 .rw[DL]
  refine CM.mpr λi j hi hj kB=>?_;have ci:i<p.size:=by simpa using hi
  have dq:j<p.size:=by simpa using hj
  have z:=P2 i j kB (by rw[<- P1.size];exact dq);unfold ltK g at z;simpa [EA,ci,dq] using z
end
end SB
namespace SB
open PySem PySem.SetTable
theorem AEq(hh:A.handled=uB)(hu:A.units+6<C0)(hl:s.heap.IsList l items\/s.heap.IsTuple l items)(hv:∀(i:Nat) (v:As),items[i]?=uA v->v=AV (vals i).2)
  (hK:∀j,j<items.size->IK prog w s.heap (vals j).1 (vals j).2) (mI:∀ks:List (uJ×Addr),(∀x∈ks,∃j,j<items.size/\x=vals j)->(ks.map (·.1)).Nodup->ks.length<=300)
  (q:∀h' tk es t ks,TS prog w h' s.heap.objs.size es t ks->Of vals items.size ks->(∀b o,s.heap.get? b=uA o->h'.get? b=uA o)->Q (.ref s.heap.objs.size) {s with heap:=h',toks:=tk}) :
  wpAny (AM prog w) A (call (.type "set") [.ref l]) Q E s:=by
 obtain⟨c,tl,hmro⟩:=IH.mro;have made:=IH.made;have ssub:=IH.sub;have nt:=IH.notType;have cc:=IH.canCreate;have tc:=F.typeCall_set_1 (.ref l);refine RC (VS ?_);show wpAny _ _ (callAny (.type "set") _) _ _ _;refine AC ⟨NV _ (by decide+kernel),EK F.entry_type_call ?_⟩;rw[Around.under_plain (weight_type_call_type "set" [.ref l] []) rfl]
 repeat (any_goals (first| assumption| wp_step))
 refine E8 (ABP (.ref l) (E:=E) (Q₁:=λobj s₁=>∃led:Bool,led=ledOf w/\obj=.ref s.heap.objs.size/\s₁={s with heap:=s.heap.push {cls:=.type "set",dict:=uB,data:=.set #[] 0 (.fresh 0 0 led)}}) ⟨_,rfl,rfl,rfl⟩) λr s₁ hr=>?_;cases r with
 | error e=>exact hr
 | ok fl =>
  cases fl with
  | ret obj =>
   obtain⟨led,dC,rfl,rfl⟩:=hr;have gS:(s.heap.push {cls:=.type "set",dict:=uB,data:=.set #[] 0 (.fresh 0 0 led)}).get? s.heap.objs.size=uA {cls:=.type "set",dict:=uB,data:=.set #[] 0 (.fresh 0 0 led)}:=AT _ rfl;have tS:W4 {s with heap:=s.heap.push {cls:=.type "set",dict:=uB,data:=.set #[] 0 (.fresh 0 0 led)}} (.ref s.heap.objs.size) "set":=⟨_,gS,rfl⟩;have il:=IH.init.lookup;have ib:=IH.init.bind (.ref s.heap.objs.size)
   repeat (any_goals (first| assumption| wp_step))
   refine E8 (MZ (R:=wants (λr s₂=>r=.none/\∃h' tk es t ks,s₂={s with heap:=h',toks:=tk}/\TS prog w h' s.heap.objs.size es t ks/\Of vals items.size ks/\(∀b o,s.heap.get? b=uA o->h'.get? b=uA o)) E) IH.init.plain F.entry_set_init (check_set_init_1 tS ?_)) λr₂ s₂ hr₂=>?_
   .have ll:l<s.heap.objs.size:=(by rcases hl with⟨_,h,_⟩| ⟨_,h,_⟩<;>exact AW h)
    have h3:A.in1.in1.in1.handled=uB:=by simp[hh]
    have nI:l≠(s.heap.push {cls:=.type "set",dict:=uB,data:=.set #[] 0 (.fresh 0 0 led)}).objs.size:=by
     rw[Do];exact BH (LX ll)
    have nS:s.heap.objs.size∉[(s.heap.push {cls:=.type "set",dict:=uB,data:=.set #[] 0 (.fresh 0 0 led)}).objs.size,l]:=by
     rw[Do];simp only[AS,Bi,DJ,or_false,not_or];exact⟨BH (E7 _),MG ll⟩
    have lows:∀j,j<items.size->(vals j).2<s.heap.objs.size:=λj hj=>by
     obtain⟨o,_,_,ho,_⟩:=hK j hj;exact AW ho
    have kX:∀(x:Obj) b o,s.heap.get? b=uA o->((s.heap.push {cls:=.type "set",dict:=uB,data:=.set #[] 0 (.fresh 0 0 led)}).push x).get? b=uA o:=λx b o e=>AH _ (AH _ e);have s1:=F.sub_list_set;have s2:=F.sub_list_frozenset;have s3:(C4 "list" == C4 "dict")=false:=by decide
    have s4:=PySem.F.sub_tuple_set;have s5:=PySem.F.sub_tuple_frozenset;have s6:(C4 "tuple" == C4 "dict")=false:=by decide
    rcases hl with hl| hl
    all_goals
     have fz:=hl.push {cls:=.type "set",dict:=uB,data:=.set #[] 0 (.fresh 0 0 led)};obtain⟨⟨ocls,odict,odata,oslots⟩,qy,nh,nl,rh⟩:=id fz;simp only at nh rh;subst nh rh;unfold Builtin.«set.__init__» noKeywords WH;generalize hPI:Qr=PI
     wp_walk
     subst hPI
     first
     | (have W:=(Walks.list (prog:=prog) (w:=w) h3 _ l nI items).toS;refine Op fz (Ap (Lv ?_)))
     | (have W:=(Walks.tuple (prog:=prog) (w:=w) h3 _ l nI items).toS;refine E6 fz (Ap (Lv ?_)))
     refine Ys (s:=_) W s.heap.objs.size nS vals hv mI (λj hj z=>?_) ?_ (λs' cE t' cK X' O' mv=>?_) (items.size-0) 0 _ #[] (.fresh 0 0 led) [] (by lia) (A7 _)
      ⟨⟨_,AT _ rfl,rfl,rfl⟩,(fz.push _)⟩ (ADJ dC (AH _ gS)) (λj hj=>Hh (hK j hj) λo e=>kX _ _ _ e) ⟨λx hx=>(by cases hx),λj hj=>uI hj (by lia),AF _⟩ (Moved.refl λ_=>rfl)
     .have:=lows j hj
      rw[Do] at z;simp only[AS,Bi,DJ,or_false] at z;rcases z with z| z
      .exact uI z (BH this)
      .exact uI z (BH (LX this))
     .show A.units+1+1+1<C0
      lia
     .obtain⟨h',g',d',tk',os'⟩:=s'
      have eg:g'=s.gens:=mv.gens;have ed:d'=s.drawn:=mv.drawn;have eo:os'=s.os:=mv.os;subst eg ed eo;show wpAny _ _ _ _ _ _;refine AC ?_;show wpAny _ _ (ret CY) _ _ _;refine AC ⟨rfl,h',tk',cE,t',cK,rfl,X',O',λb o e=>?_⟩;have hb:=AW e;refine mv.heap b o ?_ (kX _ b o e);rw[Do];simp only[AS,Bi,DJ,or_false,not_or];exact⟨BH hb,BH (LX hb)⟩
   .cases r₂ with
    | error e=>exact hr₂
    | ok fl₂ =>
     cases fl₂ with
     | ret r =>
      obtain⟨rfl,h',tk,es,t,ks,rfl,X',O',kp⟩:=hr₂
      repeat (any_goals (first| assumption| wp_step))
      exact q _ _ _ _ _ X' O' kp
     | _=>exact hr₂.elim
  | _=>exact hr.elim
end SB
namespace L2
open PySem PySem.Spec PyProof.Rows
def Zg(K:Au)(te:TE):TE:=λσ H Q=>te σ H λv H1=>∃a xs rs,v=.ref a/\(SqL K H1 a xs\/SqT K H1 a xs)/\A1 (rPair K H1) rs xs/\(∀ms:uK,ms.Nodup->(∀m∈ms,m∈rs)->ms.length<=300) /\
 ∀l ys ms,H1 l=none->ms.Pairwise (λa b=>HT.lexLt a b=true)->(∀r,r∈ms↔r∈rs)->A1 (rPair K H1) ms ys->A1 (λm y=>∃i:Nat,rs[i]?=uA m/\xs[i]?=uA y) ms ys->Q (.ref l) (upd H1 l (.lst ys))
theorem GX(hc:X.calm=true)(hu:X.A.units+7<C0)(hg:Gl X "sorted")(hm:X.mg "sorted" = uB)(lw:Gl X "set")(hm2:X.mg "set" = uB)(he:PE X e te)
  (hv:FF "sorted" = uA (.builtin "sorted"):=by exact IE) (hv2:autoParam (FF "set" = uA (.type "set")) zA3._auto_1)
  (s1:autoParam (BQ [e] X.env=(false,eval e X.env)::BQ [] X.env) zA0._auto_1)
  (s2:autoParam (BQ [.Call (.Name "set" p2) [e] [] dL] X.env=(false,eval (.Call (.Name "set" p2) [e] [] dL) X.env)::BQ [] X.env) zA0._auto_1) :
  PE X (.Call (.Name "sorted" p1) [.Call (.Name "set" p2) [e] [] dL] [] pos) (Zg X.K te):=by
 intro aS s σ H Q I h;refine EN (Dt I hg hm hv ?_ (by decide) (by decide));refine IX ?_ s2 rfl;rw[s2];show wpAny _ _ (To ((false,eval (.Call (.Name "set" p2) [e] [] dL) X.env)::FG pos (BQ [] X.env))) _ _ s;refine FR ?_;refine EN (Dt I lw hm2 hv2 ?_ (by decide) (by decide));refine DB ?_ s1 rfl;rw[s1];show wpAny _ _ (To ((false,eval e X.env)::FG dL (BQ [] X.env))) _ _ s;refine FR (thn (he aS s σ H _ I h) λu s1 ⟨x,H1,I1,r1,q1⟩=>?_);refine HQ ?_;obtain⟨a,xs,rs,rfl,ha,pr,mI,q⟩:=q1;cases r1;obtain⟨bg,r,hl⟩:∃bg:List As,Vals xs bg/\(s1.heap.IsList a bg.toArray\/s1.heap.IsTuple a bg.toArray):=by
  rcases ha with ha| ha
  .obtain⟨bg,r,pl,_⟩:=I1.list ha
   exact⟨bg,r,.inl pl.isList⟩
  .obtain⟨bg,r,⟨o,h1,h2,n,h3⟩,_⟩:=I1.tuple ha
   exact⟨bg,r,.inr ⟨o,h1,h2,n,h3⟩⟩
 have lx:=r.length;have lr:=AZ pr;have at_:∀i:Nat,i<bg.length->∃b ns,bg[i]?=uA (.ref b)/\xs[i]?=uA (.ref b)/\rs[i]?=uA ns/\rPair X.K H1 ns (.ref b):=λi hi=>by
  have hx:i<xs.length:=dl hi lx;obtain⟨ns,me,rp⟩:=Paired.get pr (AG hx);obtain⟨b,eb,hb⟩:=Bx rp;obtain⟨u,ku,ru⟩:=r.get (AG hx);rw[eb] at ru rp;cases ru;exact⟨b,ns,ku,by rw[AG hx,eb],me,rp⟩
 have pick:∃vals:Nat->uJ×Addr,∀i:Nat,i<bg.length->bg[i]?=uA (.ref (vals i).2)/\rs[i]?=uA (vals i).1/\rPair X.K H1 (vals i).1 (.ref (vals i).2)/\xs[i]?=uA (.ref (vals i).2):=by
  refine⟨λi=>if h:i<bg.length then(EQ (D6 (at_ i h)),EQ (at_ i h)) else([],0),λi hi=>?_⟩;have z:=D6 (D6 (at_ i hi));dsimp only;rw[dif_pos hi];exact⟨z.1,z.2.2.1,z.2.2.2,z.2.1⟩
 obtain⟨vals,dm⟩:=pick;have hsz:bg.toArray.size=bg.length:=by simp
 have few:∀ks:List (uJ×Addr),(∀x∈ks,∃j,j<bg.length/\x=vals j)->(ks.map (·.1)).Nodup->ks.length<=300:=λks hs hn=>by
  have:=mI (ks.map (·.1)) hn λm hm=>by
   obtain⟨x,hx,rfl⟩:=BD.mp hm;obtain⟨j,hj,rfl⟩:=hs x hx;exact BI (dm j hj).2.1
  rwa [AB] at this
 refine SB.AEq (items:=bg.toArray) (vals:=vals) (I1.ok.hd hc) (by lia) hl (λi v hv=>?_) (λj hj=>?_) (by rw[hsz];exact few) λh' tk es t ks T O kp=>?_
 .have hi:i<bg.length:=by
   have:=(Cn.mp hv).1;rw[hsz] at this;exact this
  have z:=(dm i hi).1;have ow:bg[i]?=uA v:=by simpa using hv
  rw[ow] at z;exact BO z
 .rw[hsz] at hj
  obtain⟨b,eb,hb⟩:=Bx (dm j hj).2.2.1;cases eb;exact ik_ofB I1 hb
 refine HQ ?_;rw[hsz] at O;have hK:∀x∈ks,SB.IK X.prog X.w h' x.1 x.2:=λx hx=>by
  obtain⟨j,hj,rfl⟩:=O.sub x hx;obtain⟨b,eb,hb⟩:=Bx (dm j hj).2.2.1;cases eb;exact SB.Hh (ik_ofB I1 hb) λo e=>kp _ o e
 have inrs:∀j,j<bg.length->(vals j).1∈rs:=λj hj=>BI (dm j hj).2.1;have hSz:s1.heap.objs.size<=h'.objs.size:=by
  obtain⟨o,_,ho,_⟩:=T.obj;exact C3 (AW ho)
 refine SB.Ub (s:={s1 with heap:=h',toks:=tk}) (by lia) (I1.ok.hd hc) T hK (T3 (few ks O.sub T.nd)) λh2 tk2 D ko e kp2 hD he pk so=>?_;have hD':s1.heap.objs.size<=D:=BY hSz hD;have hn:H1 D=uB:=I1.hok.fresh hD';have lko:ko.length<=301:=by rw[pk.length_eq];exact T3 (few ks O.sub T.nd)
 have kov:∀x∈ko,∃j,j<bg.length/\x=vals j:=λx hx=>O.sub x (pk.mem_iff.mp hx);have vl:∀l:List (uJ×Addr),Vals (l.map λx=>V.ref x.2) (l.map λx=>AV x.2):=λl=>by
  induction l with
  | nil=>exact .nil
  | cons x r ih=>exact .cons rfl ih
 have pv:∀l:List (uJ×Addr),(∀x∈l,∃j,j<bg.length/\x=vals j)->A1 (rPair X.K H1) (l.map (·.1)) (l.map λx=>V.ref x.2):=λl=>by
  induction l with
  | nil=>exact λ_=>.nil
  | cons x r ih =>
   intro hh;obtain⟨j,hj,rfl⟩:=hh x AI;exact .cons (dm j hj).2.2.1 (ih λy hy=>hh y (AL _ hy))
 have pw:∀l:List (uJ×Addr),(∀x∈l,∃j,j<bg.length/\x=vals j)->A1 (λm y=>∃i:Nat,rs[i]?=uA m/\xs[i]?=uA y) (l.map (·.1)) (l.map λx=>V.ref x.2):=λl=>by
  induction l with
  | nil=>exact λ_=>.nil
  | cons x r ih =>
   intro hh;obtain⟨j,hj,rfl⟩:=hh x AI;exact .cons ⟨j,(dm j hj).2.1,(dm j hj).2.2.2⟩ (ih λy hy=>hh y (AL _ hy))
 refine⟨.ref D,_,I1.laid (o:=.lst (ko.map λx=>V.ref x.2)) (a:=D) (t':=tk2) (λb o eb=>kp2 b o (kp b o eb)) hD' ⟨?_,ko.map (λx=>AV x.2),e,vl ko,he⟩,rfl,q D _ (ko.map (·.1)) hn so (λrr=>?_) (pv ko kov) (pw ko kov)⟩
 .rw[AB]
  exact small (by lia)
 .constructor
  .intro hr
   obtain⟨x,hx,rfl⟩:=BD.mp hr;obtain⟨j,hj,rfl⟩:=kov x hx;exact inrs j hj
  .intro hr
   obtain⟨j,hj⟩:=FV.mp hr;have hjl:j<bg.length:=by
    have:=(AO.mp hj).1;lia
   have z:=(dm j hjl).2.1;rw[hj] at z;cases z;exact(pk.map (·.1)).mem_iff.mpr (O.sup j hjl)
end L2
namespace K45s
open PySem L2 G
def Xi(K:Au)(C:Addr):Sp:=λvs H Q _=>∃(l:Addr) (n top:Nat) (aI:List Row),vs=[.int n,.ref l,.int top]/\RowsAt K H l aI/\Ok n aI/\n<=12/\aI.length<=4100/\FewB aI top/\Knot aI top /\
 ∀(p:Addr) (aT:List Row) (hd:Nat) (H':Hp),Same H H'->SvAt K C H' p n aT hd->Canon n aT hd->(∀s,led aT hd s=led aI top s)->(aT.length<=4000/\aT.length<=aI.length/\∀t,(aT.filter λr=>decide (r.1=t)).length<=300)->Q (.ref p) H'
noncomputable def pl01:List (Key×V):=mergeK [] [(FO (0:Int),V.int 0),(FO (1:Int),V.int 1)]
theorem ACr:PlD pl01 λk=>if k=0 then uA 0 else if k=1 then uA 1 else uB:=by
 intro k;show valV (putK (putK ([]:List (Key×V)) (FO (0:Int)) (V.int 0)) (FO (1:Int)) (V.int 1)) (FO (k:Int))=_;rw[Ef,Ef];by_cases k1:k=1
 .subst k1;rfl
 by_cases k0:k=0
 .subst k0;rfl
 rw[uD (λz=>k1 (by injection z with z;lia)),uD (λz=>k0 (by injection z with z;lia))];dsimp only;rw[uD k0,uD k1];rfl
theorem AGX:pl01.length<=2+4100*0:=by
 show(putK (putK ([]:List (Key×V)) (FO (0:Int)) (V.int 0)) (FO (1:Int)) (V.int 1)).length<=2+4100*0;exact BY (Ca _ _ _) (OV (Ca _ _ _))
def LayR(aI:List Row)(pl:Nat->uW)(H:Hp)(k:Nat)(v:V):Prop:=∃q b,v=.ref q/\H q=uA (.tup [.int k,.ref b])/\H b=uA (.tup (r3 (rowIn aI pl k)))
theorem LayR.keeps{aI:List Row}{k:Nat}(e:∀a xs,H a=uA (.tup xs)->H' a=uA (.tup xs))(h:LayR aI pl H k v):LayR aI pl H' k v :=
 let ⟨q,b,h1,h2,h3⟩:=h;⟨q,b,h1,e _ _ h2,e _ _ h3⟩
def RowR(H:Hp)(r:Row)(v:V):Prop:=∃b,v=.ref b/\H b=uA (.tup (r3 r))
theorem RowR.keeps{r:Row}(e:∀a xs,H a=uA (.tup xs)->H' a=uA (.tup xs))(h:RowR H r v):RowR H' r v :=
 let ⟨b,h1,h2⟩:=h;⟨b,h1,e _ _ h2⟩
noncomputable def sel(aI:List Row)(pl:Nat->uW)(ly:uL)(j:Nat):List Row:=((ly.take j).map (rowIn aI pl)).filter λr=>decide (r.2.2≠0)
theorem Rg{aI:List Row}{k:Nat}(h:ly[j]?=uA k):sel aI pl ly (j+1)=sel aI pl ly j++if(rowIn aI pl k).2.2≠0 then [rowIn aI pl k] else []:=by
 unfold sel;rw[CC,h,BE,CD];by_cases c:(rowIn aI pl k).2.2≠0
 .simp[c]
 .simp[c]
theorem XF(aI:List Row)(pl:Nat->uW)(ly:uL)(j:Nat):(sel aI pl ly j).length<=ly.length:=by
 unfold sel;refine BY (CH _ _) ?_;rw[AB,B7];lia
theorem Qa{aI:List Row}{r:Row}:r∈sel aI pl ly ly.length↔∃k∈ly,r=rowIn aI pl k/\r.2.2≠0:=by
 unfold sel;rw[CO,B0,BD];constructor
 .rintro⟨⟨k,hk,rfl⟩,h⟩
  exact⟨k,hk,rfl,uH h⟩
 .rintro⟨k,hk,rfl,h⟩
  exact⟨⟨k,hk,rfl⟩,uF h⟩
noncomputable def placeOf(aI:List Row)(pl:Nat->uW)(aT:List Row)(k:Nat):Nat:=(numOf 2 aT (rowIn aI pl k)).getD (rowIn aI pl k).2.1
theorem LQ{α β γ:Type}{F:β->γ->Prop}{f:α->β}:∀{l:List α}{m:List γ},A1 (λa b=>F (f a) b) l m->A1 F (l.map f) m
 | _,_,.nil=>.nil
 | _,_,.cons h t=>.cons h (LQ t)
theorem AFJ{aI new:List Row}{t:Nat}(h:(new.map r3i).Pairwise (λa b=>HT.lexLt a b=true))(hw:∀r,r∈new->∃k,k∈rc/\tieOf aI k=t/\r=rowIn aI pl k/\r.2.2≠0):new.Pairwise RowLt:=by
 have h2:new.Pairwise (λa b=>HT.lexLt (r3i a) (r3i b)=true):=C9.mp h;have qu:∀r∈new,r.1=t:=λr hr=>by
  obtain⟨k,_,h,e,_⟩:=hw r hr;rw[e];exact h
 refine Ff (λ{a b} ha hb z=>?_) h2;have ea:=qu a ha;have eb:=qu b hb;obtain⟨a1,a2,a3⟩:=a;obtain⟨b1,b2,b3⟩:=b;dsimp only at ea eb;subst ea;subst eb;unfold r3i at z;dsimp only at z;rw[HT.Cd,uE rfl,HT.Cd] at z;refine .inr ⟨rfl,?_⟩;dsimp only;by_cases c:(a2:Int)=b2
 .rw[uE c,HT.Cd] at z
  by_cases d:(a3:Int)=b3
  .rw[uE d] at z
   cases z
  .rw[uD d] at z
   have:=uH z;exact .inr ⟨fv c,vS this⟩
 .rw[uD c] at z
  have:=uH z;exact .inl (vS this)
theorem EY:FnScope ["n","rows","top","reached","numbers","places","tie","layer","row","knot"] zl21 (Ai Lh):=fscp (by decide+kernel)
theorem ACa(F:Fun K "least_graph" "least_graph" Lh f fd)(T:Txt K mg C)(M:Mk K C fS)
  (GR:Cal P w K mg base 1 fR kK "reached_knots" zl20 (Xe K))
  (GI:Cal P w K mg base 1 fI qA "row_in_places" zl7 (AGi K))
  (GS:FnOk P w K mg base CX0 1 fS pZ zl6 (LR K C)) (bS:Binds K pZ zl6 []) :
  FnOk P w K mg base CX0 3 f fd zl21 (Xi K C):=by
 refine F.ok EY (λvs H Q E h=>?_) (λbE A outer s H vs Q E hr h=>?_)
 .obtain⟨l,n,top,aI,rfl,_⟩:=h
  rfl
 obtain⟨l,n,top,aI,rfl,hL,ok,n12,r72,fw,kt,q⟩:=h;have cS:Room 1 _:=hr.mono (by decide);refine⟨_,Ae (Am (i:=3) EY.nd (Az GR cS rfl (Aa (pv 1) (Aa (pv 2) Ad))))
  (Ae (Am (i:=4) EY.nd ABz)
  (Ae (Am (i:=5) EY.nd (Xb (Mh Ag Ag (Mh Ag Ag Xk)) rfl rfl (by intro z;cases z) (by decide)))
  (Ae (Dq DZ rfl (Ni rfl T.range (Aa (Aw Et (pv 0) Ag) (Aa (Rt Ke Ag) (Aa (Rt Ke Ag) Ad)))) (Bu (i:=6) EY.nd)
   (Ae (HS (i:=7) (Ai Lh) ["knot"] ["places","rows","tie"] [5,1,6] EY.nd rfl (IT rfl) rfl rfl (by decide+kernel) ⟨⟨rfl,by decide+kernel⟩,⟨rfl,by decide+kernel⟩,⟨rfl,by decide+kernel⟩,trivial⟩ (Cw (pv 3))
    (λ_ _ _=>BJ (i:=0))
    (λ_ _ _=>Cq (Ar Du (Aq (QX (K:=K) rfl) (Aq (QX (K:=K) rfl) (pv 2) (Aw Et (pv 0) Ag)) Ag) (pv 3)))
    (λ_ _ _=>Bw (Aa (pv 0) (Aa (Az GI cS rfl (Aa (pv 1) (Aa (Aq (QX (K:=K) rfl) (pv 2) (Aw Et (pv 0) Ag)) Ad))) Ad))))
   (Ae (Dq DZ rfl (Cw (GX rfl (Cg hr) rfl T.sorted rfl T.set
     (Ce (Ai Lh) ["knot","row"] [] [] rfl rfl (by decide+kernel) trivial (Cw (pv 7))
      (λ_ _ _=>Ek (K:=K) (n:=2) rfl rfl (Bt (BJ (i:=0)) (Bt (BJ (i:=1)) En)))
      (λ_ _ _=>Cq (Ar Oe (Aq (Qm (K:=K) rfl) (pv 1) Ag) Ag))
      (λ_ _ _=>pv 1)))) (Bu (i:=8) EY.nd)
    (Ak (Jw (Cg hr) (pv 4) (pv 8) (Aw Bs (BK UW rfl T.len DF (Aa (pv 4) Ad)) Ag) rfl)))
   (Ak (Dq DZ rfl (Cw (pv 7)) (Ek (K:=K) (n:=2) rfl rfl (Bt (Bu (i:=9) EY.nd) (Bt (Bu (i:=8) EY.nd) En)))
    (Ak (Jw (Cg hr) (pv 5) (pv 9) (AAh (Cg hr) (pv 4) (pv 8) (Aq Ay (pv 8) Ag) ⟨rfl,rfl,rfl,rfl⟩) rfl)))))))
  (Ak (Av (GF M GS hr rfl T.mgC bS .nil pass0 (Aa (pv 0) (Aa (BL (Qn rfl) rfl T.list JY (Aa (pv 4) Ad)) (Aa (Qv (Cg hr) (pv 5) (pv 2) (λ_ _=>rfl)) Ad))))))))),?_⟩
 refine⟨_,rfl,_,rfl,l,n,top,aI,rfl,hL,ok,r72,kt,λR rc H1 s1 nR eR cl tr rl0 par=>?_⟩;have rl:∀t j,(lay aI t rc j).length<=4100:=λt j=>BY (rl0 t j) (BY (CH ..) r72);refine λN hN=>?_;have nN:H N=uB:=s1.free hN;have s2:=s1.trans (u4 hN (.dT []));refine λD hD=>⟨Ab,[(.inl (0:Int),.int 0),(.inl (1:Int),.int 1)],rfl,(by show 2<=15;decide),?_⟩;have nD:H D=uB:=s2.free hD;have RN:R≠N:=Af eR hN;have RD:R≠D:=Af (show(upd H1 N (.dT [])) R=uA (.lst (iN rc)) by rw[Ah RN];exact eR) hD;have ND:N≠D:=Af (show(upd H1 N (.dT [])) N=uA (.dT []) from Ab) hD;refine⟨_,rfl,_,_,rfl,rfl,1,rfl,1,rfl,(n:Int)-1,-1,rfl,⟨by lia,by lia,by lia,by lia⟩,?_⟩;refine Rv (lo:=(n:Int)-1) (n:=((n:Int)-1 - -1).toNat) (λi σ H2=>∃(aT:List Row) (bb:List (Key×V)) (pl:Nat->uW) (o6 o7 o8 o9:Option V),σ=[uA (.int n),uA (.ref l),uA (.int top),uA (.ref R),uA (.ref N),uA (.ref D),o6,o7,o8,o9]/\Same H H2 /\
   H2 R=uA (.lst (iN rc))/\H2 N=uA (.dT (numKV 2 aT))/\H2 D=uA (.dK bb)/\PlD bb pl/\Kept2 n (n-i) aI rc aT pl/\aT.length<=300*i/\bb.length<=2+4100*i/\∀t,(aT.filter λr=>decide (r.1=t)).length<=300)
  ⟨[],_,λk=>if k=0 then uA 0 else if k=1 then uA 1 else uB,uB,uB,uB,uB,rfl,λb o e=>?_,?_,?_,Ab,?_,?_,by simp,?_,λt=>A7 _⟩ ?_ ?_
 .rw[Ah (Af e nD),Ah (Af e nD)]
  exact s2 b o e
 .rw[Ah RD,Ah RD,Ah RN]
  exact eR
 .rw[Ah ND,Ah ND,Ab]
  rfl
 .exact ACr
 .exact WD λk hk=>(cl.low ok hk).1
 .exact AGX
 .rintro i σ H2 hi ⟨aT,bb,pl,o6,o7,o8,o9,rfl,sm,qI,eN2,qt,pd,kp,nl,kl,cn⟩
  obtain⟨t,et,tn,tn',tlt⟩:∃t:Nat,(n:Int)-1-i=t/\n-i=t+1/\n-(i+1)=t/\t<n:=⟨n-1-i,by lia,by lia,wB,by lia⟩;rw[et];rw[tn] at kp;have tu:=hL.same sm;refine⟨_,rfl,R,rfl,⟨_,ut qI⟩,λY hY=>?_⟩;have nY:H Y=uB:=sm.free hY;refine DR (K:=K) (a:=R) (xs:=iN rc) (λj τ H3=>∃(kv:Option V) (ys:List V),τ=[kv,uA (.ref D),uA (.ref l),uA (.int t)]/\Same H2 H3/\H3 Y=uA (.lst ys)/\A1 (LayR aI pl H3) (lay aI t rc j) ys)
   ⟨uB,[],rfl,u4 hY _,Ab,.nil⟩ (λj τ H3 _ ⟨_,_,_,s3,_⟩=>s3.seq (ut qI)) ?_ ?_
  .rintro j x τ H3 hx ⟨kv,ys,rfl,s3,eY,py⟩
   obtain⟨k,hk,rfl⟩:∃k:Nat,rc[j]?=uA k/\x=.int (k:Int):=by
    unfold iN at hx;rw[AY] at hx;cases g:rc[j]? with
    | none=>rw[g] at hx;cases hx
    | some k=>rw[g] at hx;cases hx;exact⟨k,rfl,rfl⟩
   have km:=BI hk;obtain⟨xs,p,hS,ha,hp⟩:=Qx (tu.same s3) (cl.knot k km) (cl.two k km);refine⟨_,rfl,_,rfl,_,_,rfl,rfl,ixA hS ha (ixA hp at0 ⟨_,rfl,rfl,_,rfl,?_⟩)⟩;refine ite2 (λc=>?_) (λc=>?_)
   .have c':tieOf aI k=t:=by
     have:=uH c;injection this with this
     exact KI this
    obtain⟨a,b,pa,pb,re,_⟩:=kp.base.row cl ok tlt km c';have md:valV bb (FO (((aI.getD (k-2) (0,0,0)).2.1:Nat):Int))=uA (.int (a:Int)):=by
     have:=pd (outOf aI k);rw[pa] at this;exact this
    have hy':valV bb (FO (((aI.getD (k-2) (0,0,0)).2.2:Nat):Int))=uA (.int (b:Int)):=by
     have:=pd (intoOf aI k);rw[pb] at this;exact this
    refine⟨_,rfl,_,rfl,_,rfl,_,rfl,_,_,rfl,rfl,ixA hS ha ⟨D,p,aI.getD (k-2) (0,0,0),a,b,bb,rfl,s3 _ _ qt,⟨p,rfl,hp⟩,md,hy',λu hu=>?_⟩⟩;refine⟨(by show 2<=sizeLine;decide),λv hv=>?_⟩;have er:[V.int ((aI.getD (k-2) (0,0,0)).1:Nat),V.int (a:Int),V.int (b:Int)]=r3 (rowIn aI pl k):=by
     rw[re,<- c'];rfl
    rw[er];rw[er] at hv;have su:=u4 hu (.tup (r3 (rowIn aI pl k)));have sv:=u4 hv (.tup [.int (k:Int),.ref u]);have eY2:=sv _ _ (su _ _ eY);have ll:=rl t j;have ly:ys.length<=4100:=by rw[<- AZ py];exact ll
    have kt:∀a xs,(upd (upd H3 u (.tup (r3 (rowIn aI pl k)))) v (.tup [.int (k:Int),.ref u])) a=uA (.tup xs)->(upd (upd (upd H3 u (.tup (r3 (rowIn aI pl k)))) v (.tup [.int (k:Int),.ref u])) Y (.lst (ys++[.ref v]))) a=uA (.tup xs):=λa xs e=>by
     rw[Ah (Ck e eY2 (by intro z;cases z))];exact e
    refine⟨_,eY2,smallN (wC ly),_,_,rfl,λb o e=>?_,Ab,?_⟩
    .rw[Ah (Af e hY)]
     exact sv _ _ (su _ _ (s3 b o e))
    .rw[Uk hk,uE c']
     refine Paired.app (Paired.imp (λa b r=>(r.keeps λa xs e=>sv _ _ (su _ _ e)).keeps kt) py) (uz ⟨v,u,rfl,kt _ _ Ab,kt _ _ (sv _ _ Ab)⟩)
   .have c':¬ tieOf aI k=t:=λe=>c (uF (by show V.int ((tieOf aI k:Nat):Int)=V.int (t:Int);rw[e]))
    refine⟨_,_,rfl,s3,eY,?_⟩;rw[Uk hk,uD c',B3];exact py
  .rintro τ H3 ⟨kv,ys,rfl,s3,eY,py⟩
   have rcl:(iN rc).length=rc.length:=AB ..;rw[rcl] at py;have ll:=rl t rc.length;have ly:ys.length<=4100:=by rw[<- AZ py];exact ll
   refine⟨_,rfl,Y,rfl,⟨_,ut eY⟩,λZ hZ=>?_⟩;refine DR (K:=K) (a:=Y) (xs:=ys) (λj τ H4=>∃(o1 o2:Option V) (zs:List V),τ=[o1,o2]/\Same H3 H4/\H4 Z=uA (.lst zs)/\A1 (RowR H4) (sel aI pl (lay aI t rc rc.length) j) zs)
    ⟨uB,uB,[],rfl,u4 hZ _,Ab,.nil⟩ (λj τ H4 _ ⟨_,_,_,_,s4,_⟩=>s4.seq (ut eY)) ?_ ?_
   .rintro j x τ H4 hx ⟨o1,o2,zs,rfl,s4,eZ,pz⟩
    obtain⟨k,hk,u,b,rfl,hu,hb⟩:=Paired.get py hx;have hu4:=s4 _ _ hu;have qL:=s4 _ _ hb;refine⟨u,_,rfl,uu hu4,rfl,_,_,rfl,_,_,rfl,rfl,?_⟩;refine⟨_,rfl,b,_,_,_,rfl,rfl,uu qL,at2,rfl,_,rfl,?_⟩;have zl:zs.length<=4100:=by rw[<- AZ pz];exact BY (XF _ _ _ _) ll
    refine ite2 (λc=>?_) (λc=>?_)
    .have c':(rowIn aI pl k).2.2≠0:=λe=>by
      rw[e] at c;exact uI c (by decide)
     refine⟨_,rfl,_,eZ,smallN (wC zl),_,_,_,rfl,λb o e=>?_,Ab,?_⟩
     .rw[Ah (Af e hZ)]
      exact s4 b o e
     .rw[Rg hk,uE c']
      have kz:∀a xs,H4 a=uA (.tup xs)->(upd H4 Z (.lst (zs++[.ref b]))) a=uA (.tup xs):=λa xs e=>by rw[Ah (Ck e eZ (by intro z;cases z))];exact e
      exact Paired.app (Paired.imp (λa b r=>r.keeps kz) pz) (uz ⟨b,rfl,kz _ _ qL⟩)
    .have c':(rowIn aI pl k).2.2=0:=by
      rcases S7 (rowIn aI pl k).2.2 with e| e
      .exact e
      .exact uI (by rw[uG (λz=>by injection z with z;lia)];rfl) c
     refine⟨_,_,_,rfl,s4,eZ,?_⟩;rw[Rg hk,uD (λz=>z c'),B3];exact pz
   .rintro τ H4 ⟨o1,o2,zs,rfl,s4,eZ,pz⟩
    rw[<- AZ py] at pz;have zl:(sel aI pl (lay aI t rc rc.length) (lay aI t rc rc.length).length).length<=4100:=BY (XF _ _ _ _) ll;refine⟨Z,zs,(sel aI pl (lay aI t rc rc.length) (lay aI t rc rc.length).length).map r3i,rfl,.inl (ut eZ),LQ (Paired.imp (λr v ⟨b,e,hb⟩=>by rw[e];exact Gy (ns:=r3i r) hb) pz),λms nd hm=>?_,λS pN ms hS so mem pr pw=>?_⟩
    .obtain⟨new,rfl⟩:=Je ms λm fg=>by
      obtain⟨r',_,e⟩:=BD.mp (hm m fg);exact⟨r',e.symm⟩
     rw[AB];refine fw.sel kp cl ok tlt par new ((C9.mp nd).imp λh e=>h (by rw[e])) λr hr=>?_;obtain⟨r',h1,h2⟩:=BD.mp (hm _ (G7 hr));rw[KJ h2] at h1;obtain⟨k,h1,h2,h3⟩:=Qa.mp h1;obtain⟨h4,h5⟩:=Ik.mp h1;exact⟨k,h4,h5,h2,h3⟩
    obtain⟨new,rfl⟩:=Je ms λm hm=>by
     obtain⟨r',_,e⟩:=BD.mp ((mem m).mp hm);exact⟨r',e.symm⟩
    have nd:=Za so;have sY:∀r∈new,r∈sel aI pl (lay aI t rc rc.length) (lay aI t rc rc.length).length:=λr hr=>by
     obtain⟨r',h1,h2⟩:=BD.mp ((mem (r3i r)).mp (G7 hr));rw[<- KJ h2];exact h1
    have hw:∀r,r∈new->∃k,k∈rc/\tieOf aI k=t/\r=rowIn aI pl k/\r.2.2≠0:=λr hr=>by
     obtain⟨k,h1,h2,h3⟩:=Qa.mp (sY r hr);obtain⟨h4,h5⟩:=Ik.mp h1;exact⟨k,h4,h5,h2,h3⟩
    have hw2:∀k∈rc,tieOf aI k=t->(rowIn aI pl k).2.2≠0->rowIn aI pl k∈new:=λk hk hkt w0=>by
     have h0:r3i (rowIn aI pl k)∈new.map r3i:=(mem _).mpr (G7 (Qa.mpr ⟨k,Ik.mpr ⟨hk,hkt⟩,rfl,w0⟩));obtain⟨r',h1,h2⟩:=BD.mp h0;rw[<- KJ h2];exact h1
    have newl:new.length<=300:=fw.sel kp cl ok tlt par new nd hw;have ly':pN.length=new.length:=by rw[<- AZ pr,AB]
    have sS:=u4 hS (.lst pN);have qE:=sS _ _ (s4 _ _ (s3 _ _ eN2));have se:=sS _ _ (s4 _ _ (s3 _ _ qt));have oq:=sS _ _ (s4 _ _ (s3 _ _ qI));have eY4:=sS _ _ (s4 _ _ eY);have SN:S≠N:=Ck (show(upd H4 S (.lst pN)) S=uA (.lst pN) from Ab) qE (by intro z;cases z);refine⟨S,rfl,⟨_,ut Ab⟩,?_⟩;refine FN (K:=K) (a:=S) (xs:=pN) (λj σ H5=>∃o8:Option V,σ=[uA (.int n),uA (.ref l),uA (.int top),uA (.ref R),uA (.ref N),uA (.ref D),uA (.int t),uA (.ref Y),o8,o9]/\(∀b o,b≠N->(upd H4 S (.lst pN)) b=uA o->H5 b=uA o) /\
      H5 N=uA (.dT (numKV 2 (aT++new.take j)))) ⟨o8,rfl,λb o _ e=>e,by rw[NG,B3];exact qE⟩ (λj σ H5 _ ⟨_,_,k5,_⟩=>ut (k5 _ _ SN Ab)) ?_ ?_
    .rintro j x σ H5 hx ⟨o8,rfl,k5,eN5⟩
     obtain⟨m,hm,i',hi1,ls⟩:=Paired.get pw hx;obtain⟨r,hr,rfl⟩:∃r,new[j]?=uA r/\m=r3i r:=by
      rw[AY] at hm;cases g:new[j]? with
      | none=>rw[g] at hm;cases hm
      | some r=>rw[g] at hm;cases hm;exact⟨r,rfl,rfl⟩
     obtain⟨r',hr',b,rfl,hb⟩:=Paired.get pz ls;have er:r'=r:=by
      rw[AY,hr'] at hi1;exact KJ (BO hi1)
     subst er;have bN:b≠N:=Ck (sS _ _ hb) qE (by intro z;cases z);have hb5:=k5 _ _ bN (sS _ _ hb);have rn:r'∉aT++new.take j:=λhm=>by
      rcases B8.mp hm with hm| hm
      .have:=kp.base.ge r' hm
       obtain⟨k,_,h5,h2,_⟩:=hw r' (BI hr);rw[h2] at this;have e:(rowIn aI pl k).1=tieOf aI k:=rfl;lia
      .obtain⟨j',dq⟩:=FV.mp hm
       rw[List.getElem?_take] at dq;split at dq
       .have:=(LW (AO.mp dq).1 nd).mp (dq.trans hr.symm)
        lia
       .cases dq
     have nl2:(aT++new.take j).length<=300*13:=by
      rw[BN,B7];lia
     refine⟨_,rfl,N,_,rfl,eN5,_,_,rfl,rfl,_,rfl,_,rfl,N,_,rfl,.inr ⟨_,ik3 r',b,eN5,rfl,hb5,by rw[Jg];exact smallN (by lia),rfl⟩,?_⟩;refine⟨_,rfl,λb o hb e=>by rw[Ah hb];exact k5 b o hb e,?_⟩;rw[Ab,Zw rn,CC,hr];rw[B9];rfl
    .rintro σ H5 ⟨o8,rfl,k5,eN5⟩
     rw[ly',CO] at eN5;have DN:D≠N:=Ck se qE (by intro z;cases z);have RN4:R≠N:=Ck oq qE (by intro z;cases z);have YN:Y≠N:=Ck eY4 qE (by intro z;cases z);have qf:=k5 _ _ DN se;have oj:=k5 _ _ RN4 oq;have eY5:=k5 _ _ YN eY4;have YD:Y≠D:=Ck eY5 qf (by intro z;cases z);refine⟨_,rfl,Y,rfl,⟨_,ut eY5⟩,?_⟩;refine FN (K:=K) (a:=Y) (xs:=ys) (λj σ H6=>∃(o8 o9:Option V) (ce:List (Key×V)),σ=[uA (.int n),uA (.ref l),uA (.int top),uA (.ref R),uA (.ref N),uA (.ref D),uA (.int t),uA (.ref Y),o8,o9]/\(∀b o,b≠D->H5 b=uA o->H6 b=uA o) /\
       H6 D=uA (.dK ce)/\PlD ce (plOf pl (placeOf aI pl (aT++new)) ((lay aI t rc rc.length).take j))/\ce.length<=bb.length+j) ⟨o8,o9,bb,rfl,λb o _ e=>e,qf,?_,uS⟩ (λj σ H6 _ ⟨_,_,_,_,k6,_⟩=>ut (k6 _ _ YD eY5)) ?_ ?_
     .intro k
      rw[pd k];unfold plOf;rw[uD (by simp)]
     .rintro j x σ H6 hx ⟨o8,o9,ce,rfl,k6,ot,pd6,kl6⟩
      obtain⟨k,hk,u,b,rfl,hu,hb⟩:=Paired.get py hx;have up:∀a xs,H3 a=uA (.tup xs)->H6 a=uA (.tup xs):=λa xs e=>by
       have e4:=sS _ _ (s4 _ _ e);have e5:=k5 _ _ (Ck e4 qE (by intro z;cases z)) e4;exact k6 _ _ (Ck e5 qf (by intro z;cases z)) e5
      have eN6:=k6 _ _ (CF DN) eN5;have jl:j<ys.length:=(AO.mp hx).1;refine⟨u,_,rfl,uu (up _ _ hu),rfl,_,_,rfl,_,_,rfl,rfl,?_⟩;refine⟨_,rfl,N,rfl,.inr ⟨_,.inl eN6⟩,_,rfl,_,rfl,b,_,_,_,rfl,rfl,uu (up _ _ hb),at1,_,um (k:=ik3 (rowIn aI pl k)) eN6 (up _ _ hb),?_⟩;refine⟨_,rfl,_,rfl,D,_,rfl,.inl ⟨ce,FO (k:Int),ot,rfl,smallN (by lia),rfl⟩,?_⟩;have ev:(valV (numKV 2 (aT++new)) (ik3 (rowIn aI pl k))).getD (V.int ((rowIn aI pl k).2.1:Nat))=V.int ((placeOf aI pl (aT++new) k:Nat):Int):=by
       rw[Jd];unfold placeOf;cases numOf 2 (aT++new) (rowIn aI pl k)<;>rfl
      rw[ev];refine⟨_,_,_,rfl,λb o hb e=>by rw[Ah hb];exact k6 b o hb e,Ab,?_,by have:=Ca ce (FO (k:Int)) (V.int ((placeOf aI pl (aT++new) k:Nat):Int));lia⟩;rw[CC,hk];exact PlD.put pd6
     .rintro σ H6 ⟨o8,o9,ce,rfl,k6,ot,pd6,kl6⟩
      rw[<- AZ py,CO] at pd6;refine⟨aT++new,ce,_,_,_,_,_,rfl,λb o e=>?_,k6 _ _ (Ck oj qf (by intro z;cases z)) oj,k6 _ _ (CF DN) eN5,ot,pd6,?_,by rw[BN];lia,by lia,λt1=>?_⟩
      .have e4:=sS _ _ (s4 _ _ (s3 _ _ (sm b o e)))
       exact k6 _ _ (Af e nD) (k5 _ _ (Af e nN) e4)
      .rw[tn']
       refine kp.step cl ok tlt hw nd hw2 (AFJ so hw) (λk hk=>?_) (λk hk ht=>?_)
       .unfold plOf
        rw[uD (λz=>by
         obtain⟨z1,z2⟩:=Ik.mp z;rcases hk with hk| hk
         .exact hk z1
         .exact hk z2)]
       .refine⟨placeOf aI pl (aT++new) k,by unfold plOf;rw[uE (Ik.mpr ⟨hk,ht⟩)],?_⟩
        unfold placeOf;cases g:numOf 2 (aT++new) (rowIn aI pl k) with
        | some m =>
         obtain⟨j,h1,h2⟩:=MJ _ _ _ _ g;exact .inl ⟨j,h1,by show m=j+2;lia⟩
        | none=>exact .inr ⟨MN _ _ _ g,rfl⟩
      .rw[CD,BN]
       by_cases c:t1=t
       .rw[P7.mpr λr hr z=>by
         have:=kp.base.ge r hr;have:=uH z;lia]
        have:=CH (λr:Row=>decide (r.1=t1)) new;simp only[IY];exact x6 this newl
       .rw[P7 (l:=new)|>.mpr λr hr z=>by
         obtain⟨k,_,h5,h2,_⟩:=hw r hr;have:=uH z;rw[h2] at this;have e:(rowIn aI pl k).1=tieOf aI k:=rfl;lia]
        exact cn t1
 .rintro σ H2 ⟨aT,bb,pl,o6,o7,o8,o9,rfl,sm,qI,eN2,qt,pd,kp,nl,kl,cn⟩
  have e0:n-((n:Int)-1 - -1).toNat=0:=by lia
  rw[e0] at kp;have ht:∃p:Nat,pl top=uA p:=by
   rcases tr with h| h
   .have:top=0\/top=1:=v9 h
    rcases this with rfl| rfl
    .exact⟨0,kp.base.z⟩
    .exact⟨1,kp.base.o⟩
   .obtain⟨p,hp,_⟩:=kp.base.has top h (A7 _)
    exact⟨p,hp⟩
  obtain⟨hd,ehd⟩:=ht;refine⟨_,rfl,_,rfl,N,_,rfl,eN2,λA0 ys hA kL=>?_⟩;have sA:=u4 hA (.lst ys);refine⟨_,rfl,_,rfl,D,.int hd,rfl,?_,?_⟩
  .have:=DGet.k (k:=.inl (top:Int)) (sA _ _ qt)
   rw[pd top,ehd] at this;exact this
  .intro x dx hx hdx ne
   have qP:(upd (upd H2 A0 (.lst ys)) dx (.own x)) x=uB:=by rw[Ah (CF ne)];exact hx
   have s4:=(u4 hdx (.own x)).trans (u4 qP (.ins C dx []));refine⟨x,dx,A0,n,hd,ys,aT,rfl,Ab,s4.seq (ut Ab),Paired.imp (λa b r=>Ci _ _ _ _ s4.ts (Ci _ _ _ _ sA.ts r)) (Nq kL),λH' hs sv=>⟨rfl,q x aT hd H' (λb o e=>?_) sv (kp.canon cl ok tr ehd par).1 (kp.canon cl ok tr ehd par).2 ⟨by lia,AAZ kp cl,cn⟩⟩⟩;have e1:=s4 _ _ (sA _ _ (sm b o e));refine hs b o e1 λz=>?_;rw[z] at e;have:=sA _ _ (sm _ o e);rw[hx] at this;cases this
theorem tsX{R:Addr}(e:∀b o,b≠R->H b=uA o->H' b=uA o)(hR:H R=uA (.lst xs)):TSm H H':=λb u hb t=>e b u (λz=>by
 subst z;rw[hR] at hb;cases hb;obtain⟨ys,e| ⟨o,e⟩⟩:=t
 .cases e
 .cases e) hb
theorem take_snoc{l:List α}{x:α}(h:l[i]?=uA x):l.take (i+1)=l.take i++[x]:=by rw[CC,h];rfl
theorem AEe(z:Int)(j:Addr)(h:Int){m:Str}(h1:¬ m = "head")(h2:¬ m = "rows")(h3:¬ m = "amount"):(flds z j h).lookup m=uB:=by
 unfold flds;rw[Aj,uD h1,Aj,uD h2,Aj,uD h3]
 all_goals rfl
theorem AAg(hK:X.K=K):OpR X (Hb .Add) (rAddT K):=by subst hK;exact YH
theorem AEI{aI:List Row}(o:Ok n aI)(j:Nat):Ok n (aI.take j):=λi q e=>by
 have il:=(AO.mp e).1;have ij:i<j:=by rw[B7] at il;exact v5 il
 obtain⟨h1,h2,h3⟩:=o i q (by rw[F5 ij] at e;exact e);have low:∀l,Low aI q.1 (i+2) l->Low (aI.take j) q.1 (i+2) l:=λl ⟨a,b⟩=>⟨a,b.imp id λ⟨u,e,z⟩=>⟨u,by rw[F5 (by lia)];exact e,z⟩⟩;exact⟨h1,low _ h2,low _ h3⟩
theorem Xv{aI:List Row}{k:Nat}(I:InOrder n aI k L):L.length<=2 ^ n:=by
 have h:(L.map (num n)).Pairwise (· < ·):=by rw[C9];exact I.ord
 have z:=ST.Bk (l₁:=L.map (num n)) (l₂:=AK (2 ^ n)) (h.imp λ{a b} h=>BH h) λx hx=>by
  obtain⟨s,hs,rfl⟩:=BD.mp hx;obtain⟨w1,w2⟩:=I.way s hs;have:=Vr (n:=n) (t:=0) w1 λx hx=>⟨A7 _,(w2 x hx).2⟩;exact AN.mpr this
 rw[AB,A9] at z;exact z
theorem AEj{s:uL}(h:s.Pairwise (· < ·))(hs:∀x∈s,x<n):s.length<=n:=by
 have z:=ST.Bk (l₁:=s) (l₂:=AK n) (h.imp λ{a b} h=>BH h) λx hx=>AN.mpr (hs x hx);rw[A9] at z;exact z
theorem pow12(h:n<=12):2 ^ n<=4096:=Kn (by decide) h
def rTies(K:Au)(H:Hp)(s:uL)(v:V):Prop:=∃p,v=.ref p/\H p=uA (.tup ((up s).map V.int))
theorem HY{ss:List uL}(t:TSm H H')(h:A1 (rTies K H) ss ys):A1 (rTies K H') ss ys:=Paired.imp (λ_ _ ⟨p,e,hp⟩=>⟨p,e,t p _ hp ⟨_,.inl rfl⟩⟩) h
def rSets(K:Au)(H0:Hp)(S:Addr)(H:Hp)(ss:List uL)(v:V):Prop:=∃p ys,v=.ref p/\H0 p=uB/\p≠S/\H p=uA (.lst ys)/\A1 (rTies K H) ss ys
theorem Od{ss:List uL}(e:∀b o,b≠S->H b=uA o->H' b=uA o)(hS:H S=uA (.lst xs))(h:rSets K H0 S H ss v):rSets K H0 S H' ss v:=by
 obtain⟨p,ys,rfl,h0,ne,hp,pr⟩:=h;exact⟨p,ys,rfl,h0,ne,e _ _ ne hp,HY (tsX e hS) pr⟩
def ABH(K:Au)(C:Addr):Sp:=λvs H Q _=>∃(p:Addr) (n hd:Nat) (aI:List Row),vs=[.ref p]/\SvAt K C H p n aI hd/\Ok n aI/\Knot aI hd/\n<=12/\aI.length<=4000 /\
 ∀(L:Addr) (ys:List V) (H':Hp),Same H H'->H L=none->H' L=uA (.lst ys)->A1 (rTies K H') (setsOf aI hd) ys->Q (.ref L) H'
theorem Wh:FnScope ["sieve","sets","row"] ["sieve"] (Ai XM):=fscp (by decide+kernel)
theorem AEa(F:Fun K "sets_of" "sets_of" XM f fd)(T:Txt K mg C)
  (GK:FnOk P w K mg base CX0 1 fK pT zl3 (RZ K C)) (bK:Binds K pT zl3 []) (mK:Meth K C "knots" fK)
  (GT:FnOk P w K mg base CX0 1 fT eK zl3 (ACJ K C)) (bT:Binds K eK zl3 []) (mT:Meth K C "top" fT) :
  FnOk P w K mg base CX0 2 f fd ["sieve"] (ABH K C):=by
 refine F.ok Wh (λvs H Q E h=>?_) (λbE A outer s H vs Q E hr h=>?_)
 .obtain⟨p,n,hd,aI,rfl,_⟩:=h
  rfl
 obtain⟨p,n,hd,aI,rfl,hV,ok,kn,n12,r9,q⟩:=h;have cS:Room 1 _:=hr.mono (by decide);refine⟨_,Ae (Am (i:=1) Wh.nd (Cv (Aa (Cv Ad) (Aa (Cv (Aa (Bw Ad) Ad)) Ad))))
  (Ae (Dq DZ rfl (Cw (Cm (pv 0) T.cl mK GK cS bK .nil pass0)) (Bu (i:=2) Wh.nd)
   (Ak (Fw (PK Fu F9 Go Ec (pv 1) (Aa (Aw YL (Aq Bf (pv 1) (Aq Ay (pv 2) Ag))
    (Ce (Ai XM) ["some"] ["row"] [2] rfl rfl (by decide+kernel) ⟨⟨rfl,by decide+kernel⟩,trivial⟩ (Cw (Aq Bf (pv 1) (Aq Ay (pv 2) Ag)))
     (λ_ _ _=>BJ (i:=0)) (λ_ _ _=>Cr)
     (λ_ _ _=>Aw (AAg (K:=K) rfl) (Bw (Aa (Aq (Qm (K:=K) rfl) (pv 1) Ag) Ad)) (pv 0)))) Ad)))))
  (Ak (Av (Aq Bf (pv 1) (Cm (pv 0) T.cl mT GT cS bT .nil pass0))))),?_⟩
 obtain⟨dx,jj,hp,_⟩:=id hV;refine⟨A7 _,λL0 ky=>⟨A7 _,λT0 hT0=>⟨(by show 1<=sizeLine;decide),λL1 tM=>⟨(by show 2<=sizeLine;decide),λS hS=>?_⟩⟩⟩⟩;have sA:=u4 ky (.lst []);have sB:=u4 hT0 (.tup []);have sC:=u4 tM (.lst [.ref T0]);have sD:=u4 hS (.lst [.ref L0,.ref L1]);have s0:=sA.trans (sB.trans (sC.trans sD));have hSn:H S=uB:=by
  rcases h:H S with _| o
  .rfl
  .rw[(sA.trans (sB.trans sC)) _ _ h] at hS
   cases hS
 have n1:H L1=uB:=by
  rcases h:H L1 with _| o
  .rfl
  .rw[(sA.trans sB) _ _ h] at tM
   cases tM
 have e0:=(sB.trans (sC.trans sD)) _ _ (Ab (H:=H) (a:=L0) (o:=.lst []));have eT:=(sC.trans sD) _ _ (Ab (H:=upd H L0 (.lst [])) (a:=T0) (o:=.tup []));have e1:=sD _ _ (Ab (H:=upd (upd H L0 (.lst [])) T0 (.tup [])) (a:=L1) (o:=.lst [.ref T0]));have eS:(upd (upd (upd (upd H L0 (.lst [])) T0 (.tup [])) L1 (.lst [.ref T0])) S (.lst [.ref L0,.ref L1])) S=uA (.lst [.ref L0,.ref L1]):=Ab;have neS0:=Af ((sB.trans sC) _ _ (Ab (H:=H) (a:=L0) (o:=.lst []))) hS;have neS1:=Af (Ab (H:=upd (upd H L0 (.lst [])) T0 (.tup [])) (a:=L1) (o:=.lst [.ref T0])) hS;generalize upd (upd (upd (upd H L0 (.lst [])) T0 (.tup [])) L1 (.lst [.ref T0])) S (.lst [.ref L0,.ref L1])=H1 at s0 e0 eT e1 eS;refine⟨_,rfl,p,dx,_,rfl,s0 _ _ hp,rfl,p,n,hd,aI,rfl,hV.same s0,λl ys H2 s2 hl el px=>?_⟩;have lS:l≠S:=λe=>by
  rw[e,eS] at hl;cases hl
 have lx:=AZ px;refine⟨l,rfl,⟨_,ut el⟩,?_⟩;refine FN (K:=K) (a:=l) (xs:=ys) (λi σ H3=>∃(o:Option V) (xs:List V),σ=[uA (.ref p),uA (.ref S),o]/\(∀b u,b≠S->H2 b=uA u->H3 b=uA u)/\H3 S=uA (.lst xs)/\A1 (rSets K H S H3) (setsUp (aI.take i)) xs)
  ⟨uB,_,rfl,λb u _ e=>e,s2 _ _ eS,?_⟩ (λi σ H3 _ ⟨_,_,_,sm,_,_⟩=>ut (sm _ _ lS el)) ?_ ?_
 .exact .cons ⟨L0,[],rfl,ky,neS0,s2 _ _ e0,.nil⟩ (.cons ⟨L1,[.ref T0],rfl,n1,neS1,s2 _ _ e1,uz ⟨T0,rfl,s2 _ _ eT⟩⟩ .nil)
 .rintro i x σ H3 hx ⟨o,xs,rfl,sm,eS3,pS⟩
  have il:i<aI.length:=by rw[lx];exact(AO.mp hx).1
  obtain⟨r,hr',b,rfl,hb⟩:=Paired.get px hx;have gg:=(tsX sm (s2 _ _ eS)).seq hb;have okt:=AEI ok i;have lt:(aI.take i).length=i:=by rw[B7];exact x8 il
  obtain⟨t1,lo1,lo2⟩:=ok i r hr';have kno:Knot (aI.take i) r.2.1:=by
   have:=lo1.1;show r.2.1<_;rw[lt];exact this
  have kni:Knot (aI.take i) r.2.2:=by
   have:=lo2.1;show r.2.2<_;rw[lt];exact this
  have IO:=Ge _ _ rfl okt _ kno;have II:=Ge _ _ rfl okt _ kni;have lO:=Xv IO;have lI:=Xv II;have p12:=pow12 n12;have lxs:=AZ pS;rw[Cz,lt] at lxs;have at_:∀k,Knot (aI.take i) k->∃v,xs[k]?=uA v/\rSets K H S H3 (setsOf (aI.take i) k) v:=λk hk=>by
   have kl:k<(setsUp (aI.take i)).length:=by rw[Cz];exact hk
   obtain⟨v,h1,h2⟩:=uj pS (AG kl);refine⟨v,h1,?_⟩;unfold setsOf;rw[AD,AG kl];exact h2
  obtain⟨_,hvo,Lo,yo,rfl,o0,oS,eo,po⟩:=at_ _ kno;obtain⟨_,sO,Li,yi,rfl,i0,iS,ei,pi_⟩:=at_ _ kni;have lyo:=AZ po;have lyi:=AZ pi_;refine⟨_,rfl,.inl ⟨rfl,_,ut eS3⟩,_,rfl,_,rfl,b,_,_,_,rfl,rfl,gg,at1,S,_,_,_,rfl,rfl,ut eS3,Bg hvo,?_⟩;refine⟨_,rfl,_,rfl,b,_,_,_,rfl,rfl,gg,at2,S,_,_,_,rfl,rfl,ut eS3,Bg sO,Li,rfl,⟨_,ut ei⟩,λD hD=>?_⟩;refine DR (K:=K) (a:=Li) (xs:=yi) (λj τ H4=>∃(o:Option V) (zs:List V),τ=[o,uA (.ref b)]/\Same H3 H4/\H4 D=uA (.lst zs)/\A1 (rTies K H4) (((setsOf (aI.take i) r.2.2).take j).map (r.1::·)) zs) ⟨uB,[],rfl,u4 hD _,Ab,.nil⟩ (λj τ H4 _ ⟨_,_,_,s3,_⟩=>s3.seq (ut ei)) ?_ ?_
  .rintro j y τ H4 hy ⟨o,zs,rfl,s4,eD,pz⟩
   obtain⟨u,hu,ru⟩:=Paired.get pi_ hy;have jl:=(AO.mp hu).1;obtain⟨w1,w2⟩:=II.way u (BI hu);have ul:=AEj w1 λx hx=>(w2 x hx).2;obtain⟨c,rfl,hc0⟩:=ru;have hc:SqT K H4 c ((up u).map V.int):=uu (s4 _ _ hc0);have qL:=s4.ts.seq gg;have lz:=AZ pz;rw[AB,B7] at lz;refine⟨_,rfl,b,_,_,_,rfl,rfl,qL,at0,(by show 1<=sizeLine;decide),λT1 fm=>?_⟩;have s5:=u4 fm (.tup [.int (r.1:Int)]);have hc5:=s5.ts.seq hc;have eT1:(upd H4 T1 (.tup [.int (r.1:Int)])) T1=uA (.tup [.int (r.1:Int)]):=Ab;have fin:∀(c2:Addr) (H6:Hp),Same H4 H6->H6 c2=uA (.tup ((up (r.1::u)).map V.int))->∃ys,H6 D=uA (.lst ys)/\ys.length<sizeLine/\∃(o:Option V) (zs:List V),[uA (V.ref c),uA (V.ref b)]=[o,uA (V.ref b)]/\Same H3 (upd H6 D (.lst (ys++[.ref c2])))/\(upd H6 D (.lst (ys++[.ref c2]))) D=uA (.lst zs)/\A1 (rTies K (upd H6 D (.lst (ys++[.ref c2])))) (((setsOf (aI.take i) r.2.2).take (j+1)).map (r.1::·)) zs:=λc2 H6 s6 h6=>by
    have ot:=s6 _ _ eD;have tl:=u3 (o:=.lst (zs++[.ref c2])) ot;refine⟨zs,ot,EL (show zs.length<=4096 by lia) (by decide),_,_,rfl,λb' o' e'=>?_,Ab,?_⟩
    .rw[Ah (Af e' hD)]
     exact s6 _ _ (s4 b' o' e')
    .rw[take_snoc hu,BE]
     exact Paired.app (HY tl (HY s6.ts pz)) (uz (⟨c2,rfl,tl _ _ h6 ⟨_,.inl rfl⟩⟩))
   refine⟨_,rfl,T1,c,_,_,rfl,rfl,uu eT1,hc5,BY (show _<=100000 by rw[AB];unfold up;rw[AB];show 1+_<=100000;lia) (by decide),λz=>(by cases z),λ_ z=>?_,λ_ z T2 qj=>?_⟩
   .have u0:u=[]:=by
     cases u with
     | nil=>rfl
     | cons a t=>cases z
    subst u0;exact fin T1 _ s5 eT1
   .exact fin T2 _ (s5.trans (u4 qj _)) Ab
  .rintro τ H4 ⟨o,zs,rfl,s4,eD,pz⟩
   have lz:=AZ pz;rw[<- lyi,CO] at pz lz;rw[AB] at lz;refine⟨Lo,D,_,_,rfl,rfl,ut (s4 _ _ eo),ut eD,BY (show _<=8192 by lia) (by decide),λN hN=>?_⟩;have s5:=u4 hN (.lst (yo++zs));have s6:=s4.trans s5;have eS6:=s6 _ _ eS3;have neN:N≠S:=λe=>by
    rw[e,s4 _ _ eS3] at hN;cases hN
   have hN0:H N=uB:=by
    rcases h:H N with _| u
    .rfl
    .have h2:=s2 _ _ (s0 _ _ h)
     rw[s4 _ _ (sm _ _ neN h2)] at hN;cases hN
   refine⟨S,xs,_,rfl,rfl,eS6,EL (show xs.length<=100000 by lia) (by decide),?_⟩;have k7:∀b u,b≠S->upd H4 N (.lst (yo++zs)) b=uA u->upd (upd H4 N (.lst (yo++zs))) S (.lst (xs++[.ref N])) b=uA u:=λb u ne e=>by rw[Ah ne];exact e
   refine⟨_,_,rfl,λb u ne e=>k7 _ _ ne (s6 _ _ (sm b u ne e)),Ab,?_⟩;rw[take_snoc hr',Gg];unfold addRow;refine Paired.app (Paired.imp (λa v h=>Od k7 eS6 (Od (λb u _ e=>s6 b u e) eS3 h)) pS) (uz ⟨N,_,rfl,hN0,neN,k7 _ _ neN Ab,?_⟩);have t7:=tsX k7 eS6;exact HY t7 (HY s5.ts (Paired.app (HY s4.ts po) pz))
 .rintro σ H3 ⟨o,xs,rfl,sm,eS3,pS⟩
  have tr:aI.take ys.length=aI:=by rw[<- lx,CO]
  rw[tr] at pS;have hV3:SvAt K C H3 p n aI hd:=by
   refine SvAt.same hV λb u e=>sm b u (Af e hSn) (s2 _ _ (s0 b u e))
  have sH:Same H H3:=λb u e=>sm b u (Af e hSn) (s2 _ _ (s0 b u e));refine⟨_,rfl,_,rfl,p,dx,_,rfl,sH _ _ hp,rfl,p,n,hd,aI,rfl,hV3,?_⟩;have kl:hd<(setsUp aI).length:=by rw[Cz];exact kn
  obtain⟨v,h1,L,zs,rfl,L0',LS,eL,pL⟩:=uj pS (AG kl);refine⟨S,_,_,_,rfl,rfl,ut eS3,Bg h1,q L zs H3 sH L0' eL ?_⟩;unfold setsOf;rw[AD,AG kl];exact pL
end K45s
namespace G
noncomputable def restW(st:StO)(p:Nat):uL:=(AK st.length).filter λq=>decide (st.getD q uB=st.getD p uB/\q≠p)
noncomputable def dropW(st:StO)(p:Nat):StO:=((AK st.length).map λq=>if q∈restW st p then uA (((restW st p).headD 0:Nat):Int) else st.getD q uB).set p uB
noncomputable def joinW(st:StO)(i j:Int):StO:=st.map λh=>if h=uA i\/h=uA j then uA (min i j) else h
noncomputable def takeW(st:StO)(a b:Nat):Option StO:=if st.getD a uB=st.getD b uB then uB else match st.getD a uB,st.getD b uB with
 | some i,uA j=>uA (joinW st i j)
 | _,_=>uB
noncomputable def mergeL(lab:Nat->Int)(a b:Nat):Nat->Int:=λq=>if lab q=max (lab a) (lab b) then min (lab a) (lab b) else lab q
structure WdR(z:Nat)(U:Nat->Prop)(st:StO)(lab:Nat->Int):Prop where
 len:st.length=z
 hd:∀p,p<z->U p->∃h:Nat,st.getD p uB=uA (h:Int)/\h<z/\st.getD h uB=uA (h:Int)
 no:∀p,p<z->¬ U p->st.getD p uB=uB
 eq:∀p q,p<z->q<z->U p->U q->(st.getD p uB=st.getD q uB↔lab p=lab q)
theorem Bo{st:StO}{p:Nat}:q∈restW st p↔q<st.length/\st.getD q uB=st.getD p uB/\q≠p:=by
 unfold restW;rw[B0,AN,decide_eq_true_iff]
theorem Eb{f:Nat->Option Int}(h:q<z):((AK z).map f).getD q uB=f q:=by
 rw[AD,AY,EF h];rfl
theorem NT(st:StO)(p:Nat):(dropW st p).length=st.length:=by
 unfold dropW;rw[IZ,AB,A9]
theorem Fe{st:StO}{p:Nat}(hq:q<st.length):(dropW st p).getD q uB=if q=p then uB else if q∈restW st p then uA (((restW st p).headD 0:Nat):Int) else st.getD q uB:=by
 unfold dropW;by_cases c:q=p
 .subst c
  rw[Wf,uE (by rw[AB,A9];exact hq),uE rfl]
 .rw[AAe _ _ _ _ c,Eb hq,uD c]
theorem head_mem{l:uL}{x:Nat}(h:x∈l):l.headD 0∈l:=by
 cases l with
 | nil=>cases h
 | cons y l=>exact AI
theorem WdR.drop{st:StO}{p:Nat}(W:WdR z U st lab)(pz:p<z)(up:U p):WdR z (λq=>U q/\q≠p) (dropW st p) lab:=by
 have L:=W.len;obtain⟨hp,ep,hpz,ehp⟩:=W.hd p pz up;have inU:∀q,q<z->st.getD q uB≠none->¬ ¬ U q:=λq qz h n=>h (W.no q qz n);have inR:∀q,q∈restW st p->(dropW st p).getD q uB=uA (((restW st p).headD 0:Nat):Int):=λq hq=>by
  obtain⟨h1,_,h3⟩:=Bo.mp hq;rw[Fe h1,uD h3,uE hq]
 have g6:∀q,q<z->q≠p->q∉restW st p->(dropW st p).getD q uB=st.getD q uB:=λq qz qp hq=>by
  rw[Fe (dl qz L),uD qp,uD hq]
 have cls:∀q,q<z->q≠p->(q∈restW st p↔st.getD q uB=st.getD p uB):=λq qz qp=>by
  rw[Bo];exact⟨λh=>h.2.1,λh=>⟨dl qz L,h,qp⟩⟩
 refine⟨by rw[NT];exact L,λq qz hq=>?_,λq qz hq=>?_,λq r qz rz hq hr=>?_⟩
 .by_cases c:q∈restW st p
  .have h0:=head_mem c
   obtain⟨k1,k2,k3⟩:=Bo.mp h0;exact⟨_,inR q c,uM k1 L,inR _ h0⟩
  .obtain⟨h,e1,hz,e2⟩:=W.hd q qz hq.1
   have np:st.getD q uB≠st.getD p uB:=λe=>c ((cls q qz hq.2).mpr e);have e7:h≠p:=λe=>np (by rw[e1,<- e2,e]);have hr':h∉restW st p:=λm=>np (by rw[e1,<- e2];exact((cls h hz e7).mp m));exact⟨h,by rw[g6 q qz hq.2 c,e1],hz,by rw[g6 h hz e7 hr',e2]⟩
 .by_cases c:q=p
  .rw[Fe (by lia),uE c]
  .have nu:¬ U q:=λu=>hq ⟨u,c⟩
   have e:=W.no q qz nu;have nr:q∉restW st p:=λm=>by
    have:=(cls q qz c).mp m;rw[e,ep] at this;cases this
   rw[g6 q qz c nr,e]
 .rw[<- W.eq q r qz rz hq.1 hr.1]
  by_cases c1:q∈restW st p<;>by_cases c2:r∈restW st p
  .rw[inR q c1,inR r c2,(cls q qz hq.2).mp c1,(cls r rz hr.2).mp c2]
   exact⟨λ_=>rfl,λ_=>rfl⟩
  .have h0:=head_mem c1
   obtain⟨k1,k2,k3⟩:=Bo.mp h0;rw[inR q c1,g6 r rz hr.2 c2,(cls q qz hq.2).mp c1];obtain⟨h,e1,hz,e2⟩:=W.hd r rz hr.1;constructor
   .intro e
    rw[e1] at e;have:(restW st p).headD 0=h:=by injection e with e;exact fv e
    rw[e1,<- e2,<- this,k2]
   .intro e
    exact uI ((cls r rz hr.2).mpr e.symm) c2
  .have h0:=head_mem c2
   obtain⟨k1,k2,k3⟩:=Bo.mp h0;rw[inR r c2,g6 q qz hq.2 c1,(cls r rz hr.2).mp c2];obtain⟨h,e1,hz,e2⟩:=W.hd q qz hq.1;constructor
   .intro e
    rw[e1] at e;have:h=(restW st p).headD 0:=by injection e with e;exact fv e
    rw[e1,<- e2,this,k2]
   .intro e
    exact uI ((cls q qz hq.2).mpr e) c1
  .rw[g6 q qz hq.2 c1,g6 r rz hr.2 c2]
theorem Dn(st:StO)(i j:Int)(q:Nat):(joinW st i j).getD q uB=if st.getD q uB=uA i\/st.getD q uB=uA j then uA (min i j) else st.getD q uB:=by
 unfold joinW;rw[AD,AY,AD];cases e:st[q]? with
 | none =>
  show uB=_;rw[show(uB:Option (Option Int)).getD uB=uB from rfl,uD (by rintro(h| h)<;>cases h)]
 | some h=>rfl
theorem Iu{a b p:Nat}(h:lab p=lab a\/lab p=lab b):mergeL lab a b p=min (lab a) (lab b):=by
 unfold mergeL;split<;>lia
theorem HD{a b p:Nat}(h:¬ (lab p=lab a\/lab p=lab b)):mergeL lab a b p=lab p:=by
 unfold mergeL;rw[uD (yY h)]
theorem merge_iff{a b p:Nat}:mergeL lab a b p=mergeL lab a b q↔lab p=lab q\/((lab p=lab a\/lab p=lab b)/\(lab q=lab a\/lab q=lab b)):=by
 constructor
 .intro e
  by_cases c1:lab p=lab a\/lab p=lab b<;>by_cases c2:lab q=lab a\/lab q=lab b
  .exact .inr ⟨c1,c2⟩
  .rw[Iu c1,HD c2] at e
   lia
  .rw[HD c1,Iu c2] at e
   lia
  .rw[HD c1,HD c2] at e
   exact .inl e
 .rintro(e| ⟨c1,c2⟩)
  .unfold mergeL
   rw[e]
  .rw[Iu c1,Iu c2]
theorem WdR.join{st:StO}{a b:Nat}(W:WdR z U st lab)(az:a<z)(bz:b<z)(ua:U a)(ub:U b)(ne:lab a≠lab b) :
  ∃bh,takeW st a b=uA bh/\WdR z U bh (mergeL lab a b):=by
 obtain⟨i,ea,iz,ei⟩:=W.hd a az ua;obtain⟨j,eb,jz,ej⟩:=W.hd b bz ub;have nab:st.getD a uB≠st.getD b uB:=λe=>ne ((W.eq a b az bz ua ub).mp e);refine⟨joinW st i j,?_,?_⟩
 .unfold takeW
  rw[uD nab,ea,eb]
 have rq:∀q,q<z->U q->((st.getD q uB=uA (i:Int)\/st.getD q uB=uA (j:Int))↔(lab q=lab a\/lab q=lab b)):=λq qz uq=>by
  rw[<- ea,<- eb,W.eq q a qz az uq ua,W.eq q b qz bz uq ub]
 have mij:min (i:Int) j=(i:Int)\/min (i:Int) j=(j:Int):=by lia
 refine⟨by unfold joinW;rw[AB];exact W.len,λq qz uq=>?_,λq qz nq=>?_,λq r qz rz uq ur=>?_⟩
 .rw[Dn]
  by_cases c:st.getD q uB=uA (i:Int)\/st.getD q uB=uA (j:Int)
  .rw[uE c]
   rcases mij with m| m
   .exact⟨i,by rw[m],iz,by rw[Dn,ei,uE (.inl rfl),m]⟩
   .exact⟨j,by rw[m],jz,by rw[Dn,ej,uE (.inr rfl),m]⟩
  .rw[uD c]
   obtain⟨h,e1,hz,e2⟩:=W.hd q qz uq;exact⟨h,e1,hz,by rw[Dn,e2,<- e1,uD c]⟩
 .rw[Dn,W.no q qz nq,uD (by rintro(h| h)<;>cases h)]
 .rw[Dn,Dn]
  have Eq:=W.eq q r qz rz uq ur;have Iq:=rq q qz uq;have Ir:=rq r rz ur;rw[merge_iff];have nin:∀x,x<z->U x->¬ (st.getD x uB=uA (i:Int)\/st.getD x uB=uA (j:Int))->uA (min (i:Int) j)≠st.getD x uB:=λx xz ux n e=>n (by rcases mij with m| m<;>rw[m] at e<;>rw[<- e]<;>simp);by_cases c1:st.getD q uB=uA (i:Int)\/st.getD q uB=uA (j:Int)<;>by_cases c2:st.getD r uB=uA (i:Int)\/st.getD r uB=uA (j:Int)
  .rw[uE c1,uE c2]
   exact⟨λ_=>.inr ⟨Iq.mp c1,Ir.mp c2⟩,λ_=>rfl⟩
  .rw[uE c1,uD c2]
   exact⟨λe=>uI e (nin r rz ur c2),λh=>uI (Ir.mpr (h.elim (λh=>h ▸ Iq.mp c1) (·.2))) c2⟩
  .rw[uD c1,uE c2]
   exact⟨λe=>uI e.symm (nin q qz uq c1),λh=>uI (Iq.mpr (h.elim (λh=>h ▸ Ir.mp c2) (·.1))) c1⟩
  .rw[uD c1,uD c2,Eq]
   exact⟨.inl,λh=>h.elim id λh=>uI (Iq.mpr h.1) c1⟩
theorem WdR.congr{st:StO}(W:WdR z U st lab)(h:∀p,p<z->(U p↔U' p)):WdR z U' st lab :=
 ⟨W.len,λp pz u=>W.hd p pz ((h p pz).mpr u),λp pz u=>W.no p pz λv=>u ((h p pz).mp v),λp q pz qz u v=>W.eq p q pz qz ((h p pz).mpr u) ((h q qz).mpr v)⟩
theorem AAa(z:Nat)(L:Nat->Nat):WdR z (λp=>0<=L p) ((AK z).map λp=>uA ((p:Nat):Int)) (λp=>(p:Int)):=by
 refine⟨by rw[AB,A9],λp pz _=>⟨p,Eb pz,pz,Eb pz⟩,λp pz h=>uI (A7 _) h,λp q pz qz _ _=>?_⟩;rw[Eb pz,Eb qz];exact⟨λe=>by injection e,λe=>by rw[e]⟩
noncomputable def finL(ea eb:Nat->Nat):(Nat->Int)->uL->Nat->Int
 | lab,[]=>lab
 | lab,x::xs=>finL ea eb (mergeL lab (ea x) (eb x)) xs
theorem Ww{a b:Nat}(e:lab a=lab b):mergeL lab a b=lab:=by
 funext q
 unfold mergeL;split<;>lia
noncomputable def cntL(z:Nat)(lab:Nat->Int)(v:Int):Nat:=((AK z).filter λq=>decide (lab q=v)).length
noncomputable def prS(i j:Int):uJ:=[min i j,max i j]
theorem Uh(i j:Int):prS i j=prS j i:=by unfold prS;rw[ZA,ZB]
noncomputable def ren(o n h:Int):Int:=if h=o then n else h
noncomputable def rnP(o n:Int):uJ->uJ
 | [x,y]=>prS (ren o n x) (ren o n y)
 | t=>t
abbrev StC:=StO×uJ×uK
noncomputable def joinZ(st:StO)(sz:uJ)(i j v:Int):uJ:=(st.zip sz).map λx=>if x.1=uA i\/x.1=uA j then v else x.2
section
variable (ss:uK->uK)(lo hi:Int)
noncomputable def takeC(s:StC)(a b:Nat):Option StC:=match s.1.getD a uB,s.1.getD b uB with
 | some i,uA j=>if i=j then uA s else if prS i j∈s.2.2\/hi<s.2.1.getD (min i j).toNat 0+s.2.1.getD (max i j).toNat 0 then uB else
  some (joinW s.1 i j,joinZ s.1 s.2.1 i j (s.2.1.getD (min i j).toNat 0+s.2.1.getD (max i j).toNat 0),ss (s.2.2.map (rnP (max i j) (min i j))))
 | _,_=>uB
noncomputable def leftC(s:StC)(a b:Nat):Option StC:=match s.1.getD a uB,s.1.getD b uB with
 | some i,uA j=>if i=j then uB else uA (s.1,s.2.1,ss (s.2.2++[prS i j]))
 | _,_=>uB
noncomputable def apW(ap:uK)(p:Nat):uL->uK
 | []=>ap.filter λt=>decide ((p:Int)∉t)
 | q::_=>ss (ap.map (rnP p q))
noncomputable def passC1(s:StC)(p:Nat):Option StC:=if restW s.1 p=[]/\s.2.1.getD p 0<lo then uB else uA (dropW s.1 p,s.2.1.set p 0,apW ss s.2.2 p (restW s.1 p))
noncomputable def passC:StC->uL->Option StC
 | s,[]=>uA s
 | s,p::ps=>(passC1 ss lo s p).bind λs=>passC s ps
end
theorem filter_or{α:Type}{p q:α->Bool}:∀(l:List α),(∀x∈l,¬ (p x=true/\q x=true))->(l.filter λx=>p x||q x).length=(l.filter p).length+(l.filter q).length
 | [],_=>rfl
 | x::l,h=>by
  have ih:=filter_or l λy hy=>h y (AL _ hy);have h0:=h x AI;rw[FM,FM,FM];cases cp:p x<;>cases cq:q x<;>simp[cp,cq,ih] at h0 ⊢<;>lia
theorem JX{a b:Nat}(ne:lab a≠lab b){p:Nat}(h:lab p=lab a\/lab p=lab b):cntL z (mergeL lab a b) (mergeL lab a b p)=cntL z lab (lab a)+cntL z lab (lab b):=by
 unfold cntL;rw[<- filter_or _ λx _=>by rintro⟨h1,h2⟩;exact ne ((uH h1).symm.trans (uH h2))]
 congr 1
 refine LY λq _=>?_;rw[DV,VI,decide_eq_true_iff,decide_eq_true_iff,decide_eq_true_iff,merge_iff];exact⟨λh2=>h2.elim (λe=>by rw[e];exact h) (·.1),λh2=>.inr ⟨h2,h⟩⟩
theorem JZ{a b:Nat}{p:Nat}(h:¬ (lab p=lab a\/lab p=lab b)):cntL z (mergeL lab a b) (mergeL lab a b p)=cntL z lab (lab p):=by
 unfold cntL
 congr 1
 refine LY λq _=>?_;rw[DV,decide_eq_true_iff,decide_eq_true_iff,merge_iff];exact⟨λh2=>h2.elim id λh2=>uI h2.2 h,.inl⟩
theorem ABM{oz:Nat->Int}(h:∀p q,lab p=lab q->oz p=oz q)(p:Nat):cntL z lab (lab p)<=cntL z oz (oz p):=by
 unfold cntL;rw[<- J7,<- J7];refine List.countP_mono_left λq _ hq=>?_;exact uF (h q p (uH hq))
theorem Gb{ea eb:Nat->Nat}:∀(s:uL) (lab:Nat->Int) (p q:Nat),lab p=lab q->finL ea eb lab s p=finL ea eb lab s q
 | [],_,_,_,e=>e
 | x::s,lab,p,q,e=>Gb s _ p q (merge_iff.mpr (.inl e))
theorem Oz{ea eb:Nat->Nat}{v:Int}:∀(s:uL) (lab:Nat->Int),(∀x∈s,lab (ea x)≠v/\lab (eb x)≠v)->∀q,(finL ea eb lab s q=v↔lab q=v)
 | [],_,_,q=>Z3
 | x::s,lab,h,q=>by
  obtain⟨h1,h2⟩:=h x AI;have key:∀r,(mergeL lab (ea x) (eb x) r=v↔lab r=v):=λr=>by
   unfold mergeL;constructor
   .intro e
    split at e
    ·lia
    .exact e
   .intro e
    rw[uD (by lia)];exact e
  show finL ea eb (mergeL lab (ea x) (eb x)) s q=v↔_;rw[Oz s _ (λy hy=>by
   obtain⟨a,b⟩:=h y (AL _ hy);exact⟨λe=>a ((key _).mp e),λe=>b ((key _).mp e)⟩) q]
  exact key q
structure CrR(z:Nat)(U:Nat->Prop)(ea eb:Nat->Nat)(s:StC)(lab:Nat->Int)(out:Nat->Prop):Prop where
 W:WdR z U s.1 lab
 len:s.2.1.length=z
 siz:∀p,p<z->U p->s.2.1.getD p 0=(cntL z lab (lab p):Int)
 ap1:∀t∈s.2.2,∃p q i j,p<z/\q<z/\U p/\U q/\s.1.getD p uB=uA i/\s.1.getD q uB=uA j/\t=prS i j/\∃u,out u/\lab (ea u)=lab p/\lab (eb u)=lab q
 ap2:∀p q i j u,p<z->q<z->U p->U q->s.1.getD p uB=uA i->s.1.getD q uB=uA j->out u->lab (ea u)=lab p->lab (eb u)=lab q->prS i j∈s.2.2
 sep:∀u,out u->lab (ea u)≠lab (eb u)
 lst:∀p i,p<z->U p->s.1.getD p uB=uA i->i<=p
theorem Xj{i j k l:Int}(h:prS i j=prS k l):(i=k/\j=l)\/(i=l/\j=k):=by
 unfold prS at h;injection h with h1 h2
 injection h2 with h2 _
 lia
theorem RW{i j x:Int}:x∈prS i j↔x=i\/x=j:=by
 unfold prS;rw[AS,AS];constructor
 .rintro(h| h| h)
  ·lia
  ·lia
  .cases h
 .intro h
  have:x=min i j\/x=max i j:=by lia
  exact this.elim .inl λh=>.inr (.inl h)
theorem Jy(o n i j:Int):rnP o n (prS i j)=prS (ren o n i) (ren o n j):=by
 show prS (ren o n (min i j)) (ren o n (max i j))=_;rcases O4 i j with h| h
 .rw[KW h,KA h]
 .rw[KB h,K0 h,Uh]
section
variable{ss:uK->uK}{ea eb:Nat->Nat}{s:StC}{out:Nat->Prop}{p a b:Nat}{i j:Int}
theorem WdR.live{st:StO}(W:WdR z U st lab)(pz:p<z)(h:st.getD p uB≠uB):U p:=Bn λn=>h (W.no p pz n)
theorem CrR.head(C:CrR z U ea eb s lab out)(pz:p<z)(up:U p)(e:s.1.getD p uB=uA i):∃h:Nat,i=(h:Int)/\h<z/\U h/\s.1.getD h uB=uA i/\lab h=lab p:=by
 obtain⟨h,e1,hz,e2⟩:=C.W.hd p pz up;rw[e] at e1;injection e1 with e1
 have uh:=C.W.live hz (by rw[e2];exact λx=>by cases x);exact⟨h,e1,hz,uh,by rw[e2,e1],(C.W.eq h p hz pz uh up).mp (by rw[e2,e,e1])⟩
theorem Jp(st:StO)(p:Nat):(restW st p).Pairwise (· < ·):=Z8 _ FI
theorem CrR.newh(C:CrR z U ea eb s lab out)(pz:p<z)(up:U p){q0:Nat}{r:uL}(er:restW s.1 p=q0::r){x:Nat}(xz:x<z)(ux:U x)(xp:x≠p)(e:s.1.getD x uB=uA i):(dropW s.1 p).getD x uB=uA (ren p q0 i):=by
 have L:=C.W.len;rw[Fe (dl xz L),uD xp,er];have q0m:q0∈restW s.1 p:=by rw[er];exact AI
 obtain⟨q1,q2,q3⟩:=Bo.mp q0m;obtain⟨h,rfl,hz,uh,eh,lh⟩:=C.head xz ux e;by_cases c:x∈q0::r
 .rw[uE c]
  have c':=c;rw[<- er] at c';obtain⟨_,c2,_⟩:=Bo.mp c';unfold ren;by_cases hp:h=p
  .subst hp
   rw[uE rfl];rfl
  .rw[uD (by lia)]
   have hm:h∈restW s.1 p:=Bo.mpr ⟨dl hz L,by rw[eh,<- c2,e],hp⟩;have le1:q0<=h:=by
    have sr:=Jp s.1 p;rw[er] at sr hm;rcases AS.mp hm with e| m
    .exact u6 e
    .exact C3 ((CA.mp sr).1 h m)
   have uq:U q0:=C.W.live (uM q1 L) (by rw[q2,<- c2,e];exact λx=>by cases x);have le2:=C.lst q0 h (uM q1 L) uq (by rw[q2,<- c2,e]);show uA ((q0:Nat):Int)=uA (h:Int);rw[show q0=h by lia]
 .rw[uD c,e]
  unfold ren;rw[uD λhp=>c (by
   have e7:h=p:=fv hp;subst e7;rw[<- er];exact Bo.mpr ⟨dl xz L,by rw[e,eh],xp⟩)]
theorem DK(ft:∀l r,r∈ss l↔r∈l){l:uK}{f:uJ->uJ}{t:uJ}:t∈ss (l.map f)↔∃t0,t0∈l/\f t0=t:=by rw[ft,BD]
theorem CrR.drop(ft:∀l r,r∈ss l↔r∈l)(C:CrR z U ea eb s lab out)(pz:p<z)(up:U p) :
  CrR z (λq=>U q/\q≠p) ea eb (dropW s.1 p,s.2.1.set p 0,apW ss s.2.2 p (restW s.1 p)) lab out:=by
 have L:=C.W.len;have D:=C.W.drop pz up;have rT:∀x i,x<z->U x->x≠p->s.1.getD x uB=uA i->restW s.1 p=[]->(dropW s.1 p).getD x uB=uA i/\i≠(p:Int):=λx i xz ux xp e er=>by
  obtain⟨h,rfl,hz,uh,eh,lh⟩:=C.head xz ux e;refine⟨by rw[Fe (dl xz L),uD xp,er,uD (λh=>by cases h),e],λhp=>?_⟩;have e7:h=p:=fv hp;subst e7;have:x∈restW s.1 h:=Bo.mpr ⟨dl xz L,by rw[e,eh],xp⟩;rw[er] at this;cases this
 have cz:∀x i,x<z->U x/\x≠p->(dropW s.1 p).getD x uB=uA i->∃i0,s.1.getD x uB=uA i0:=λx i xz ux e=>by
  obtain⟨h,e1,_⟩:=C.W.hd x xz ux.1;exact⟨_,e1⟩
 refine⟨D,by rw[IZ];exact C.len,λq qz uq=>?_,?_,?_,C.sep,?_⟩
 .rw[AD,F3 (CF uq.2),<- AD]
  exact C.siz q qz uq.1
 .intro t ht
  cases er:restW s.1 p with
  | nil =>
   have qB:t∈s.2.2.filter λt=>decide ((p:Int)∉t):=by
    have:=ht;change t∈apW ss s.2.2 p (restW s.1 p) at this;rw[er] at this;exact this
   obtain⟨h1,h2⟩:=B0.mp qB;have h2:=uH h2;obtain⟨x,y,i,j,xz,yz,ux,uy,ex,ey,rfl,u,hu⟩:=C.ap1 t h1;have ne:∀w k,w<z->U w->s.1.getD w uB=uA k->k∈prS i j->w≠p:=λw k wz uw ew km wp=>by
    subst wp;obtain⟨h,rfl,hz,uh,eh,lh⟩:=C.head wz uw ew;have hw:=Bn λn=>by
     have:h∈restW s.1 w:=Bo.mpr ⟨dl hz L,by rw[eh,ew],n⟩;rw[er] at this;cases this
    subst hw;exact h2 km
   have xp:=ne x i xz ux ex (RW.mpr (.inl rfl));have yp:=ne y j yz uy ey (RW.mpr (.inr rfl));exact⟨x,y,i,j,xz,yz,⟨ux,xp⟩,⟨uy,yp⟩,(rT x i xz ux xp ex er).1,(rT y j yz uy yp ey er).1,rfl,u,hu⟩
  | cons q0 r =>
   have qB:t∈ss (s.2.2.map (rnP p q0)):=by
    have:=ht;change t∈apW ss s.2.2 p (restW s.1 p) at this;rw[er] at this;exact this
   obtain⟨t0,h1,rfl⟩:=(DK ft).mp qB;obtain⟨x,y,i,j,xz,yz,ux,uy,ex,ey,rfl,u,oC,rP,hu3⟩:=C.ap1 t0 h1;have q0m:q0∈restW s.1 p:=by rw[er];exact AI
   obtain⟨q1,q2,q3⟩:=Bo.mp q0m;obtain⟨hp,ep,_⟩:=C.W.hd p pz up;have uq:U q0:=C.W.live (uM q1 L) (by rw[q2,ep];exact λx=>by cases x);have lq:=(C.W.eq q0 p (uM q1 L) pz uq up).mp q2;have pick:∀w k,w<z->U w->s.1.getD w uB=uA k->∃w',w'<z/\(U w'/\w'≠p)/\(dropW s.1 p).getD w' uB=uA (ren p q0 k)/\lab w'=lab w:=λw k wz uw ew=>by
    by_cases c:w=p
    .subst c
     exact⟨q0,uM q1 L,⟨uq,q3⟩,C.newh pz up er (uM q1 L) uq q3 (by rw[q2,ew]),lq⟩
    .exact⟨w,wz,⟨uw,c⟩,C.newh pz up er wz uw c ew,rfl⟩
   obtain⟨x',xz',ux',ex',lx⟩:=pick x i xz ux ex;obtain⟨y',yz',uy',ey',ly⟩:=pick y j yz uy ey;exact⟨x',y',_,_,xz',yz',ux',uy',ex',ey',Jy ..,u,oC,by rw[lx];exact rP,by rw[ly];exact hu3⟩
 .intro x y i j u xz yz ux uy ex ey hu h1 h2
  obtain⟨i0,p9⟩:=cz x i xz ux ex;obtain⟨j0,ey0⟩:=cz y j yz uy ey;have m:=C.ap2 x y i0 j0 u xz yz ux.1 uy.1 p9 ey0 hu h1 h2;cases er:restW s.1 p with
  | nil =>
   obtain⟨e1,n1⟩:=rT x i0 xz ux.1 ux.2 p9 er;obtain⟨e2,n2⟩:=rT y j0 yz uy.1 uy.2 ey0 er;rw[show(dropW s.1 p).getD x uB=uA i from ex] at e1;rw[show(dropW s.1 p).getD y uB=uA j from ey] at e2;injection e1 with e1
   injection e2 with e2
   subst e1;subst e2;exact B0.mpr ⟨m,uF λh=>(RW.mp h).elim (λe=>n1 e.symm) λe=>n2 e.symm⟩
  | cons q0 r =>
   have e1:=C.newh pz up er xz ux.1 ux.2 p9;have e2:=C.newh pz up er yz uy.1 uy.2 ey0;rw[show(dropW s.1 p).getD x uB=uA i from ex] at e1;rw[show(dropW s.1 p).getD y uB=uA j from ey] at e2;injection e1 with e1
   injection e2 with e2
   rw[e1,e2];exact(DK ft).mpr ⟨_,m,Jy ..⟩
 .intro x i xz ux ex
  have ex:=ex;obtain⟨i0,p9⟩:=cz x i xz ux ex;have l0:=C.lst x i0 xz ux.1 p9;cases er:restW s.1 p with
  | nil =>
   obtain⟨e1,n1⟩:=rT x i0 xz ux.1 ux.2 p9 er;rw[ex] at e1;injection e1 with e1
   lia
  | cons q0 r =>
   rw[Fe (dl xz L),uD ux.2] at ex;by_cases c:x∈restW s.1 p
   .rw[uE c] at ex
    injection ex with ex
    have sr:=Jp s.1 p;rw[er] at c sr ex;change ((q0:Nat):Int)=i at ex;rcases AS.mp c with e| m
    ·lia
    .have:=(CA.mp sr).1 x m
     lia
   .rw[uD c,p9] at ex
    injection ex with ex
    lia
theorem Rx{st:StO}{sz:uJ}(h:sz.length=st.length)(i j v:Int)(hq:q<st.length):(joinZ st sz i j v).getD q 0=if st.getD q uB=uA i\/st.getD q uB=uA j then v else sz.getD q 0:=by
 have fb:q<sz.length:=dl hq h;have hz:(st.zip sz)[q]?=uA (st[q],sz[q]):=List.getElem?_zip_eq_some.mpr ⟨AG hq,AG fb⟩;unfold joinZ;rw[AD,AY,hz,AD,AG hq,AD,AG fb];rfl
theorem CrR.sizeh(C:CrR z U ea eb s lab out)(pz:p<z)(up:U p)(e:s.1.getD p uB=uA i):s.2.1.getD i.toNat 0=(cntL z lab (lab p):Int):=by
 obtain⟨h,rfl,hz,uh,eh,lh⟩:=C.head pz up e;rw[<- lh];exact C.siz h hz uh
theorem CrR.join(ft:∀l r,r∈ss l↔r∈l)(C:CrR z U ea eb s lab out)(az:a<z)(bz:b<z)(ua:U a)(ub:U b)(ne:lab a≠lab b)(e1:s.1.getD a uB=uA i)(e2:s.1.getD b uB=uA j)(hn:prS i j∉s.2.2) :
  CrR z U ea eb (joinW s.1 i j,joinZ s.1 s.2.1 i j (s.2.1.getD (min i j).toNat 0+s.2.1.getD (max i j).toNat 0),ss (s.2.2.map (rnP (max i j) (min i j)))) (mergeL lab a b) out:=by
 have L:=C.W.len;have nij:i≠j:=λe=>ne ((C.W.eq a b az bz ua ub).mp (by rw[e1,e2,e]));have WJ:WdR z U (joinW s.1 i j) (mergeL lab a b):=by
  obtain⟨bh,h1,h2⟩:=C.W.join az bz ua ub ne;unfold takeW at h1;rw[uD (by rw[e1,e2];exact λh=>nij (by injection h)),e1,e2] at h1;injection h1 with h1
  rw[h1];exact h2
 have sum:s.2.1.getD (min i j).toNat 0+s.2.1.getD (max i j).toNat 0=(cntL z lab (lab a):Int)+(cntL z lab (lab b):Int):=by
  have h1:=C.sizeh az ua e1;have h2:=C.sizeh bz ub e2;rcases O4 i j with h| h
  .rw[KW h,KA h,h1,h2]
  .rw[KB h,K0 h,h1,h2,ZE]
 have rq:∀q k,q<z->U q->s.1.getD q uB=uA k->((k=i\/k=j)↔(lab q=lab a\/lab q=lab b)):=λq k qz uq ek=>by
  rw[<- C.W.eq q a qz az uq ua,<- C.W.eq q b qz bz uq ub,ek,e1,e2];exact⟨λh=>h.elim (λh=>.inl (by rw[h])) λh=>.inr (by rw[h]),λh=>h.elim (λh=>.inl (by injection h)) λh=>.inr (by injection h)⟩
 have newh:∀q k,s.1.getD q uB=uA k->(joinW s.1 i j).getD q uB=uA (ren (max i j) (min i j) k):=λq k ek=>by
  rw[Dn,ek];unfold ren;by_cases c:k=i\/k=j
  .rw[uE (c.elim (λh=>.inl (by rw[h])) λh=>.inr (by rw[h]))]
   by_cases d:k=max i j
   .rw[uE d]
   .rw[uD d]
    rw[show min i j=k by lia]
  .rw[uD (λh=>c (h.elim (λh=>.inl (by injection h)) λh=>.inr (by injection h))),uD (yY c)]
 have hdo:∀q,q<z->U q->∃k,s.1.getD q uB=uA k:=λq qz uq=>by
  obtain⟨h,e,_⟩:=C.W.hd q qz uq;exact⟨_,e⟩
 have one:∀q k,q<z->U q->s.1.getD q uB=uA k->(lab q=lab a\/lab q=lab b)->ren (max i j) (min i j) k=min i j:=λq k qz uq ek h=>by
  have:=(rq q k qz uq ek).mpr h;unfold ren;by_cases d:k=max i j
  .rw[uE d]
  .rw[uD d];lia
 refine⟨WJ,?_,λq qz uq=>?_,?_,?_,?_,?_⟩
 .unfold joinZ
  rw[AB,V1,C.len,L];exact x9
 .rw[Rx (by rw[C.len,L]) _ _ _ (dl qz L),sum]
  obtain⟨k,ek⟩:=hdo q qz uq;by_cases c:lab q=lab a\/lab q=lab b
  .rw[uE (((rq q k qz uq ek).mpr c).elim (λh=>.inl (by rw[ek,h])) λh=>.inr (by rw[ek,h])),JX ne c]
   lia
  .rw[uD (λh=>c ((rq q k qz uq ek).mp (h.elim (λh=>.inl (by rw[ek] at h;injection h)) λh=>.inr (by rw[ek] at h;injection h)))),JZ c]
   exact C.siz q qz uq
 .intro t ht
  obtain⟨t0,h1,rfl⟩:=(DK ft).mp ht;obtain⟨x,y,k,l,xz,yz,ux,uy,ex,ey,rfl,u,oC,rP,hu3⟩:=C.ap1 t0 h1;exact⟨x,y,_,_,xz,yz,ux,uy,newh x k ex,newh y l ey,Jy ..,u,oC,merge_iff.mpr (.inl rP),merge_iff.mpr (.inl hu3)⟩
 .intro x y k l u xz yz ux uy ex ey hu h1 h2
  have ex:=ex;have ey:=ey;have pick:∀w x k,x<z->U x->(joinW s.1 i j).getD x uB=uA k->mergeL lab a b w=mergeL lab a b x->∃x' k',x'<z/\U x'/\s.1.getD x' uB=uA k'/\lab w=lab x'/\ren (max i j) (min i j) k'=k:=λw x k xz ux ex hw=>by
   obtain⟨k0,e0⟩:=hdo x xz ux;have nx:=newh x k0 e0;rw[ex] at nx;injection nx with nx
   rcases merge_iff.mp hw with h| ⟨h,h'⟩
   .exact⟨x,k0,xz,ux,e0,h,nx.symm⟩
   .have r0:=one x k0 xz ux e0 h'
    rcases h with h| h
    .exact⟨a,i,az,ua,e1,h,by rw[one a i az ua e1 (.inl rfl),nx,r0]⟩
    .exact⟨b,j,bz,ub,e2,h,by rw[one b j bz ub e2 (.inr rfl),nx,r0]⟩
  obtain⟨x',k',xz',ux',ex',lx,rx⟩:=pick _ x k xz ux ex h1;obtain⟨y',l',yz',uy',ey',ly,ry⟩:=pick _ y l yz uy ey h2;have m:=C.ap2 x' y' k' l' u xz' yz' ux' uy' ex' ey' hu lx ly;exact(DK ft).mpr ⟨_,m,by rw[Jy,rx,ry]⟩
 .intro u hu e
  rcases merge_iff.mp e with h| ⟨h1,h2⟩
  .exact C.sep u hu h
  .rcases h1 with h1| h1<;>rcases h2 with h2| h2
   .exact C.sep u hu (h1.trans h2.symm)
   .exact hn (C.ap2 a b i j u az bz ua ub e1 e2 hu h1 h2)
   .exact hn (by rw[Uh];exact C.ap2 b a j i u bz az ub ua e2 e1 hu h1 h2)
   .exact C.sep u hu (h1.trans h2.symm)
 .intro x k xz ux ex
  have ex:=ex;obtain⟨k0,e0⟩:=hdo x xz ux;have l0:=C.lst x k0 xz ux e0;have nx:=newh x k0 e0;rw[ex] at nx;injection nx with nx
  unfold ren at nx;split at nx<;>lia
theorem CrR.leave(ft:∀l r,r∈ss l↔r∈l){t:Nat}(C:CrR z U ea eb s lab out)(az:ea t<z)(bz:eb t<z)(ua:U (ea t))(ub:U (eb t))(ne:lab (ea t)≠lab (eb t))(e1:s.1.getD (ea t) uB=uA i)(e2:s.1.getD (eb t) uB=uA j) :
  CrR z U ea eb (s.1,s.2.1,ss (s.2.2++[prS i j])) lab (λu=>out u\/u=t):=by
 refine⟨C.W,C.len,C.siz,λt' ht=>?_,λx y k l u xz yz ux uy ex ey hu h1 h2=>?_,λu hu=>?_,C.lst⟩
 .rcases B8.mp ((ft _ _).mp ht) with h| h
  .obtain⟨x,y,k,l,xz,yz,ux,uy,ex,ey,e,u,hu,h2⟩:=C.ap1 t' h
   exact⟨x,y,k,l,xz,yz,ux,uy,ex,ey,e,u,.inl hu,h2⟩
  .exact⟨ea t,eb t,i,j,az,bz,ua,ub,e1,e2,Bi.mp h,t,.inr rfl,rfl,rfl⟩
 .refine(ft _ _).mpr (B8.mpr ?_)
  rcases hu with hu| rfl
  .exact .inl (C.ap2 x y k l u xz yz ux uy ex ey hu h1 h2)
  .refine .inr (Bi.mpr ?_)
   have q1:=(C.W.eq x (ea u) xz az ux ua).mpr h1.symm;have q2:=(C.W.eq y (eb u) yz bz uy ub).mpr h2.symm;have ex:=ex;have ey:=ey;rw[ex,e1] at q1;rw[ey,e2] at q2;injection q1 with q1
   injection q2 with q2
   rw[q1,q2]
 .rcases hu with hu| rfl
  .exact C.sep u hu
  .exact ne
theorem CrR.congr(C:CrR z U ea eb s lab out)(h:∀p,p<z->(U p↔U' p)):CrR z U' ea eb s lab out :=
 ⟨C.W.congr h,C.len,λp pz u=>C.siz p pz ((h p pz).mpr u),λt ht=>by
  obtain⟨x,y,k,l,xz,yz,ux,uy,r⟩:=C.ap1 t ht;exact⟨x,y,k,l,xz,yz,(h x xz).mp ux,(h y yz).mp uy,r⟩,λx y k l u xz yz ux uy=>C.ap2 x y k l u xz yz ((h x xz).mpr ux) ((h y yz).mpr uy),C.sep,λp i pz up=>C.lst p i pz ((h p pz).mpr up)⟩
end
section
variable(lef tak lT:Nat->α->Option α)(pW:α->Bool)
noncomputable def stepX(t:Nat)(g:Option α->uL->Bool)(st:α):uL->Bool
 | []=>g (lef t st) []
 | x::xs=>if x<t then false else if x=t then g (tak t st) xs else g (lef t st) (x::xs)
noncomputable def semX:Nat->Nat->Option α->uL->Bool
 | _,_,uB,_=>false
 | 0,t,uA r,s=>match lT t r with
  | none=>false
  | some st=>pW st&&decide (s=[])
 | d+1,t,uA r,s=>match lT t r with
  | none=>false
  | some st=>stepX lef tak t (semX d (t+1)) st s
theorem HJ(d t:Nat)(s:uL):semX lef tak lT pW d t uB s=false:=by cases d<;>rfl
variable{lef tak lT pW}
theorem Pz{d t:Nat}{r:α}{s:uL}(h:lT t r=uB):semX lef tak lT pW d t (uA r) s=false:=by
 cases d<;>simp only[semX,h]
theorem Ug{t:Nat}{r st:α}{s:uL}(h:lT t r=uA st):semX lef tak lT pW 0 t (uA r) s=(pW st&&decide (s=[])):=by simp only[semX,h]
theorem XR{d t:Nat}{r st:α}{s:uL}(h:lT t r=uA st):semX lef tak lT pW (d+1) t (uA r) s=stepX lef tak t (semX lef tak lT pW d (t+1)) st s:=by simp only[semX,h]
end
section
variable{ss:uK->uK}{ea eb L:Nat->Nat}{out:Nat->Prop}
theorem CrR.passes(ft:∀l r,r∈ss l↔r∈l):∀(ps:uL) {U:Nat->Prop}{s:StC},CrR z U ea eb s lab out->ps.Nodup->(∀p∈ps,p<z/\U p) ->
  (passC ss lo s ps=uB/\∃p∈ps,(∀q,q<z->U q->lab q=lab p->q∈ps)/\(cntL z lab (lab p):Int)<lo) \/
  (∃s',passC ss lo s ps=uA s'/\CrR z (λq=>U q/\q∉ps) ea eb s' lab out/\∀p∈ps,(∀q,q<z->U q->lab q=lab p->q∈ps)->lo<=(cntL z lab (lab p):Int))
 | [],U,s,C,_,_=>.inr ⟨s,rfl,C.congr λp _=>⟨λh=>⟨h,by simp⟩,λh=>h.1⟩,λp hp=>by cases hp⟩
 | p::ps,U,s,C,nd,h=>by
  obtain⟨n1,n2⟩:=DE.mp nd;obtain⟨pz,up⟩:=h p AI;have L:=C.W.len;have tQ:restW s.1 p=[]↔∀q,q<z->U q->lab q=lab p->q=p:=by
   constructor
   .intro er q qz uq e
    refine Bn λne=>?_;have:q∈restW s.1 p:=Bo.mpr ⟨dl qz L,(C.W.eq q p qz pz uq up).mpr e,ne⟩;rw[er] at this;cases this
   .intro hq
    cases er:restW s.1 p with
    | nil=>rfl
    | cons q r =>
     obtain⟨q1,q2,q3⟩:=Bo.mp (show q∈restW s.1 p by rw[er];exact AI);obtain⟨hp,ep,_⟩:=C.W.hd p pz up;have uq:U q:=C.W.live (p:=q) (uM q1 L) (by rw[q2,ep];exact λx=>by cases x);exact uI (hq q (uM q1 L) uq ((C.W.eq q p (uM q1 L) pz uq up).mp q2)) q3
  show(((passC1 ss lo s p).bind λs=>passC ss lo s ps)=uB/\_)\/(∃s',((passC1 ss lo s p).bind λs=>passC ss lo s ps)=uA s'/\_);unfold passC1;by_cases c:restW s.1 p=[]/\s.2.1.getD p 0<lo
  .rw[uE c]
   refine .inl ⟨rfl,p,AI,λq qz uq e=>?_,by rw[<- C.siz p pz up];exact c.2⟩;rw[tQ.mp c.1 q qz uq e];exact AI
  .rw[uD c]
   have D:=C.drop ft pz up;rcases CrR.passes ft ps D n2 λq hq=>⟨(h q (AL _ hq)).1,(h q (AL _ hq)).2,λe=>n1 (e ▸ hq)⟩ with⟨e,x,hx,h1,h2⟩| ⟨s',e,C',h1⟩
   .refine .inl ⟨e,x,AL _ hx,λq qz uq e=>?_,h2⟩
    by_cases d:q=p
    .rw[d];exact AI
    .exact AL _ (h1 q qz ⟨uq,d⟩ e)
   .refine .inr ⟨s',e,C'.congr λq _=>?_,λx hx cw=>?_⟩
    .rw[AS,not_or]
     exact⟨λ⟨⟨a,b⟩,c⟩=>⟨a,b,c⟩,λ⟨a,b,c⟩=>⟨⟨a,b⟩,c⟩⟩
    .have rO:∀y,y∈ps->lab y=lab x->lo<=(cntL z lab (lab x):Int):=λy hy ey=>by
      rw[<- ey];refine h1 y hy λq qz uq e=>?_;rcases AS.mp (cw q qz uq.1 (e.trans ey)) with e| m
      .exact uI e uq.2
      .exact m
     rcases AS.mp hx with rfl| hx
     .by_cases l:restW s.1 x=[]
      .have:=C.siz x pz up
       rw[<- this];have:¬ s.2.1.getD x 0<lo:=λh=>c ⟨l,h⟩;exact wS this
      .have:∃q,q<z/\U q/\lab q=lab x/\q≠x:=Bn λno=>l (tQ.mpr λq qz uq e=>Bn λne=>no ⟨q,qz,uq,e,ne⟩)
       obtain⟨q,qz,uq,e,ne⟩:=this;exact rO q ((AS.mp (cw q qz uq e)).resolve_left ne) e
     .exact rO x hx rfl
theorem MK{s:StC}{a b:Nat}{i j:Int}(e1:s.1.getD a uB=uA i)(e2:s.1.getD b uB=uA j):leftC ss s a b=if i=j then uB else uA (s.1,s.2.1,ss (s.2.2++[prS i j])):=by
 unfold leftC;rw[e1,e2]
theorem Kw{s:StC}{a b:Nat}{i j:Int}(e1:s.1.getD a uB=uA i)(e2:s.1.getD b uB=uA j):takeC ss hi s a b=if i=j then uA s else if prS i j∈s.2.2\/hi<s.2.1.getD (min i j).toNat 0+s.2.1.getD (max i j).toNat 0 then uB else uA (joinW s.1 i j,joinZ s.1 s.2.1 i j (s.2.1.getD (min i j).toNat 0+s.2.1.getD (max i j).toNat 0),ss (s.2.2.map (rnP (max i j) (min i j)))):=by
 unfold takeC;rw[e1,e2]
def Acc(z n:Nat)(ea eb:Nat->Nat)(lo hi:Int)(lab:Nat->Int)(out:Nat->Prop)(t:Nat)(sl:uL):Prop :=
 (∀u,(out u\/(t<=u/\u<n/\u∉sl))->finL ea eb lab sl (ea u)≠finL ea eb lab sl (eb u))/\∀p,p<z->lo<=(cntL z (finL ea eb lab sl) (finL ea eb lab sl p):Int)/\(cntL z (finL ea eb lab sl) (finL ea eb lab sl p):Int)<=hi
theorem ABW{t:Nat}{sl:uL}(tn:t<n)(h:t∉sl):Acc z n ea eb lo hi lab (λu=>out u\/u=t) (t+1) sl↔Acc z n ea eb lo hi lab out t sl:=by
 have e:∀u,((out u\/u=t)\/(t+1<=u/\u<n/\u∉sl))↔(out u\/(t<=u/\u<n/\u∉sl)):=λu=>by
  constructor
  .rintro((h1| h1)| ⟨h1,h2,h3⟩)
   .exact .inl h1
   .exact .inr ⟨u6 h1,wF h1 tn,by rw[h1];exact h⟩
   .exact .inr ⟨u7 h1,h2,h3⟩
  .rintro(h1| ⟨h1,h2,h3⟩)
   .exact .inl (.inl h1)
   .by_cases c:u=t
    .exact .inl (.inr c)
    .exact .inr ⟨vu h1 c,h2,h3⟩
 exact⟨λ⟨a,b⟩=>⟨λu hu=>a u ((e u).mpr hu),b⟩,λ⟨a,b⟩=>⟨λu hu=>a u ((e u).mp hu),b⟩⟩
theorem ABN{t:Nat}{xs:uL}(h:∀y∈xs,t+1<=y):Acc z n ea eb lo hi (mergeL lab (ea t) (eb t)) out (t+1) xs↔Acc z n ea eb lo hi lab out t (t::xs):=by
 have e:∀u,(out u\/(t+1<=u/\u<n/\u∉xs))↔(out u\/(t<=u/\u<n/\u∉t::xs)):=λu=>by
  rw[AS,not_or];exact⟨λh1=>h1.elim .inl λ⟨a,b,c⟩=>.inr ⟨by lia,b,by lia,c⟩,λh1=>h1.elim .inl λ⟨a,b,c,d⟩=>.inr ⟨by lia,b,d⟩⟩
 exact⟨λ⟨a,b⟩=>⟨λu hu=>a u ((e u).mpr hu),b⟩,λ⟨a,b⟩=>⟨λu hu=>a u ((e u).mp hu),b⟩⟩
theorem AEn(s:uL)(lab:Nat->Int)(p:Nat):cntL z lab (lab p)<=cntL z (finL ea eb lab s) (finL ea eb lab s p):=ABM (λa b e=>Gb s lab a b e) p
theorem AAP(ft:∀l r,r∈ss l↔r∈l)(hz:∀x,x<n->ea x<z/\eb x<z/\x<L (ea x)/\x<L (eb x))(hL:∀p,p<z->L p<=n):∀(d t:Nat) (s:StC) (lab:Nat->Int) (out:Nat->Prop) (sl:uL),t+d=n->CrR z (λp=>t<=L p) ea eb s lab out ->
  (∀p,p<z->(∀q,q<z->lab q=lab p->L q<t)->lo<=(cntL z lab (lab p):Int))->(∀p,p<z->(cntL z lab (lab p):Int)<=hi)->sl.Pairwise (· < ·)->(∀x∈sl,t<=x/\x<n) ->
  (semX (λt s=>leftC ss s (ea t) (eb t)) (λt s=>takeC ss hi s (ea t) (eb t)) (λt s=>passC ss lo s ((AK z).filter λp=>decide (L p=t))) (λ_=>true) d t (uA s) sl=true↔Acc z n ea eb lo hi lab out t sl):=by
 intro d
 induction d with
 | zero =>
  intro t s lab out sl e C qk top pw hs;have sn:sl=[]:=by
   cases sl with
   | nil=>rfl
   | cons x xs=>have:=hs x AI;lia
  subst sn;rcases C.passes (lo:=lo) ft _ ((ED (n:=z)).filter λp=>decide (L p=t)) λp hp=>by
   obtain⟨h1,h2⟩:=B0.mp hp;exact⟨AN.mp h1,by have:=uH h2;exact u6 this⟩ with⟨e1,p,hp,h1,h2⟩| ⟨s',e1,C',h1⟩
  .rw[Pz e1]
   have pz:=AN.mp (B0.mp hp).1;exact⟨λh=>(by cases h),λh=>(by have:=(h.2 p pz).1;change lo<=(cntL z lab (lab p):Int) at this;lia)⟩
  .rw[Ug e1]
   refine⟨λ_=>⟨λu hu=>?_,λp pz=>⟨?_,top p pz⟩⟩,λ_=>rfl⟩
   .rcases hu with hu| ⟨h2,h3,_⟩
    .exact C.sep u hu
    ·lia
   .show lo<=(cntL z lab (lab p):Int)
    by_cases c:∀q,q<z->lab q=lab p->L q<t
    .exact qk p pz c
    .have:∃q,q<z/\lab q=lab p/\¬ L q<t:=Bn λno=>c λq qz eq=>Bn λn=>no ⟨q,qz,eq,n⟩
     obtain⟨q,qz,eq,nq⟩:=this;rw[<- eq];refine h1 q (B0.mpr ⟨AN.mpr qz,uF (by have:=hL q qz;lia)⟩) λr rz ur er=>?_;exact B0.mpr ⟨AN.mpr rz,uF (by have:=hL r rz;lia)⟩
 | succ d ih =>
  intro t s lab out sl e C qk top pw hs;rcases C.passes (lo:=lo) ft _ ((ED (n:=z)).filter λp=>decide (L p=t)) λp hp=>by
   obtain⟨h1,h2⟩:=B0.mp hp;exact⟨AN.mp h1,by have:=uH h2;exact u6 this⟩ with⟨e1,p,hp,h1,h2⟩| ⟨s2,e1,C',h1⟩
  .rw[Pz e1]
   have pz:=AN.mp (B0.mp hp).1;have lp:=uH (B0.mp hp).2;refine⟨λh=>(by cases h),λh=>?_⟩;have cz:∀q,q<z->lab q=lab p->L q<=t:=λq qz eq=>by
    by_cases c:t<=L q
    .have:=uH (B0.mp (h1 q qz c eq)).2
     exact vt this
    ·lia
   have st:=Oz (ea:=ea) (eb:=eb) (v:=lab p) sl lab λx hx=>by
    obtain⟨x1,x2⟩:=hs x hx;obtain⟨a1,a2,a3,a4⟩:=hz x x2;exact⟨λeq=>by have:=cz _ a1 eq;exact yR a3 this x1,λeq=>by have:=cz _ a2 eq;exact yR a4 this x1⟩
   have:=(h.2 p pz).1;rw[(st p).mpr rfl] at this;have ec:cntL z (finL ea eb lab sl) (lab p)=cntL z lab (lab p):=by
    unfold cntL
    congr 1
    refine LY λq _=>?_;rw[DV,decide_eq_true_iff,decide_eq_true_iff];exact st q
   rw[ec] at this;lia
  .rw[XR e1]
   have C2:CrR z (λp=>t+1<=L p) ea eb s2 lab out:=C'.congr λp pz=>by
    rw[B0,AN,decide_eq_true_iff];exact⟨λ⟨h1,h2⟩=>by have:¬ L p=t:=λe=>h2 ⟨pz,e⟩;lia,λh=>⟨u7 h,λh2=>xO h h2⟩⟩
   have kS:∀p,p<z->(∀q,q<z->lab q=lab p->L q<t+1)->lo<=(cntL z lab (lab p):Int):=λp pz hp=>by
    by_cases c:∀q,q<z->lab q=lab p->L q<t
    .exact qk p pz c
    .have:∃q,q<z/\lab q=lab p/\¬ L q<t:=Bn λno=>c λq qz eq=>Bn λn=>no ⟨q,qz,eq,n⟩
     obtain⟨q,qz,eq,nq⟩:=this;rw[<- eq];refine h1 q (B0.mpr ⟨AN.mpr qz,uF (by have:=hp q qz eq;exact xh this nq)⟩) λr rz ur er=>?_;exact B0.mpr ⟨AN.mpr rz,uF (by have:=hp r rz (er.trans eq);exact wW this ur)⟩
   have tn:t<n:=xg e;obtain⟨az,bz,la,lb⟩:=hz t tn;obtain⟨i,ei,iz,_⟩:=C2.W.hd (ea t) az la;obtain⟨j,ej,jz,_⟩:=C2.W.hd (eb t) bz lb;have same:((i:Int)=j↔lab (ea t)=lab (eb t)):=by
    rw[<- C2.W.eq _ _ az bz la lb,ei,ej];exact⟨λh=>by rw[h],λh=>by injection h⟩
   have goL:∀sl:uL,t∉sl->sl.Pairwise (· < ·)->(∀x∈sl,t+1<=x/\x<n)->(semX (λt s=>leftC ss s (ea t) (eb t)) (λt s=>takeC ss hi s (ea t) (eb t)) (λt s=>passC ss lo s ((AK z).filter λp=>decide (L p=t))) (λ_=>true) d (t+1) (leftC ss s2 (ea t) (eb t)) sl=true↔Acc z n ea eb lo hi lab out t sl):=λsl nt pw hs=>by
    rw[MK ei ej];by_cases c:(i:Int)=j
    .rw[uE c,HJ]
     exact⟨λh=>(by cases h),λh=>uI (Gb sl lab _ _ (same.mp c)) (h.1 t (.inr ⟨AF _,tn,nt⟩))⟩
    .rw[uD c]
     rw[ih (t+1) _ lab _ sl (wm e) (C2.leave ft az bz la lb (λh=>c (same.mpr h)) ei ej) kS top pw hs];exact ABW tn nt
   cases sl with
   | nil=>exact goL [] (by simp) .nil λx hx=>by cases hx
   | cons x xs =>
    obtain⟨p1,p2⟩:=CA.mp pw;obtain⟨x1,x2⟩:=hs x AI;have kR:∀y∈xs,x+1<=y/\y<n:=λy hy=>⟨p1 y hy,(hs y (AL _ hy)).2⟩;show(if x<t then false else if x=t then semX (λt s=>leftC ss s (ea t) (eb t)) (λt s=>takeC ss hi s (ea t) (eb t)) (λt s=>passC ss lo s ((AK z).filter λp=>decide (L p=t))) (λ_=>true) d (t+1) (takeC ss hi s2 (ea t) (eb t)) xs else semX (λt s=>leftC ss s (ea t) (eb t)) (λt s=>takeC ss hi s (ea t) (eb t)) (λt s=>passC ss lo s ((AK z).filter λp=>decide (L p=t))) (λ_=>true) d (t+1) (leftC ss s2 (ea t) (eb t)) (x::xs))=true↔_;rw[uD (u8 x1)];by_cases c:x=t
    .subst c
     rw[uE rfl,<- ABN λy hy=>(kR y hy).1];rw[Kw ei ej];by_cases c:(i:Int)=j
     .rw[uE c,Ww (same.mp c)]
      exact ih (x+1) s2 lab out xs (wm e) C2 kS top p2 kR
     .rw[uD c]
      have ne:lab (ea x)≠lab (eb x):=λh=>c (same.mpr h);have sum:s2.2.1.getD (min (i:Int) j).toNat 0+s2.2.1.getD (max (i:Int) j).toNat 0=(cntL z lab (lab (ea x)):Int)+(cntL z lab (lab (eb x)):Int):=by
       have h1:=C2.sizeh az la ei;have h2:=C2.sizeh bz lb ej;rcases O4 (i:Int) j with h| h
       .rw[KW h,KA h,h1,h2]
       .rw[KB h,K0 h,h1,h2,ZE]
      by_cases c1:prS (i:Int) j∈s2.2.2
      .rw[uE (.inl c1),HJ]
       refine⟨λh=>(by cases h),λh=>?_⟩;obtain⟨v,w,k,l,vz,wz,uv,uw,ev,ew,ep,u,hu,h3,h4⟩:=C2.ap1 _ c1;refine uI (Gb xs _ _ _ (merge_iff.mpr (.inr ?_))) (h.1 u (.inl hu));have hv:lab v=lab (ea x)\/lab v=lab (eb x):=by
        rcases Xj ep with⟨q1,q2⟩| ⟨q1,q2⟩
        .exact .inl ((C2.W.eq _ _ vz az uv la).mp (by rw[ev,ei,q1]))
        .exact .inr ((C2.W.eq _ _ vz bz uv lb).mp (by rw[ev,ej,q2]))
       have hw:lab w=lab (ea x)\/lab w=lab (eb x):=by
        rcases Xj ep with⟨q1,q2⟩| ⟨q1,q2⟩
        .exact .inr ((C2.W.eq _ _ wz bz uw lb).mp (by rw[ew,ej,q2]))
        .exact .inl ((C2.W.eq _ _ wz az uw la).mp (by rw[ew,ei,q1]))
       exact⟨by rw[h3];exact hv,by rw[h4];exact hw⟩
      .by_cases c2:hi<s2.2.1.getD (min (i:Int) j).toNat 0+s2.2.1.getD (max (i:Int) j).toNat 0
       .rw[uE (.inr c2),HJ]
        refine⟨λh=>(by cases h),λh=>?_⟩;have h5:=(h.2 (ea x) az).2;have h6:=AEn (z:=z) (ea:=ea) (eb:=eb) xs (mergeL lab (ea x) (eb x)) (ea x);rw[JX ne (.inl rfl)] at h6;lia
       .rw[uD (λh=>h.elim c1 c2)]
        have J:=C2.join ft az bz la lb ne ei ej c1;refine ih (x+1) _ _ out xs (wm e) J (λp pz hp=>?_) (λp pz=>?_) p2 kR
        .have np:¬ (lab p=lab (ea x)\/lab p=lab (eb x)):=λh=>by
          have:=hp (ea x) az (merge_iff.mpr (.inr ⟨.inl rfl,h⟩));lia
         rw[JZ np];exact kS p pz λq qz eq=>hp q qz (merge_iff.mpr (.inl eq))
        .by_cases h:lab p=lab (ea x)\/lab p=lab (eb x)
         .rw[JX ne h]
          lia
         .rw[JZ h]
          exact top p pz
    .rw[uD c]
     refine goL (x::xs) (λh=>?_) pw λy hy=>?_
     .rcases AS.mp h with h| h
      .exact c h.symm
      .have:=kR t h;lia
     .rcases AS.mp hy with rfl| hy
      ·lia
      .have:=kR y hy;lia
end
theorem Yu{t:Nat}{lef tak:Nat->α->Option α}{g:Option α->uL->Bool}{st:α}(o:Ok n aI)(tn:t<n)(hl:Lead aI (t+1) kl (g (lef t st)))(hr:Lead aI (t+1) kr (g (tak t st))) :
  Ok n (aI++[(t,kl,kr)])/\Lead (aI++[(t,kl,kr)]) t (aI.length+2) (stepX lef tak t g st):=by
 have o2:=AGS o tn (Tp hl.kn hl.up) (Tp hr.kn hr.up);have e:=ADj aI (t,kl,kr);have kn:=ACd aI (t,kl,kr);refine⟨o2,kn,.inr ?_,λs=>?_⟩
 .unfold tieOf
  rw[e];exact AF _
 .cases s with
  | nil =>
   rw[Dd o2 kn va,e,Dh o _ hl.kn,hl.eq];rfl
  | cons x xs =>
   rw[Bp o2 kn va,e,Dh o _ hl.kn,Dh o _ hr.kn,hl.eq,hr.eq];rfl
end G
namespace K45
open PySem L2 G
structure Gro(K:Au)(mg:Str->Option As)(Gc:Addr):Prop where
 cl:Cls K Gc
 mgG:mg "Growth" = uA (.ref Gc)
 nW:NoAttr K Gc "web"
 nU:NoAttr K Gc "rule"
 nA:NoAttr K Gc "amount"
 nB:NoAttr K Gc "behind"
 nR:NoAttr K Gc "rows"
 nK:NoAttr K Gc "known"
noncomputable def gf(W r:Addr)(n:Int)(Bh R D:Addr):List (Str×V):=putF "known" (.ref D) (putF "rows" (.ref R) (putF "behind" (.ref Bh) (putF "amount" (.int n) (putF "rule" (.ref r) (putF "web" (.ref W) [])))))
section
variable (W r Bh R D:Addr)(n:Int)
theorem Lq:(gf W r n Bh R D).lookup ("known" : Str)=uA (.ref D):=by unfold gf;rw[Aj,uE rfl]
theorem QT:(gf W r n Bh R D).lookup ("rows" : Str)=uA (.ref R):=by unfold gf;rw[Aj,uD (by decide+kernel),Aj,uE rfl]
theorem Zm:(gf W r n Bh R D).lookup ("behind" : Str)=uA (.ref Bh):=by unfold gf;rw[Aj,uD (by decide+kernel),Aj,uD (by decide+kernel),Aj,uE rfl]
theorem Ot:(gf W r n Bh R D).lookup ("amount" : Str)=uA (.int n):=by unfold gf;rw[Aj,uD (by decide+kernel),Aj,uD (by decide+kernel),Aj,uD (by decide+kernel),Aj,uE rfl]
theorem KN:(gf W r n Bh R D).lookup ("rule" : Str)=uA (.ref r):=by unfold gf;rw[Aj,uD (by decide+kernel),Aj,uD (by decide+kernel),Aj,uD (by decide+kernel),Aj,uD (by decide+kernel),Aj,uE rfl]
theorem RP:(gf W r n Bh R D).lookup ("web" : Str)=uA (.ref W):=by unfold gf;rw[Aj,uD (by decide+kernel),Aj,uD (by decide+kernel),Aj,uD (by decide+kernel),Aj,uD (by decide+kernel),Aj,uD (by decide+kernel),Aj,uE rfl]
theorem AHk{m:Str}(h1:¬ m = "known")(h2:¬ m = "rows")(h3:¬ m = "behind")(h4:¬ m = "amount")(h5:¬ m = "rule")(h6:¬ m = "web"):(gf W r n Bh R D).lookup m=uB:=by
 unfold gf;rw[Aj,uD h1,Aj,uD h2,Aj,uD h3,Aj,uD h4,Aj,uD h5,Aj,uD h6]
 all_goals rfl
end
structure Wr where
 ps:StC->Nat->Option StC
 tk:StC->Nat->Nat->Option StC
 lf:StC->Nat->Nat->Option StC
 fu:StC->Bool
 pre:StC->Nat->Nat->Prop
 vld:Nat->StC->Prop
 fl:List (Str×V)
 nP:fl.lookup ("passed" : Str)=uB
 nL:fl.lookup ("left" : Str)=uB
 nT:fl.lookup ("taken" : Str)=uB
 nU:fl.lookup ("fulfilled" : Str)=uB
 nB:fl.lookup ("begun" : Str)=uB
noncomputable def passU(u:Wr):StC->uL->Option StC
 | st,[]=>uA st
 | st,p::ps=>(u.ps st p).bind λs=>passU u s ps
theorem Pb(u:Wr):∀(ps qs:uL) (st:StC),passU u st (ps++qs)=(passU u st ps).bind λs=>passU u s qs
 | [],qs,st=>rfl
 | p::ps,qs,st=>by
  show(u.ps st p).bind _=((u.ps st p).bind _).bind _;cases u.ps st p with
  | none=>rfl
  | some s=>exact Pb u ps qs s
structure Gr(u:Wr)(K:Au)(C Dc Gc:Addr)(g W r Bh R D:Addr)(z:Nat)(bs:uK)(H:Hp):Prop where
 ins:∃dx,H g=uA (.ins Gc dx (gf W r bs.length Bh R D))
 web:WebAt K C H W z bs
 rul:∃dx,H r=uA (.ins Dc dx u.fl)
 beh:∃ys,H Bh=uA (.lst ys)/\Bh≠R/\A1 (λt v=>∃l,v=.ref l/\l≠R/\H l=uA (.lst (nI (behP bs z t)))) (AK (bs.length+1)) ys
section
variable{u:Wr}{Dc g W r Bh R:Addr}{bs:uK}{φ:Heap->Prop}
theorem tsRD(e:∀b o,b≠R->b≠D->H b=uA o->H' b=uA o)(hR:H R=uA (.lst xs))(hD:H D=uA (.ext φ)):TSm H H':=λb u hb t=>by
 have ne:∀{x:Addr}{o:HO},H x=uA o->(∀ys,o≠.tup ys)->(∀q ys,o≠.frz q (.tup ys))->b≠x:=λ{x o} hx h1 h2 zz=>by
  rw[zz,hx] at hb;cases hb;obtain⟨ys,e| ⟨q,e⟩⟩:=t
  .exact h1 ys e
  .exact h2 q ys e
 exact e b u (ne hR (by intro _ z;cases z) (by intro _ _ z;cases z)) (ne hD (by intro _ z;cases z) (by intro _ _ z;cases z)) hb
theorem Gr.keep(h:Gr u K C Dc Gc g W r Bh R D z bs H)(e:∀b o,b≠R->b≠D->H b=uA o->H' b=uA o)(hR:H R=uA (.lst xs))(hD:H D=uA (.ext φ)):Gr u K C Dc Gc g W r Bh R D z bs H':=by
 have ts:=tsRD e hR hD;have ni:∀{x c dx:Addr}{fs:List (Str×V)},H x=uA (.ins c dx fs)->H' x=uA (.ins c dx fs):=λ{x c dx fs} hx=>e _ _ (Ck hx hR (by intro z;cases z)) (Ck hx hD (by intro z;cases z)) hx;have nl:∀{x:Addr}{l:List V},x≠R->H x=uA (.lst l)->H' x=uA (.lst l):=λ{x l} hn hx=>e _ _ hn (Ck hx hD (by intro z;cases z)) hx;obtain⟨d1,i1⟩:=h.ins;obtain⟨d2,j,i2,i3⟩:=h.web;obtain⟨d3,i4⟩:=h.rul;obtain⟨ys,b1,b2,b3⟩:=h.beh;exact⟨⟨d1,ni i1⟩,⟨d2,j,ni i2,Ao (Ao Ax) _ _ _ _ ts i3⟩,⟨d3,ni i4⟩,⟨ys,nl b2 b1,b2,Paired.imp (λt v ⟨l,c1,c2,c3⟩=>⟨l,c1,c2,nl c2 c3⟩) b3⟩⟩
theorem Gr.same(h:Gr u K C Dc Gc g W r Bh R D z bs H)(e:Same H H'):Gr u K C Dc Gc g W r Bh R D z bs H':=by
 obtain⟨d1,i1⟩:=h.ins;obtain⟨d3,i4⟩:=h.rul;obtain⟨ys,b1,b2,b3⟩:=h.beh;exact⟨⟨d1,e _ _ i1⟩,h.web.same e,⟨d3,e _ _ i4⟩,⟨ys,e _ _ b1,b2,Paired.imp (λt v ⟨l,c1,c2,c3⟩=>⟨l,c1,c2,e _ _ c3⟩) b3⟩⟩
end
noncomputable def encS(s:StC):NK.El shS:=(s.1,s.2.1.map uA,s.2.2.map λt=>t.map uA,())
def StAt(K:Au)(H:Hp)(b:Addr)(st:StC):Prop:=AtE K H shS (encS st) [.ref b]
theorem _root_.L2.TSm.sta{st:StC}(e:TSm H H')(h:StAt K H b st):StAt K H' b st:=AtE.ts e _ _ _ h
theorem Ij{α β:Type}{f:α->β}(hf:∀a b,f a=f b->a=b):∀{l m:List α},l.map f=m.map f->l=m
 | [],[],_=>rfl
 | [],_::_,h=>by cases h
 | _::_,[],h=>by cases h
 | a::l,b::m,h=>by
  rw[BU,BU] at h;injection h with h1 h2
  rw[hf a b h1,Ij hf h2]
theorem ABs{s s':StC}(h:encS s=encS s'):s=s':=by
 unfold encS at h;injection h with h1 h2
 injection h2 with h2 h3
 injection h3 with h3 _
 refine NC h1 (NC (Ij (λa b e=>by injection e) h2) (Ij (λa b e=>Ij (λa b e=>by injection e) e) h3))
def RS(u:Wr)(K:Au)(z:Nat)(H:Hp)(v:V):Option StC->Prop
 | none=>v=.non
 | some st=>∃b,v=.ref b/\StAt K H b st/\u.vld z st
def TV(u:Wr)(K:Au)(D:Addr):Sp:=λvs H Q _=>∃(p:V) (b dx a:Addr) (q z:Nat) (st:StC),vs=[.ref a,p,.ref b,.int q]/\H a=uA (.ins D dx u.fl)/\StAt K H b st/\u.vld z st/\q<z/\z<=10 /\
 ∀(v':V) (H':Hp),Same H H'->RS u K z H' v' (u.ps st q)->Q v' H'
def Vc(u:Wr)(K:Au)(C Dc Gc:Addr):Sp:=λvs H Q _=>∃(g W r Bh R D:Addr) (z t:Nat) (bs:uK) (v:V) (o:Option StC),vs=[.ref g,.int t,v]/\Gr u K C Dc Gc g W r Bh R D z bs H/\z<=10/\t<=bs.length/\RS u K z H v o /\
 ∀(v':V) (H':Hp),Same H H'->RS u K z H' v' (o.bind λr=>passU u r (behP bs z t))->Q v' H'
section
variable{u:Wr}
theorem QJ:FnScope ["self","number","reached","state","point"] zl22 (Ai ACT):=fscp (by decide+kernel)
theorem ADx(F:Fun K "past_points" "Growth.past_points" ACT f fd)(cD:Cls K D)(O:Gro K mg Gc)(GP:FnOk P w K mg base CX0 4 fP mw zl26 (TV u K D))(bP:Binds K mw zl26 [])(mP:Meth K D "passed" fP) :
  FnOk P w K mg base CX0 5 f fd zl22 (Vc u K C D Gc):=by
 refine F.ok QJ (λvs H Q E h=>?_) (λbE A outer s H vs Q E hr h=>?_)
 .obtain⟨g,W,r,Bh,R,Dk,z,t,bs,v,o,rfl,_⟩:=h
  rfl
 obtain⟨g,W,r,Bh,R,Dk,z,t,bs,v,o,rfl,gr,z10,tb,rs,q⟩:=h;refine⟨_,Ae (Am (i:=3) QJ.nd (pv 2))
  (Ae (Dq DZ rfl (Cw (Aq Bf (Br (pv 0) rfl) (pv 1))) (Bu (i:=4) QJ.nd)
   (Ak (Bv (Mj (ADh (pv 3))) (Ak (Am (i:=3) QJ.nd (DX (Br (pv 0) rfl) cD mP GP hr bP .nil pass0 (Aa (Br (pv 0) rfl) (Aa (pv 3) (Aa (pv 4) Ad)))))) BP)))
  (Ak (Av (pv 3)))),?_⟩
 obtain⟨dg,hg⟩:=gr.ins;obtain⟨dr,jb⟩:=gr.rul;obtain⟨ys,hB,_,pB⟩:=gr.beh;have lB:=AZ pB;rw[A9] at lB;have tl:t<ys.length:=by lia
 obtain⟨t',qB,l,el,_,hl⟩:=Paired.get pB (AG tl);have et:t'=t:=by
  have:=(AO.mp qB).2;rw[List.getElem_range] at this;exact this.symm
 subst et;have hat:atI ys (t':Int)=uA (.ref l):=by
  rw[<- el];exact Bg (AG tl)
 refine⟨_,rfl,?_⟩;refine⟨_,rfl,g,Gc,dg,_,_,rfl,hg,O.cl,O.nB,Zm _ _ _ _ _ _,_,rfl,Bh,ys,_,_,rfl,rfl,ut hB,hat,l,rfl,⟨_,ut hl⟩,?_⟩;refine FN (K:=K) (a:=l) (xs:=nI (behP bs z t')) (λi σ H2=>∃(v':V) (o4:Option V),σ=[uA (.ref g),uA (.int t'),uA v,uA v',o4]/\Same H H2/\RS u K z H2 v' (o.bind λr=>passU u r ((behP bs z t').take i)))
  ⟨v,uB,rfl,Same.refl _,by
   have e:(o.bind λr=>passU u r ((behP bs z t').take 0))=o:=by cases o<;>rfl
   rw[e];exact rs⟩ (λi σ H2 _ ⟨_,_,_,s2,_⟩=>s2.seq (ut hl)) ?_ ?_
 .rintro i x σ H2 hx ⟨v',o4,rfl,s2,rs2⟩
  obtain⟨pt,hp,rfl⟩:=VR hx;have pz:=AN.mp (B0.mp (BI hp)).1;have step:(o.bind λr=>passU u r ((behP bs z t').take (i+1)))=(o.bind λr=>passU u r ((behP bs z t').take i)).bind λs=>u.ps s pt:=by
   cases o with
   | none=>rfl
   | some r =>
    rw[CC,hp];show passU u r (_++[pt])=_;rw[Pb u]
    congr 1
    funext s
    show(u.ps s pt).bind (λs=>uA s)=_;cases u.ps s pt<;>rfl
  cases e:(o.bind λr=>passU u r ((behP bs z t').take i)) with
  | none =>
   rw[e] at rs2 step;cases rs2;refine⟨_,rfl,_,rfl,iteF ⟨.non,_,rfl,s2,?_⟩⟩;rw[step];exact rfl
  | some st =>
   rw[e] at rs2 step;obtain⟨b,rfl,hb,sl⟩:=rs2;refine⟨_,rfl,_,rfl,iteT ?_⟩;refine⟨_,rfl,g,Gc,dg,_,_,rfl,s2 _ _ hg,O.cl,O.nU,KN _ _ _ _ _ _,r,dr,_,rfl,s2 _ _ jb,u.nP,_,rfl,g,Gc,dg,_,_,rfl,s2 _ _ hg,O.cl,O.nW,RP _ _ _ _ _ _,_,rfl,_,rfl,.ref W,b,dr,r,pt,z,st,rfl,s2 _ _ jb,hb,sl,pz,z10,λv3 H3 s3 rs3=>?_⟩;refine⟨_,_,rfl,s2.trans s3,?_⟩;rw[step];exact rs3
 .rintro σ H2 ⟨v',o4,rfl,s2,rs2⟩
  rw[Fx,CO] at rs2;exact⟨_,rfl,q v' H2 s2 rs2⟩
end
noncomputable def ea(bs:uK)(t:Nat):Nat:=((bs.getD t []).getD 0 0).toNat
noncomputable def eb(bs:uK)(t:Nat):Nat:=((bs.getD t []).getD 1 0).toNat
def OkB(z:Nat)(bs:uK):Prop:=∀t∈bs,∃x y:Nat,t=[(x:Int),(y:Int)]/\x<z/\y<z
noncomputable def lefU(u:Wr)(bs:uK)(t:Nat)(st:StC):Option StC:=u.lf st (ea bs t) (eb bs t)
noncomputable def takU(u:Wr)(bs:uK)(t:Nat)(st:StC):Option StC:=u.tk st (ea bs t) (eb bs t)
noncomputable abbrev semC(u:Wr)(bs:uK)(z d t:Nat):Option StC->uL->Bool:=semX (lefU u bs) (takU u bs) (λt r=>passU u r (behP bs z t)) u.fu d t
def Good(u:Wr)(bs:uK)(z:Nat)(G:Nat->Option StC->Prop):Prop:=∀(t:Nat) (o:Option StC) (st:StC),t<bs.length->G t o->(o.bind λr=>passU u r (behP bs z t))=uA st->u.pre st (ea bs t) (eb bs t)/\G (t+1) (lefU u bs t st)/\G (t+1) (takU u bs t st)
noncomputable abbrev keyC(t:Nat)(st:StC):YKey:=(uA (t:Int),encS st,())
theorem Ry{t:Nat}{st bh:StC}(h:keyC t st=keyC t' bh):t=t'/\st=bh:=by
 injection h with h1 h2
 injection h2 with h2 _
 injection h1 with h1
 exact⟨fv h1,ABs h2⟩
def Known(u:Wr)(bs:uK)(z:Nat)(aI:List Row)(bb:List (YKey×V)):Prop:=∀(t:Nat) (st:StC) (v:V),valV bb (keyC t st)=uA v->∃k:Nat,v=.int k/\t<bs.length/\Lead aI t k (stepX (lefU u bs) (takU u bs) t (semC u bs z (bs.length-1-t) (t+1)) st)
theorem Known.app{u:Wr}{bs:uK}{aI more:List Row}{bb:List (YKey×V)}(o:Ok bs.length aI)(h:Known u bs z aI bb):Known u bs z (aI++more) bb:=λt st v hv=>let ⟨k,e,tl,ld⟩:=h t st v hv;⟨k,e,tl,ld.app o⟩
theorem Uv{x:Addr}{t:Nat}{st:StC}(hx:H x=uA (.tup [.int (t:Int),.ref b]))(hb:StAt K H b st):YAt K H (keyC t st) x:=⟨x,_,rfl,uu hx,.int (t:Int),[.ref b],rfl,rfl,.ref b,[],rfl,hb,rfl⟩
structure Rw(u:Wr)(P:AJ)(w:AQ)(K:Au)(R D:Addr)(bs:uK)(z:Nat)(H:Hp)(aI:List Row)(bb:List (YKey×V)):Prop where
 at_:∃xs,H R=uA (.lst xs)/\A1 (K45s.rRow K H) aI xs
 dn:DY K P w H D bb
 ok:Ok bs.length aI
 kn:Known u bs z aI bb
 len:bb.length<=aI.length
def Old(t:Nat)(bb ce:List (YKey×V)):Prop:=∀(t':Nat) (st:StC),t'<t->valV ce (keyC t' st)=valV bb (keyC t' st)
theorem AAr{u:Wr}{bs:uK}{d t:Nat}{o:Option StC}(h:(o.bind λr=>passU u r (behP bs z t))=uB)(s:uL):semC u bs z d t o s=false:=by
 cases o with
 | none=>exact HJ ..
 | some r=>exact Pz h
theorem Yc{u:Wr}{bs:uK}{t:Nat}{o:Option StC}{st:StC}(h:(o.bind λr=>passU u r (behP bs z t))=uA st)(s:uL):semC u bs z 0 t o s=(u.fu st&&decide (s=[])):=by
 cases o with
 | none=>cases h
 | some r=>exact Ug h
theorem AAo{u:Wr}{bs:uK}{d t:Nat}{o:Option StC}{st:StC}(h:(o.bind λr=>passU u r (behP bs z t))=uA st):semC u bs z (d+1) t o=stepX (lefU u bs) (takU u bs) t (semC u bs z d (t+1)) st:=by
 funext s
 cases o with
 | none=>cases h
 | some r=>exact XR h
def ABY(u:Wr)(K:Au):Sp:=λvs H Q _=>∃(r p:V) (b:Addr) (st:StC),vs=[r,p,.ref b]/\StAt K H b st/\Q (.bl (u.fu st)) H
def Qf(u:Wr)(K:Au)(C D:Addr):Sp:=λvs H Q _=>∃(a p b dx:Addr) (t z:Nat) (bs:uK) (st:StC),vs=[.ref a,.ref p,.ref b,.int t]/\H a=uA (.ins D dx u.fl)/\WebAt K C H p z bs/\OkB z bs/\StAt K H b st/\u.vld z st/\u.pre st (ea bs t) (eb bs t)/\t<bs.length/\z<=10 /\
 ∀(v':V) (H':Hp),Same H H'->RS u K z H' v' (takU u bs t st)->Q v' H'
def VB(u:Wr)(K:Au)(C D:Addr):Sp:=λvs H Q _=>∃(a p b dx:Addr) (t z:Nat) (bs:uK) (st:StC),vs=[.ref a,.ref p,.ref b,.int t]/\H a=uA (.ins D dx u.fl)/\WebAt K C H p z bs/\OkB z bs/\StAt K H b st/\u.vld z st/\u.pre st (ea bs t) (eb bs t)/\t<bs.length/\z<=10 /\
 ∀(v':V) (H':Hp),Same H H'->RS u K z H' v' (lefU u bs t st)->Q v' H'
def Ku(u:Wr)(P:AJ)(w:AQ)(K:Au)(C Dc Gc:Addr)(d:Nat):Sp:=λvs H Q _=>∃(g W r Bh R D:Addr) (z t:Nat) (bs:uK) (v:V) (o:Option StC) (aI:List Row) (bb:List (YKey×V)) (G:Nat->Option StC->Prop),vs=[.ref g,.int t,v]/\t+d=bs.length/\Gr u K C Dc Gc g W r Bh R D z bs H/\1<=z/\z<=10/\bs.length<=12/\OkB z bs/\Good u bs z G/\G t o/\RS u K z H v o/\Rw u P w K R D bs z H aI bb/\aI.length+2 ^ d<=4100 /\
 ∀(k:Nat) (more:List Row) (ce:List (YKey×V)) (H':Hp),(∀b o,b≠R->b≠D->H b=uA o->H' b=uA o)->Rw u P w K R D bs z H' (aI++more) ce->Lead (aI++more) t k (semC u bs z d t o)->Old t bb ce->Cnt t more->more.length+1<=2 ^ d->Q (.int k) H'
section
variable{u:Wr}{R:Addr}{bs:uK}{aI:List Row}{bb:List (YKey×V)}
theorem Rw.same(h:Rw u P w K R D bs z H aI bb)(e:Same H H'):Rw u P w K R D bs z H' aI bb:=by
 obtain⟨xs,h1,h2⟩:=h.at_;exact⟨⟨xs,e _ _ h1,Paired.imp (λ_ _ r=>K45s.Ci _ _ _ _ e.ts r) h2⟩,h.dn.keep (λo=>e _ o) e.ts,h.ok,h.kn,h.len⟩
end
section
variable{u:Wr}
theorem Gd:FnScope ["self","number","reached","state","without","having"] zl22 (Ai KD):=fscp (by decide+kernel)
theorem KZ(d:Nat)(F:Fun K "knot_at" "Growth.knot_at" KD f fd)(T:Txt K mg C)(cD:Cls K D)(O:Gro K mg Gc)
  (GP:FnOk P w K mg base CX0 5 fP mw zl22 (Vc u K C D Gc)) (bP:Binds K mw zl22 []) (mP:Meth K Gc "past_points" fP)
  (GL:FnOk P w K mg base CX0 4 fL nE zl25 (VB u K C D)) (bL:Binds K nE zl25 []) (mL:Meth K D "left" fL)
  (GT:FnOk P w K mg base CX0 4 fT eK zl25 (Qf u K C D)) (bT:Binds K eK zl25 []) (mT:Meth K D "taken" fT)
  (GU:FnOk P w K mg base CX0 1 fU ny zl14 (ABY u K)) (bU:Binds K ny zl14 []) (mU:Meth K D "fulfilled" fU) (iP:∀vs H Q E,d≠0->Ku u P w K C D Gc (d-1) vs H Q E->sp vs H Q E) (GK:FnOk P w K mg base CX0 (d+5) f fd zl22 sp) (bK:Binds K fd zl22 []) (mK:Meth K Gc "knot_at" f) :
  FnOk P w K mg base CX0 (d+6) f fd zl22 (Ku u P w K C D Gc d):=by
 refine F.ok Gd (λvs H Q E h=>?_) (λbE A outer s H vs Q E hr h=>?_)
 .obtain⟨g,W,r,Bh,R,Dk,z,t,bs,v,o,aI,bb,G,rfl,_⟩:=h
  rfl
 obtain⟨g,W,r,Bh,R,Dk,z,t,bs,v,o,aI,bb,G,rfl,td,gr,z1,z10,b8,j3,gd,go,rs,rw0,r6,q⟩:=h;have cS:Room 1 _:=hr.mono (by lia);have gp:Room 2 _:=hr.mono (by lia);have hr3:Room 3 _:=hr.mono (by lia);have mr:Room 4 _:=hr.mono (by lia);have hr5:Room 5 _:=hr.mono va;refine⟨_,Ae (Am (i:=3) Gd.nd (DX (pv 0) O.cl mP GP hr5 bP .nil pass0 (Aa (pv 1) (Aa (pv 2) Ad))))
  (Ae (Bv (Mj (AGA (pv 3))) (Ak (Av Ag)) BP)
  (Ae (Bv (Ar Du (pv 1) (Br (pv 0) rfl)) (Ak (Av (Ed (Ei (DX (Br (pv 0) rfl) cD mU GU cS bU .nil pass0 (Aa (Br (pv 0) rfl) (Aa (pv 3) Ad)))) Ag Ag))) BP)
  (Hx (Bv (Mj (AAR (Cg hr) (Bw (Aa (pv 1) (Aa (pv 3) Ad))) (Br (pv 0) rfl)) rfl)
   (Ae (Am (i:=4) Gd.nd (DX (pv 0) O.cl mK GK hr bK .nil pass0 (Aa (Aw Bs (pv 1) Ag) (Aa (DX (Br (pv 0) rfl) cD mL GL mr bL .nil pass0 (Aa (Br (pv 0) rfl) (Aa (pv 3) (Aa (pv 1) Ad)))) Ad))))
   (Ae (Am (i:=5) Gd.nd (DX (pv 0) O.cl mK GK hr bK .nil pass0 (Aa (Aw Bs (pv 1) Ag) (Aa (DX (Br (pv 0) rfl) cD mT GT mr bT .nil pass0 (Aa (Br (pv 0) rfl) (Aa (pv 3) (Aa (pv 1) Ad)))) Ad))))
   (Ae (Fw (PK Fu F9 Go Ec (Br (pv 0) rfl) (Aa (Bw (Aa (pv 1) (Aa (pv 4) (Aa (pv 5) Ad)))) Ad)))
   (Ak (ADz (Cg hr) (Br (pv 0) rfl) (Bw (Aa (pv 1) (Aa (pv 3) Ad))) (Aw Bs (BK Bc rfl T.len DF (Aa (Br (pv 0) rfl) Ad)) Ag) rfl))))) BP)
  (Ak (Av (AEJ (Cg hr) (Br (pv 0) rfl) (Bw (Aa (pv 1) (Aa (pv 3) Ad))) (λ_ _=>rfl))))))),?_⟩
 obtain⟨dg,hg⟩:=gr.ins;obtain⟨dr,jb⟩:=gr.rul;have p2:1<=2 ^ d:=Th;refine⟨_,rfl,g,dg,_,rfl,hg,rfl,_,rfl,_,rfl,g,W,r,Bh,R,Dk,z,t,bs,v,o,rfl,gr,z10,by lia,rs,λv' H1 s1 rs1=>?_⟩;have gr1:=gr.same s1;have rw1:=rw0.same s1;have hg1:=s1 _ _ hg;have rN:=s1 _ _ jb;cases e:(o.bind λr=>passU u r (behP bs z t)) with
 | none =>
  rw[e] at rs1;cases rs1;refine⟨_,rfl,_,rfl,iteT ?_⟩;exact q 0 [] bb H1 (λb o _ _ e=>s1 _ _ e) (by rw[B3];exact rw1) (Nb (AAr e)) (λ_ _ _=>rfl) cnt_nil (by simpa using p2)
 | some st =>
  rw[e] at rs1;obtain⟨b,rfl,hb,sl⟩:=rs1;refine⟨_,rfl,_,rfl,iteF ?_⟩;refine⟨_,rfl,_,rfl,g,Gc,dg,_,_,rfl,hg1,O.cl,O.nA,Ot _ _ _ _ _ _,rfl,_,rfl,?_⟩;by_cases d0:d=0
  .subst d0
   refine iteP (by rw[show t=bs.length from xq td]) ?_;refine⟨_,rfl,g,Gc,dg,_,_,rfl,hg1,O.cl,O.nU,KN _ _ _ _ _ _,r,dr,_,rfl,rN,u.nU,_,rfl,g,Gc,dg,_,_,rfl,hg1,O.cl,O.nW,RP _ _ _ _ _ _,_,rfl,_,_,b,st,rfl,hb,_,rfl,?_⟩;refine ite2 (λc=>?_) (λc=>?_)
   .exact q 1 [] bb H1 (λb o _ _ e=>s1 _ _ e) (by rw[B3];exact rw1) (ABy λs=>by rw[Yc e,c,Bool.true_and]) (λ_ _ _=>rfl) cnt_nil (by simpa using p2)
   .exact q 0 [] bb H1 (λb o _ _ e=>s1 _ _ e) (by rw[B3];exact rw1) (Nb λs=>by rw[Yc e,(Bool.not_eq_true _).mp c,V9]) (λ_ _ _=>rfl) cnt_nil (by simpa using p2)
  .obtain⟨d',rfl⟩:∃d',d=d'+1:=⟨d-1,by lia⟩
   have tn:t<bs.length:=xg td;refine iteN (λz=>by injection z with z;lia) ?_;have pd:2 ^ (d'+1)=2 ^ d'+2 ^ d':=by rw[M3];exact wL
   have pd1:1<=2 ^ d':=Th;refine⟨λσ' H'=>∃(o4 o5:Option V) (k:Nat) (more:List Row) (ce:List (YKey×V)),σ'=[uA (.ref g),uA (.int t),uA v,uA (.ref b),o4,o5]/\(∀b o,b≠R->b≠Dk->H b=uA o->H' b=uA o)/\Gr u K C D Gc g W r Bh R Dk z bs H'/\Rw u P w K R Dk bs z H' (aI++more) ce/\valV ce (keyC t st)=uA (.int k)/\Lead (aI++more) t k (semC u bs z (d'+1) t o)/\Old t bb ce/\Cnt t more/\more.length+1<=2 ^ (d'+1)/\StAt K H' b st,?_,?_⟩
   .refine⟨_,rfl,_,rfl,(by show 2<=sizeLine;decide),λx hx=>?_⟩
    have sx:=u4 hx (.tup [.int (t:Int),.ref b]);have lw:=sx _ _ hg1;have p8:=rw1.same sx;have qH:=gr1.same sx;have ic:=sx.ts.sta hb;refine⟨_,rfl,g,Gc,dg,_,_,rfl,lw,O.cl,O.nK,Lq _ _ _ _ _ _,Dk,valV bb (keyC t st),rfl,⟨bb,keyC t st,x,p8.dn,rfl,Uv Ab ic,rfl⟩,_,rfl,?_⟩;have s2:=s1.trans sx;cases ev:valV bb (keyC t st) with
    | some v0 =>
     obtain⟨k,rfl,_,ld⟩:=rw0.kn t st v0 ev;refine iteF ⟨_,_,k,[],bb,rfl,λb o _ _ e=>s2 _ _ e,qH,by rw[B3];exact p8,ev,?_,λ_ _ _=>rfl,cnt_nil,by simp;exact p2,ic⟩;rw[B3,AAo e,show d'=bs.length-1-t by lia];exact ld
    | none =>
     refine iteT ?_;have tK:=sx _ _ rN;have e1:((t:Int)+1)=((t+1:Nat):Int):=by lia
     refine⟨_,rfl,g,dg,_,rfl,lw,rfl,_,rfl,_,_,rfl,rfl,_,rfl,g,Gc,dg,_,_,rfl,lw,O.cl,O.nU,KN _ _ _ _ _ _,r,dr,_,rfl,tK,u.nL,_,rfl,g,Gc,dg,_,_,rfl,lw,O.cl,O.nW,RP _ _ _ _ _ _,_,rfl,_,rfl,r,W,b,dr,t,z,bs,st,rfl,tK,qH.web,j3,ic,sl,(gd t o st tn go e).1,tn,z10,λvL HL sL rsL=>?_⟩;have p8:=p8.same sL;have qH:=qH.same sL;have ic:=sL.ts.sta ic;have s2:=s2.trans sL;obtain⟨dg,lw⟩:=qH.ins;refine iP _ _ _ _ xZ ⟨g,W,r,Bh,R,Dk,z,t+1,bs,vL,lefU u bs t st,aI,bb,G,congrArg (λi=>[V.ref g,V.int i,vL]) e1,x5 td,qH,z1,z10,b8,j3,gd,(gd t o st tn go e).2.1,rsL,p8,by rw[Fc];lia,λk1 da kvs1 H3 kp3 qN ld1 sZ cnt1 ml1=>?_⟩;rw[Fc] at ld1 ml1;obtain⟨xs2,qI,_⟩:=id p8.at_;obtain⟨_,_,ax2,qt,_⟩:=id p8.dn;have qC:=qH.keep kp3 qI qt;have ts3:=tsRD kp3 qI qt;obtain⟨dg3,hg3⟩:=qC.ins;obtain⟨dr3,tR⟩:=qC.rul;have gg:=ts3.sta ic;refine⟨_,rfl,g,dg3,_,rfl,hg3,rfl,_,rfl,_,_,rfl,rfl,_,rfl,g,Gc,dg3,_,_,rfl,hg3,O.cl,O.nU,KN _ _ _ _ _ _,r,dr3,_,rfl,tR,u.nT,_,rfl,g,Gc,dg3,_,_,rfl,hg3,O.cl,O.nW,RP _ _ _ _ _ _,_,rfl,_,rfl,r,W,b,dr3,t,z,bs,st,rfl,tR,qC.web,j3,gg,sl,(gd t o st tn go e).1,tn,z10,λv4 H4 s4 rs4=>?_⟩;have oQ:=qN.same s4;have gr4:=qC.same s4;refine iP _ _ _ _ xZ ⟨g,W,r,Bh,R,Dk,z,t+1,bs,v4,takU u bs t st,aI++da,kvs1,G,congrArg (λi=>[V.ref g,V.int i,v4]) e1,x5 td,gr4,z1,z10,b8,j3,gd,(gd t o st tn go e).2.2,rs4,oQ,by rw[Fc,BN];lia,λk2 dA qJ H5 kp5 qv ld2 kX cnt2 ml2=>?_⟩;rw[Fc] at ld2 ml2;obtain⟨xs4,oq,_⟩:=id oQ.at_;obtain⟨_,_,ax4,se,_⟩:=id oQ.dn;have gr5:=gr4.keep kp5 oq se;have ts5:=tsRD kp5 oq se;obtain⟨dg5,hg5⟩:=gr5.ins;have hb5:=ts5.sta (s4.ts.sta gg);obtain⟨kq,oj,px5⟩:=id qv.at_;obtain⟨_,_,ax5,qf,_⟩:=id qv.dn;have lx5:=AZ px5;refine⟨_,rfl,g,Gc,dg5,_,_,rfl,hg5,O.cl,O.nR,QT _ _ _ _ _ _,.inl ⟨rfl,_,ut oj⟩,_,rfl,_,rfl,_,rfl,(by show 3<=sizeLine;decide),λy hy=>?_⟩;have sy:=u4 hy (.tup [.int (t:Int),.int (k1:Int),.int (k2:Int)]);have l5:kq.length<=4100:=by
      rw[<- lx5];simp only[BN];lia
     refine⟨R,_,_,rfl,rfl,sy _ _ oj,smallN (wC l5),?_⟩;obtain⟨ok6,ld6⟩:=Yu (lef:=lefU u bs) (tak:=takU u bs) (g:=semC u bs z d' (t+1)) (st:=st) qv.ok tn (ld1.app qN.ok) ld2;have RD:=Ck oj qf (by intro z;cases z);have gR:=Ck hg5 oj (by intro z;cases z);have sE:=sy _ _ oj;have tl6:=u3 (o:=.lst (kq++[.ref y])) sE;have k6:∀c o,c≠R->H5 c=uA o->(upd (upd H5 y (.tup [.int (t:Int),.int (k1:Int),.int (k2:Int)])) R (.lst (kq++[.ref y]))) c=uA o:=λc o h e=>by rw[Ah h];exact sy _ _ e
     have sQ:=gr5.keep (H':=upd (upd H5 y (.tup [.int (t:Int),.int (k1:Int),.int (k2:Int)])) R (.lst (kq++[.ref y]))) (λc o h _ e=>k6 c o h e) oj qf;have dn6:=qv.dn.keep (H':=upd (upd H5 y (.tup [.int (t:Int),.int (k1:Int),.int (k2:Int)])) R (.lst (kq++[.ref y]))) (λo=>k6 _ o (CF RD)) (sy.ts.trans tl6);have tD:=(sy.ts.trans tl6).sta hb5;have kx:(upd (upd H5 y (.tup [.int (t:Int),.int (k1:Int),.int (k2:Int)])) R (.lst (kq++[.ref y]))) R=uA (.lst (kq++[.ref y])):=Ab;have px6:A1 (K45s.rRow K (upd (upd H5 y (.tup [.int (t:Int),.int (k1:Int),.int (k2:Int)])) R (.lst (kq++[.ref y])))) (aI++da++dA++[(t,k1,k2)]) (kq++[.ref y]):=by
      refine Paired.app (Paired.imp (λ_ _ c=>K45s.Ci _ _ _ _ (sy.ts.trans tl6) c) px5) (uz ⟨y,rfl,uu ?_⟩);rw[Ah (Ck Ab sE (by intro z;cases z))];exact Ab
     generalize upd (upd H5 y (.tup [.int (t:Int),.int (k1:Int),.int (k2:Int)])) R (.lst (kq++[.ref y]))=H6 at k6 sQ dn6 tD kx px6;obtain⟨dg6,hg6⟩:=sQ.ins;obtain⟨_,_,ax6,ot,_⟩:=id dn6;have new:valV qJ (keyC t st)=uB:=by rw[kX t st vH,sZ t st vH,ev]
     have kl2:=qv.len;refine⟨_,rfl,g,Gc,dg6,_,_,rfl,hg6,O.cl,O.nR,QT _ _ _ _ _ _,R,_,rfl,.inl (ut kx),_,_,rfl,rfl,_,rfl,g,Gc,dg6,_,_,rfl,hg6,O.cl,O.nK,Lq _ _ _ _ _ _,_,rfl,_,rfl,(by show 2<=sizeLine;decide),λu hu=>?_⟩;have su:=u4 hu (.tup [.int (t:Int),.ref b]);refine⟨Dk,qJ,keyC t st,u,rfl,rfl,dn6.keep (λo=>su _ o) su.ts,Uv Ab (su.ts.sta tD),new,smallN (by rw[lx5] at kl2;lia),λH9 mM dn9=>?_⟩;have kl:(((kq++[V.ref y]).length:Nat):Int)+1=(((aI++da++dA).length+2:Nat):Int):=by
      rw[BN,D5,<- lx5];lia
     rw[show(λ(i j:Int)=>V.int (i+j)) (((kq++[V.ref y]).length:Nat):Int) 1=V.int (((aI++da++dA).length+2:Nat):Int) from congrArg V.int kl] at dn9;have k9:∀c o,c≠Dk->H6 c=uA o->H9 c=uA o:=λc o h e=>by rw[mM c h];exact su _ _ e
     have eas:aI++(da++dA++[(t,k1,k2)])=aI++da++dA++[(t,k1,k2)]:=by simp only[B9]
     have ts9:=tsRD (R:=R) (D:=Dk) (λc o _ h e=>k9 c o h e) kx ot;refine⟨_,_,(aI++da++dA).length+2,da++dA++[(t,k1,k2)],putK qJ (keyC t st) (.int (((aI++da++dA).length+2:Nat):Int)),rfl,λc o h1 h2 e=>?_,?_,?_,?_,?_,?_,ACk cnt1 cnt2,?_,ts9.sta tD⟩
     .exact k9 _ _ h2 (k6 _ _ h1 (kp5 _ _ h1 h2 (s4 _ _ (kp3 _ _ h1 h2 (s2 _ _ e)))))
     .exact sQ.keep (λc o _ h e=>k9 c o h e) kx ot
     .rw[eas]
      refine⟨⟨_,k9 _ _ RD kx,Paired.imp (λ_ _ c=>K45s.Ci _ _ _ _ ts9 c) px6⟩,dn9,ok6,λt' bh v' ow=>?_,?_⟩
      .rw[Ef] at ow
       by_cases c:keyC t' bh=keyC t st
       .rw[uE c] at ow
        cases ow;obtain⟨rfl,rfl⟩:=Ry c;refine⟨_,rfl,tn,?_⟩;rw[show bs.length-1-t'=d' by lia];exact ld6
       .rw[uD c] at ow
        exact(qv.kn.app qv.ok) t' bh v' ow
      .rw[JG _ new,BN,D5,BN,D5]
       exact wE kl2
     .rw[Ef,uE rfl]
     .rw[eas,AAo e]
      exact ld6
     .intro t' bh lt
      rw[Ef,uD (λc=>by have:=(Ry c).1;exact vk lt this),kX t' bh (vg lt),sZ t' bh (vg lt)]
     .simp only[BN,D5]
      lia
   .rintro σ H6 ⟨o4,o5,k,more,ce,rfl,kp,sQ,rw6,val,ld,cz,cnt,ml,tD⟩
    obtain⟨dg6,hg6⟩:=sQ.ins;refine⟨_,rfl,g,Gc,dg6,_,_,rfl,hg6,O.cl,O.nK,Lq _ _ _ _ _ _,_,rfl,_,rfl,(by show 2<=sizeLine;decide),λy hy=>?_⟩;have sy:=u4 hy (.tup [.int (t:Int),.ref b]);exact⟨Dk,.int k,rfl,⟨ce,keyC t st,y,rw6.dn.keep (λo=>sy _ o) sy.ts,rfl,Uv Ab (sy.ts.sta tD),val⟩,q k more ce _ (λc o h1 h2 e=>sy _ _ (kp c o h1 h2 e)) (rw6.same sy) ld cz cnt ml⟩
end
def Yh(u:Wr)(P:AJ)(w:AQ)(K:Au)(C Dc Gc:Addr):Sp:=λvs H Q _=>∃(g dx W r dr:Addr) (z:Nat) (bs:uK),vs=[.ref g,.ref W,.ref r]/\H g=uA (.ins Gc dx [])/\W≠g/\r≠g/\WebAt K C H W z bs/\H r=uA (.ins Dc dr u.fl)/\z<=10/\bs.length<=12 /\
 ∀(Bh R D:Addr) (H':Hp),(∀b o,H b=uA o->b≠g->H' b=uA o)->Gr u K C Dc Gc g W r Bh R D z bs H'->Rw u P w K R D bs z H' [] []->H R=none->H D=none->Q .non H'
section
variable{u:Wr}
theorem AEV:FnScope zl8 zl8 (Ai Qy):=fscp (by decide+kernel)
theorem ACR(F:Fun K "__init__" "Growth.__init__" Qy f fd)(T:Txt K mg C)(O:Gro K mg Gc)
  (GT:FnOk P w K mg base CX0 1 fT eK zl3 (Qq K C)) (bT:Binds K eK zl3 []) (mT:Meth K C "ties" fT)
  (GB:Cal P w K mg base 2 fB fdB "points_behind" zl5 (ACz K C)) :
  FnOk P w K mg base CX0 3 f fd zl8 (Yh u P w K C D Gc):=by
 refine F.ok AEV (λvs H Q E h=>?_) (λbE A outer s H vs Q E hr h=>?_)
 .obtain⟨g,dx,W,r,dr,z,bs,rfl,_⟩:=h
  rfl
 obtain⟨g,dx,W,r,dr,z,bs,rfl,hg,Wg,rg,hW,jb,z10,b8,q⟩:=h;have cS:Room 1 _:=hr.mono (by decide);refine⟨_,Ae (DP (pv 0) (pv 1) rfl)
  (Ae (DP (pv 0) (pv 2) rfl)
  (Ae (DP (pv 0) (BK Bc rfl T.len DF (Aa (Cm (pv 1) T.cl mT GT cS bT .nil pass0) Ad)) rfl)
  (Ae (DP (pv 0) (Ce (Ai Qy) ["number"] ["web"] [1] rfl rfl (by decide+kernel) ⟨⟨rfl,by decide+kernel⟩,trivial⟩ (DG rfl T.range (Aa (Aw Bs (Br (pv 0) rfl) Ag) Ad))
   (λ_ _ _=>BJ (i:=0)) (λ_ _ _=>Cr)
   (λ_ _ _=>Az GB hr rfl (Aa (pv 1) (Aa (pv 0) Ad)))) rfl)
  (Ae (DP (pv 0) (Cv Ad) rfl)
  (Ak (DP (pv 0) ABk rfl)))))),?_⟩
 have tsI:∀{H0:Hp}{fs gs:List (Str×V)},H0 g=uA (.ins Gc dx fs)->TSm H0 (upd H0 g (.ins Gc dx gs)):=λ{H0 fs gs} hP b u hb t=>by
  rw[Ah ?_]
  .exact hb
  .rintro rfl
   rw[hP] at hb;cases hb;obtain⟨ys,e| ⟨o,e⟩⟩:=t
   .cases e
   .cases e
 refine⟨_,rfl,_,rfl,g,Gc,dx,[],rfl,hg,O.cl,O.nW,(by decide),?_⟩;refine⟨_,rfl,_,rfl,g,Gc,dx,_,rfl,Ab,O.cl,O.nU,(by show 1<1000;decide),?_⟩;rw[XH];have k1:∀b o,b≠g->H b=uA o->(upd H g (.ins Gc dx (putF "rule" (.ref r) (putF "web" (.ref W) [])))) b=uA o:=λb o h e=>by rw[Ah h];exact e
 have ts1:=tsI (gs:=putF "rule" (.ref r) (putF "web" (.ref W) [])) hg;have g1:(upd H g (.ins Gc dx (putF "rule" (.ref r) (putF "web" (.ref W) [])))) g=uA (.ins Gc dx (putF "rule" (.ref r) (putF "web" (.ref W) []))):=Ab;generalize upd H g (.ins Gc dx (putF "rule" (.ref r) (putF "web" (.ref W) [])))=H1 at k1 ts1 g1;have hW1:WebAt K C H1 W z bs:=by
  obtain⟨d,j,a1,a2⟩:=hW;exact⟨d,j,k1 _ _ Wg a1,Ao (Ao Ax) _ _ _ _ ts1 a2⟩
 obtain⟨dw,jw,hw1,_⟩:=id hW1;refine⟨_,rfl,W,dw,_,rfl,hw1,rfl,W,z,bs,rfl,hW1,λl H2 s2 hl hL=>?_⟩;obtain⟨l',ts,el,hX,px⟩:=hL;cases el;have lt:=(AZ px).symm;refine⟨l,_,rfl,.inl hX,_,rfl,g,Gc,dx,_,rfl,s2 _ _ g1,O.cl,O.nA,(by show 2<1000;decide),?_⟩;have g2:=s2 _ _ g1;rw[lt];have k3:∀b o,b≠g->H b=uA o->(upd H2 g (.ins Gc dx (putF "amount" (.int (bs.length:Nat)) (putF "rule" (.ref r) (putF "web" (.ref W) []))))) b=uA o:=λb o h e=>by rw[Ah h];exact s2 _ _ (k1 b o h e)
 have ts3:=ts1.trans (s2.ts.trans (tsI (gs:=putF "amount" (.int (bs.length:Nat)) (putF "rule" (.ref r) (putF "web" (.ref W) []))) g2));have g3:(upd H2 g (.ins Gc dx (putF "amount" (.int (bs.length:Nat)) (putF "rule" (.ref r) (putF "web" (.ref W) []))))) g=uA (.ins Gc dx (putF "amount" (.int (bs.length:Nat)) (putF "rule" (.ref r) (putF "web" (.ref W) [])))):=Ab;generalize upd H2 g (.ins Gc dx (putF "amount" (.int (bs.length:Nat)) (putF "rule" (.ref r) (putF "web" (.ref W) []))))=H3 at k3 ts3 g3;have hW3:WebAt K C H3 W z bs:=by
  obtain⟨d,j,a1,a2⟩:=hW;exact⟨d,j,k3 _ _ Wg a1,Ao (Ao Ax) _ _ _ _ ts3 a2⟩
 refine⟨_,rfl,g,Gc,dx,_,_,rfl,g3,O.cl,O.nA,(by rw[Aj,uE rfl]),_,_,rfl,rfl,_,rfl,by lia,by lia,λBh hBh=>?_⟩;refine Er (lo:=0) (n:=(((bs.length:Nat):Int)+1).toNat) (λj τ H4=>∃(o:Option V) (ys:List V),τ=[o,uA (.ref W)]/\Same H3 H4/\H4 Bh=uA (.lst ys)/\A1 (λt v=>∃l,v=.ref l/\l≠Bh/\H4 l=uA (.lst (nI (behP bs z t)))) (AK j) ys) ⟨uB,[],rfl,u4 hBh _,Ab,.nil⟩ ?_ ?_
 .rintro j τ H4 hj ⟨o,ys,rfl,s4,eB,pB⟩
  have ej:(0:Int)+j=(j:Int):=vI;rw[ej];have ly:=AZ pB;rw[A9] at ly;refine yesN ⟨_,rfl,_,rfl,W,j,z,bs,rfl,hW3.same s4,z10,b8,λm H5 s5 hm em=>?_⟩;have GB.m:m≠Bh:=λz=>by rw[z,eB] at hm;cases hm
  refine⟨_,s5 _ _ eB,BZ (by lia),_,_,rfl,λb o e=>?_,Ab,?_⟩
  .rw[Ah (Af e hBh)]
   exact s5 _ _ (s4 b o e)
  .rw[EV]
   refine Paired.app (Paired.imp (λt v ⟨l,e1,e2,e3⟩=>⟨l,e1,e2,by rw[Ah e2];exact s5 _ _ e3⟩) pB) (uz ⟨m,rfl,GB.m,by rw[Ah GB.m];exact em⟩)
 rintro τ H4 ⟨o,ys,rfl,s4,eB,pB⟩;rw[show(((bs.length:Nat):Int)+1).toNat=bs.length+1 by lia] at pB;have g4:=s4 _ _ g3;have gB:Bh≠g:=λz=>by rw[z,g4] at eB;cases eB
 refine⟨_,rfl,g,Gc,dx,_,rfl,g4,O.cl,O.nB,(by show 3<1000;decide),?_⟩;have nBH:H Bh=uB:=by
  cases e:H Bh with
  | none=>rfl
  | some o=>have:=k3 _ _ gB e;rw[hBh] at this;cases this
 refine⟨A7 _,λR hR=>?_⟩;have gR:R≠g:=λz=>by rw[z,Ab] at hR;cases hR
 have hR4:H4 R=uB:=by rw[Ah gR] at hR;exact hR
 have BR:=Af eB hR4;refine⟨_,rfl,g,Gc,dx,_,rfl,by rw[Ah (CF gR)];exact Ab,O.cl,O.nR,(by show 4<1000;decide),?_⟩;refine λDk hD dn0=>?_;have gD:Dk≠g:=λz=>by rw[z,Ab] at hD;cases hD
 have RD:Dk≠R:=λz=>by rw[z,Ah gR,Ab] at hD;cases hD
 have hD4:H4 Dk=uB:=by rw[Ah gD,Ah RD,Ah gD] at hD;exact hD
 refine⟨_,rfl,g,Gc,dx,_,rfl,by rw[Ah (CF gD)];exact Ab,O.cl,O.nK,(by show 5<1000;decide),?_⟩;have fin:∀b o,b≠g->H4 b=uA o->(upd (upd (upd (upd (upd H4 g (.ins Gc dx (putF "behind" (.ref Bh) (putF "amount" (.int (bs.length:Nat)) (putF "rule" (.ref r) (putF "web" (.ref W) [])))))) R (.lst [])) g (.ins Gc dx (putF "rows" (.ref R) (putF "behind" (.ref Bh) (putF "amount" (.int (bs.length:Nat)) (putF "rule" (.ref r) (putF "web" (.ref W) []))))))) Dk (dY P w Dk [])) g (.ins Gc dx (gf W r (bs.length:Nat) Bh R Dk))) b=uA o:=λb o h e=>by
  rw[Ah h,Ah (Af e hD4),Ah h,Ah (Af e hR4),Ah h];exact e
 have fT:TSm H4 (upd (upd (upd (upd (upd H4 g (.ins Gc dx (putF "behind" (.ref Bh) (putF "amount" (.int (bs.length:Nat)) (putF "rule" (.ref r) (putF "web" (.ref W) [])))))) R (.lst [])) g (.ins Gc dx (putF "rows" (.ref R) (putF "behind" (.ref Bh) (putF "amount" (.int (bs.length:Nat)) (putF "rule" (.ref r) (putF "web" (.ref W) []))))))) Dk (dY P w Dk [])) g (.ins Gc dx (gf W r (bs.length:Nat) Bh R Dk))):=λb u hb t=>fin b u (λz=>by
  rw[z,g4] at hb;cases hb;obtain⟨ys,e| ⟨o,e⟩⟩:=t
  .cases e
  .cases e) hb
 have cz:∀x,x≠g->H4 x=none->H x=uB:=λx h n=>by
  cases e:H x with
  | none=>rfl
  | some o=>have:=s4 _ _ (k3 _ _ h e);rw[n] at this;cases this
 refine q Bh R Dk _ (λb o e h=>fin b o h (s4 _ _ (k3 b o h e))) ⟨⟨dx,Ab⟩,?_,⟨dr,fin _ _ rg (s4 _ _ (k3 _ _ rg jb))⟩,⟨ys,fin _ _ gB eB,BR,Paired.imp (λt v ⟨l,e1,e2,e3⟩=>⟨l,e1,Af e3 hR4,fin _ _ (λz=>by rw[z,g4] at e3;cases e3) e3⟩) pB⟩⟩ ?_ (cz R gR hR4) (cz Dk gD hD4)
 .obtain⟨d,j,a1,a2⟩:=hW3.same s4
  exact⟨d,j,fin _ _ Wg a1,Ao (Ao Ax) _ _ _ _ fT a2⟩
 .refine⟨⟨[],by rw[Ah gR,Ah (CF RD),Ah gR,Ab],.nil⟩,dn0.keep (λo e=>by rw[Ah gD];exact e) (tsI (fs:=_) (by rw[Ah (CF gD)];exact Ab)),λi r h=>(by simp at h),λt st v hv=>(by cases hv),AF _⟩
end
section
variable{u:Wr}
theorem Ox{fP fL fT fU:Addr}{mw nE eK ny:BA}(F:Fun K "knot_at" "Growth.knot_at" KD f fd)(T:Txt K mg C)(cD:Cls K D)(O:Gro K mg Gc)
  (GP:FnOk P w K mg base CX0 5 fP mw zl22 (Vc u K C D Gc)) (bP:Binds K mw zl22 []) (mP:Meth K Gc "past_points" fP)
  (GL:FnOk P w K mg base CX0 4 fL nE zl25 (VB u K C D)) (bL:Binds K nE zl25 []) (mL:Meth K D "left" fL)
  (GT:FnOk P w K mg base CX0 4 fT eK zl25 (Qf u K C D)) (bT:Binds K eK zl25 []) (mT:Meth K D "taken" fT)
  (GU:FnOk P w K mg base CX0 1 fU ny zl14 (ABY u K)) (bU:Binds K ny zl14 []) (mU:Meth K D "fulfilled" fU)
  (bK:Binds K fd zl22 []) (mK:Meth K Gc "knot_at" f):∀d,FnOk P w K mg base CX0 (d+6) f fd zl22 (Ku u P w K C D Gc d)
 | 0=>KZ 0 F T cD O GP bP mP GL bL mL GT bT mT GU bU mU (sp:=λ_ _ _ _=>False) (λ_ _ _ _ h=>uI rfl h) (F.ok Gd (λvs H Q E h=>Ee h) (λbE A outer s H vs Q E hr h=>Ee h)) bK mK
 | d+1=>KZ (d+1) F T cD O GP bP mP GL bL mL GT bT mT GU bU mU (sp:=Ku u P w K C D Gc d) (λ_ _ _ _ _ h=>h) (Ox F T cD O GP bP mP GL bL mL GT bT mT GU bU mU bK mK d) bK mK
end
theorem Ra{st:StO}{p:Nat}(h:p<st.length):atI (st.map oV) (p:Int)=uA (oV (st.getD p uB)):=Bg (by rw[AY,AD,AG h];rfl)
theorem Ye(c:Option Int):flatV (oV c)=true:=by cases c<;>rfl
theorem AFp{a b:Option Int}(h:oV a=oV b):a=b:=by cases a<;>cases b<;>first| rfl| (injection h with h;rw[h])| cases h
theorem oV_scal(a b:Option Int):scal (oV a) (oV b)=true:=by cases a<;>cases b<;>rfl
theorem AGP(a b:Option Int):decide (oV a=oV b)=decide (a=b):=decide_eq_decide.mpr ⟨AFp,λh=>by rw[h]⟩
theorem QB{st:StO}(h:(st.map oV)[i]?=uA y):i<st.length/\y=oV (st.getD i uB):=by
 have il:=(AO.mp h).1;rw[AB] at il;rw[AY,AG il] at h;refine⟨il,?_⟩;rw[AD,AG il];exact(BO h).symm
theorem ACo{k:Nat}(h:k<n):ixN n (k:Int)=uA k:=by
 unfold ixN;simp;lia
def HdAt(K:Au)(H:Hp)(b:Addr)(st:StO):Prop:=SqT K H b (st.map oV)
noncomputable def undW(st:StO)(c:Option Int)(j:Nat):uL:=(AK j).filter λq=>decide (st.getD q uB=c)
def Qh(K:Au):Sp:=λvs H Q _=>∃(b:Addr) (st:StO) (c:Option Int),vs=[.ref b,oV c]/\HdAt K H b st/\st.length<=10/\∀(l:Addr) (H':Hp),Same H H'->H l=none->H' l=uA (.lst (nI (undW st c st.length)))->Q (.ref l) H'
def YJ(K:Au):Sp:=λvs H Q _=>∃(b:Addr) (st:StO) (i j:Int),vs=[.ref b,.int i,.int j]/\HdAt K H b st/\st.length<=10/\∀(l:Addr) (H':Hp),Same H H'->H l=none->H' l=uA (.lst ((joinW st i j).map oV))->Q (.ref l) H'
theorem AEv:FnScope zl9 zl9 (Ai Pn):=fscp (by decide+kernel)
theorem ACu(F:Fun K "points_under" "points_under" Pn f fd)(T:Txt K mg C):FnOk P w K mg base CX0 1 f fd zl9 (Qh K):=by
 refine F.ok AEv (λvs H Q E h=>?_) (λbE A outer s H vs Q E hr h=>?_)
 .obtain⟨b,st,c,rfl,_⟩:=h
  rfl
 obtain⟨b,st,c,rfl,hb,jI,q⟩:=h;refine⟨_,Ak (Av (Ce (Ai Pn) ["point","its_head"] ["head"] [1] rfl rfl (by decide+kernel) ⟨⟨rfl,by decide+kernel⟩,trivial⟩ (Ii rfl T.enum (Aa (pv 0) Ad))
    (λ_ _ _=>Ek (K:=K) (n:=2) rfl rfl (Bt (BJ (i:=0)) (Bt (BJ (i:=1)) En)))
    (λ_ _ _=>Cq (Ar Du (pv 1) (pv 2))) (λ_ _ _=>pv 0))),?_⟩
 refine⟨_,rfl,b,rfl,⟨_,hb⟩,λZ hZ=>?_⟩;refine Fq (xs:=st.map oV) (λi τ H2=>∃n t:Option V,τ=[n,t,uA (oV c)]/\Same H H2/\H2 Z=uA (.lst (nI (undW st c i)))) ⟨uB,uB,rfl,u4 hZ _,Ab⟩ (λi τ H2 _ ⟨_,_,_,sm,_⟩=>sm.ts.seq hb) ?_ ?_
 .rintro i y τ H2 T1 hy fm ⟨n,t,rfl,sm,eZ⟩
  obtain⟨il,rfl⟩:=QB hy;have s2:Same H2 (upd H2 T1 (.tup [.int i,oV (st.getD i uB)])):=u4 fm _;have lo:(undW st c i).length<=i:=BY (CH ..) (by rw[A9];exact AF _);refine⟨T1,_,rfl,uu Ab,rfl,_,_,rfl,_,_,rfl,rfl,?_⟩;refine⟨_,rfl,_,rfl,oV_scal _ _,_,rfl,?_⟩;rw[AGP];by_cases cc:st.getD i uB=c
  .refine iteP cc ⟨_,rfl,_,s2 _ _ eZ,BZ (by rw[Fx];lia),_,_,rfl,λb o e=>?_,?_⟩
   .rw[Ah (Af e hZ)]
    exact s2 _ _ (sm b o e)
   .rw[Ab]
    unfold undW;rw[EV,CD,EO (by simpa using cc)];unfold nI;rw[BE];rfl
  .refine iteN cc ⟨_,_,rfl,sm.trans s2,?_⟩
   unfold undW;rw[EV,CD,D7 (by simpa using cc),JI,B3];exact s2 _ _ eZ
 .rintro τ H2 ⟨n,t,rfl,sm,eZ⟩
  rw[AB] at eZ;exact q Z _ sm hZ eZ
theorem YB:FnScope ["heads","one","other","least"] zl23 (Ai Py):=fscp (by decide+kernel)
theorem ACn(F:Fun K "parts_as_one" "parts_as_one" Py f fd)(T:Txt K mg C):FnOk P w K mg base CX0 1 f fd zl23 (YJ K):=by
 refine F.ok YB (λvs H Q E h=>?_) (λbE A outer s H vs Q E hr h=>?_)
 .obtain⟨b,st,i,j,rfl,_⟩:=h
  rfl
 obtain⟨b,st,i,j,rfl,hb,jI,q⟩:=h;refine⟨_,Ae (Am (i:=3) YB.nd (BK (JK rfl) rfl T.min MB (Aa (pv 1) (Aa (pv 2) Ad))))
  (Ak (Av (Ce (Ai Py) ["head"] ["least","one","other"] [3,1,2] rfl rfl (by decide+kernel) ⟨⟨rfl,by decide+kernel⟩,⟨rfl,by decide+kernel⟩,⟨rfl,by decide+kernel⟩,trivial⟩ (Kc (pv 0))
    (λ_ _ _=>BJ (i:=0)) (λ_ _ _=>Cr)
    (λ_ _ _=>Ed (Ar (Fz (K:=K) rfl) (pv 0) (Bw (Aa (pv 2) (Aa (pv 3) Ad))) rfl) (pv 1) (pv 0))))),?_⟩
 have em:(if j<i then j else i)=min i j:=by split<;>lia
 refine⟨_,rfl,_,rfl,_,_,rfl,?_⟩;rw[em];refine⟨_,rfl,b,rfl,⟨_,hb⟩,λZ hZ=>?_⟩;refine Ew (K:=K) (a:=b) (xs:=st.map oV) (λk τ H2=>∃n:Option V,τ=[n,uA (.int (min i j)),uA (.int i),uA (.int j)]/\Same H H2/\H2 Z=uA (.lst ((joinW (st.take k) i j).map oV))) ⟨uB,rfl,u4 hZ _,Ab⟩ (λk τ H2 _ ⟨_,_,sm,_⟩=>sm.ts.seq hb) ?_ ?_
 .rintro k y τ H2 hy ⟨n,rfl,sm,eZ⟩
  obtain⟨kl,rfl⟩:=QB hy;have hk:st[k]?=uA (st.getD k uB):=by rw[AD,AG kl];rfl
  have jt:joinW (st.take (k+1)) i j=joinW (st.take k) i j++[if st.getD k uB=uA i\/st.getD k uB=uA j then uA (min i j) else st.getD k uB]:=by
   unfold joinW;rw[CC,hk,BE];rfl
  generalize st.getD k uB=c at hk jt;have jl:(joinW (st.take k) i j).length<=10:=by unfold joinW;rw[AB,B7];exact vx jI
  refine yesN ⟨_,rfl,_,rfl,_,rfl,(by show 2<=sizeLine;decide),λt ht=>?_⟩;have s2:=u4 ht (.tup [V.int i,V.int j]);have ei:inV (oV c) [V.int i,V.int j]=decide (c=uA i\/c=uA j):=by
   cases c with
   | none=>rfl
   | some x =>
    have:=FZ x [i,j];refine this.trans (decide_eq_decide.mpr ?_);simp
  refine⟨t,_,rfl,.inr (uu Ab),Ye c,rfl,_,rfl,?_⟩;rw[uD (show ¬ (false=true) by decide),ei];have fin:∀d:Option Int,d=(if c=uA i\/c=uA j then uA (min i j) else c)->∃ys,(upd H2 t (.tup [V.int i,V.int j])) Z=uA (.lst ys)/\ys.length<sizeLine/\∃n:Option V,[uA (oV c),uA (.int (min i j)),uA (.int i),uA (.int j)]=[n,uA (.int (min i j)),uA (.int i),uA (V.int j)]/\Same H (upd (upd H2 t (.tup [V.int i,V.int j])) Z (.lst (ys++[oV d])))/\(upd (upd H2 t (.tup [V.int i,V.int j])) Z (.lst (ys++[oV d]))) Z=uA (.lst ((joinW (st.take (k+1)) i j).map oV)):=λd ed=>by
   refine⟨_,s2 _ _ eZ,BZ (by rw[AB];exact wD jl),_,rfl,λb o e=>?_,?_⟩
   .rw[Ah (Af e hZ)]
    exact s2 _ _ (sm b o e)
   .rw[Ab,jt,BE,ed]
    rfl
  by_cases cc:c=uA i\/c=uA j
  .exact iteP cc ⟨_,rfl,fin (uA (min i j)) (by rw[uE cc])⟩
  .exact iteN cc ⟨_,rfl,fin c (by rw[uD cc])⟩
 .rintro τ H2 ⟨n,rfl,sm,eZ⟩
  rw[AB,CO] at eZ;exact q Z _ sm hZ eZ
theorem Rq(st:StO)(p:Nat):restW st p=(undW st (st.getD p uB) st.length).filter λq=>decide (q≠p):=by
 unfold restW undW;rw[List.filter_filter];refine LY λq _=>?_;rw[DV,decide_eq_true_iff,EB,decide_eq_true_iff,decide_eq_true_iff];exact⟨λh=>⟨h.2,h.1⟩,λh=>⟨h.2,h.1⟩⟩
noncomputable def hdsW(st:StO)(p k:Nat):StO:=(AK k).map λq=>if q∈restW st p then uA (((restW st p).headD 0:Nat):Int) else st.getD q uB
theorem ACx(st:StO)(p k:Nat):hdsW st p (k+1)=hdsW st p k++[if k∈restW st p then uA (((restW st p).headD 0:Nat):Int) else st.getD k uB]:=by
 unfold hdsW;rw[EV,BE];rfl
theorem AGL(ks:uL)(k:Nat):inV (V.int (k:Int)) (nI ks)=decide (k∈ks):=by
 have e:nI ks=(ks.map λx:Nat=>(x:Int)).map V.int:=by unfold nI;rw[DL];rfl
 rw[e,FZ];refine decide_eq_decide.mpr ?_;rw[BD];exact⟨λ⟨x,h,e⟩=>by
               have:x=k:=by lia
               exact this ▸ h,λh=>⟨k,h,rfl⟩⟩
theorem AEi(ks:uL):(nI ks).all flatV=true:=by
 unfold nI;rw[Zp];exact Fa.mpr λ_ _=>rfl
def Yi(K:Au):Sp:=λvs H Q _=>∃(b:Addr) (st:StO) (p:Nat),vs=[.ref b,.int p]/\HdAt K H b st/\p<st.length/\st.length<=10/\∀(t:Addr) (H':Hp),Same H H'->HdAt K H' t (dropW st p)->Q (.ref t) H'
theorem Qk:FnScope ["state","point","rest","heads"] zl24 (Ai Kp):=fscp (by decide+kernel)
theorem ABS(F:Fun K "heads_without" "heads_without" Kp f fd)(T:Txt K mg C)
  (GU:Cal P w K mg base 1 fU ny "points_under" zl9 (Qh K)) :
  FnOk P w K mg base CX0 2 f fd zl24 (Yi K):=by
 refine F.ok Qk (λvs H Q E h=>?_) (λbE A outer s H vs Q E hr h=>?_)
 .obtain⟨b,st,p,rfl,_⟩:=h
  rfl
 obtain⟨b,st,p,rfl,hb,pl,jI,q⟩:=h;refine⟨_,Ae (Am (i:=2) Qk.nd (Ce (Ai Kp) ["other"] ["point"] [1] rfl rfl (by decide+kernel) ⟨⟨rfl,by decide+kernel⟩,trivial⟩ (Cw (Az GU hr rfl (Aa (pv 0) (Aa (Aq Ay (pv 0) (pv 1)) Ad))))
   (λ_ _ _=>BJ (i:=0))
   (λ_ _ _=>Cq (Ar Oe (pv 0) (pv 1))) (λ_ _ _=>pv 0)))
  (Ae (HS (i:=3) (Ai Kp) ["other","head"] ["rest"] [2] Qk.nd rfl (IT rfl) rfl rfl (by decide+kernel) ⟨⟨rfl,by decide+kernel⟩,trivial⟩ (Ii rfl T.enum (Aa (pv 0) Ad))
   (λ_ _ _=>Ek (K:=K) (n:=2) rfl rfl (Bt (BJ (i:=0)) (Bt (BJ (i:=1)) En)))
   (λ_ _ _=>Cr)
   (λ_ _ _=>Ed (Ar (Fz (K:=K) rfl) (pv 0) (pv 2) rfl) (Aq (ACb (K:=K) rfl) (pv 2) Ag) (pv 1)))
  (Ae (AAu Ht (AFt (pv 3) (pv 1) set_list))
  (Ak (Av (BL BW rfl T.tuple Cc (Aa (pv 3) Ad)))))),?_⟩
 refine⟨_,rfl,_,rfl,_,rfl,b,_,_,_,rfl,rfl,hb,Ra pl,b,st,st.getD p uB,rfl,hb,jI,λl H1 s1 hl el=>?_⟩;refine⟨l,rfl,⟨_,ut el⟩,λR hR=>?_⟩;have hu:=Rq st p;have ul:(undW st (st.getD p uB) st.length).length<=10:=BY (CH ..) (by rw[A9];exact jI);generalize undW st (st.getD p uB) st.length=us at el hu ul;refine DR (K:=K) (a:=l) (xs:=nI us) (λj τ H2=>∃o:Option V,τ=[o,uA (.int p)]/\Same H1 H2/\H2 R=uA (.lst (nI ((us.take j).filter λq=>decide (q≠p))))) ⟨uB,rfl,u4 hR _,Ab⟩ (λj τ H2 _ ⟨_,_,sm,_⟩=>ut (sm _ _ el)) ?_ ?_
 .rintro j x τ H2 hx ⟨o,rfl,sm,eR⟩
  obtain⟨k,hk,rfl⟩:=VR hx;have fl:((us.take j).filter λq=>decide (q≠p)).length<=10:=BY (CH ..) (by rw[B7];exact vx ul);refine⟨_,rfl,_,rfl,rfl,_,rfl,?_⟩;by_cases c:k=p
  .refine iteNP (by rw[c]) ⟨_,rfl,sm,?_⟩
   rw[CC,hk,CD,show(uA k).toList=[k] from rfl,D7 (by simpa using c),JI,B3];exact eR
  .refine iteNN (λz=>c (by injection z with z;exact fv z)) ⟨_,rfl,_,eR,BZ (by rw[Fx];exact wD fl),_,rfl,λb o e=>?_,?_⟩
   .rw[Ah (Af e hR)]
    exact sm b o e
   .rw[Ab,CC,hk,CD,show(uA k).toList=[k] from rfl,EO (by simpa using c)]
    unfold nI;rw[BE];rfl
 rintro τ H2 ⟨o,rfl,s2,eR⟩;rw[Fx,CO,<- hu] at eR;have rl:(restW st p).length<=10:=BY (CH ..) (by rw[A9];exact jI);have ic:=(s1.trans s2).ts.seq hb;refine⟨_,rfl,b,rfl,⟨_,ic⟩,λZ hZ=>?_⟩;refine Fq (xs:=st.map oV) (λk τ H3=>∃n t:Option V,τ=[n,t,uA (.ref R)]/\Same H2 H3/\H3 Z=uA (.lst ((hdsW st p k).map oV))) ⟨uB,uB,rfl,u4 hZ _,Ab⟩ (λk τ H3 _ ⟨_,_,_,sm,_⟩=>sm.ts.seq ic) ?_ ?_
 .rintro k y τ H3 T1 hy fm ⟨n,t,rfl,sm,eZ⟩
  obtain⟨kl,rfl⟩:=QB hy;have s3:Same H3 (upd H3 T1 (.tup [.int k,oV (st.getD k uB)])):=u4 fm _;have sl:((hdsW st p k).map oV).length<sizeLine:=BZ (by unfold hdsW;rw[AB,AB,A9];exact xj kl jI);refine⟨T1,_,rfl,uu Ab,rfl,_,_,rfl,_,_,rfl,rfl,yesD ?_⟩;have my:=s3 _ _ (sm _ _ eR);refine⟨_,rfl,_,rfl,R,_,rfl,.inl (ut my),rfl,AEi _,_,rfl,?_⟩;rw[uD (show ¬ (false=true) by decide),AGL];have fin:∀d:Option Int,d=(if k∈restW st p then uA (((restW st p).headD 0:Nat):Int) else st.getD k uB)->∃ys,(upd H3 T1 (.tup [.int k,oV (st.getD k uB)])) Z=uA (.lst ys)/\ys.length<sizeLine/\∃n t:Option V,[uA (.int (k:Int)),uA (oV (st.getD k uB)),uA (.ref R)]=[n,t,uA (V.ref R)]/\Same H2 (upd (upd H3 T1 (.tup [.int k,oV (st.getD k uB)])) Z (.lst (ys++[oV d])))/\(upd (upd H3 T1 (.tup [.int k,oV (st.getD k uB)])) Z (.lst (ys++[oV d]))) Z=uA (.lst ((hdsW st p (k+1)).map oV)):=λd ed=>by
   refine⟨_,s3 _ _ eZ,sl,_,_,rfl,λb o e=>?_,?_⟩
   .rw[Ah (Af e hZ)]
    exact s3 _ _ (sm b o e)
   .rw[Ab,ACx,BE,ed]
    rfl
  by_cases cc:k∈restW st p
  .have h0:atI (nI (restW st p)) 0=uA (.int (((restW st p).headD 0:Nat):Int)):=by
    cases e:restW st p with
    | nil=>rw[e] at cc;cases cc
    | cons x xs=>exact Bg rfl
   exact iteP cc ⟨_,rfl,R,_,_,_,rfl,rfl,ut my,h0,fin (uA _) (by rw[uE cc])⟩
  .exact iteN cc ⟨_,rfl,fin _ (by rw[uD cc])⟩
 rintro τ H3 ⟨n,t,rfl,s3,eZ⟩;rw[AB] at eZ;have hl:((hdsW st p st.length).map oV).length=st.length:=by unfold hdsW;rw[AB,AB,A9]
 refine⟨_,rfl,_,rfl,Z,_,_,p,rfl,rfl,eZ,ACo (by rw[hl];exact pl),?_⟩;refine⟨_,rfl,Z,_,rfl,.inl ⟨ut Ab,λt ht=>?_⟩⟩;have ir:=s1.trans (s2.trans s3);refine q t _ (λc o e=>?_) ?_
 .have nz:=Af (s2 _ _ (s1 _ _ e)) hZ
  have e3:(upd H3 Z (.lst (((hdsW st p st.length).map oV).set p .non))) c=uA o:=by rw[Ah nz];exact ir _ _ e
  rw[Ah (Af e3 ht)];exact e3
 .refine uu ?_
  rw[Ab];have:((hdsW st p st.length).map oV).set p .non=(dropW st p).map oV:=by
   unfold dropW hdsW;rw[List.map_set];rfl
  rw[this]
theorem Xc(i j:Int):srt [i,j]=prS i j:=by
 rw[Dm];unfold prS;split
 .rw[KB (by lia),K0 (by lia)]
 .rw[KW (by lia),KA (by lia)]
abbrev PrAt(K:Au)(H:Hp)(p:Addr)(t:uJ):Prop:=SqT K H p (t.map V.int)
def JQ(K:Au):Sp:=λvs H Q _=>∃(h t:Addr) (st:StO) (a b:Nat) (i j:Int),vs=[.ref h,.ref t]/\HdAt K H h st/\PrAt K H t [(a:Int),(b:Int)]/\a<st.length/\b<st.length/\st.getD a uB=uA i/\st.getD b uB=uA j /\
 ∀(p:Addr) (H':Hp),Same H H'->PrAt K H' p (prS i j)->Q (.ref p) H'
def Yb(K:Au):Sp:=λvs H Q _=>∃(t:Addr) (x y o n:Int),vs=[.ref t,.int o,.int n]/\PrAt K H t [x,y] /\
 ∀(p:Addr) (H':Hp),Same H H'->PrAt K H' p (rnP o n [x,y])->Q (.ref p) H'
theorem Zk:FnScope zl10 zl10 (Ai Ip):=fscp (by decide+kernel)
theorem VL(F:Fun K "heads_of" "heads_of" Ip f fd)(T:Txt K mg C):FnOk P w K mg base CX0 1 f fd zl10 (JQ K):=by
 refine F.ok Zk (λvs H Q E h=>?_) (λbE A outer s H vs Q E hr h=>?_)
 .obtain⟨h,t,st,a,b,i,j,rfl,_⟩:=h
  rfl
 obtain⟨h,t,st,a,b,i,j,rfl,hh,ht,al,bl,ei,ej,q⟩:=h;refine⟨_,Ak (Av (BL BW rfl T.tuple Cc (Aa (BK Gf rfl T.sorted IE (Aa (Ce (Ai Ip) ["point"] ["heads"] [0] rfl rfl (by decide+kernel) ⟨⟨rfl,by decide+kernel⟩,trivial⟩ (Kc (pv 1))
    (λ_ _ _=>BJ (i:=0)) (λ_ _ _=>Cr)
    (λ_ _ _=>Aq (Qm (K:=K) rfl) (pv 1) (pv 0) (λ_ _=>rfl))) Ad)) Ad))),?_⟩
 refine⟨_,rfl,t,rfl,⟨_,ht⟩,λZ hZ=>?_⟩;have gx:=Ra (st:=st) (p:=a) al;have gy:=Ra (st:=st) (p:=b) bl;rw[ei] at gx;rw[ej] at gy;refine Ew (K:=K) (a:=t) (xs:=[(a:Int),(b:Int)].map V.int) (λk τ H2=>∃n:Option V,τ=[n,uA (.ref h)]/\Same H H2/\H2 Z=uA (.lst (([i,j].take k).map V.int))) ⟨uB,rfl,u4 hZ _,Ab⟩ (λk τ H2 _ ⟨_,_,sm,_⟩=>sm.ts.seq ht) ?_ ?_
 .rintro k y τ H2 hy ⟨n,rfl,sm,eZ⟩
  have rD:=sm.ts.seq hh;have keep:∀o,Same H (upd H2 Z o):=λo b o' e=>by
   rw[Ah (Af e hZ)];exact sm b o' e
  match k,hy with
  | 0,hy =>
   cases hy;exact yesN ⟨_,rfl,_,rfl,h,_,_,_,rfl,rfl,rD,gx,_,eZ,(by show 0<sizeLine;decide),_,rfl,keep _,Ab⟩
  | 1,hy =>
   cases hy;exact yesN ⟨_,rfl,_,rfl,h,_,_,_,rfl,rfl,rD,gy,_,eZ,(by show 1<sizeLine;decide),_,rfl,keep _,Ab⟩
  | k+2,hy=>cases hy
 rintro τ H2 ⟨n,rfl,sm,eZ⟩;refine⟨Z,[i,j],rfl,.inl (ut eZ),(by show 2<64;decide),λl1 ms fz perm pw=>?_⟩;have em:=JT perm pw;rw[Xc] at em;subst em;exact⟨l1,_,rfl,.inl ⟨ut Ab,λt1 qS=>q t1 _ (sm.trans ((u4 fz _).trans (u4 qS _))) (uu Ab)⟩⟩
theorem ADb:FnScope zl11 zl11 (Ai Qc):=fscp (by decide+kernel)
theorem ACs(F:Fun K "pair_renamed" "pair_renamed" Qc f fd)(T:Txt K mg C):FnOk P w K mg base CX0 1 f fd zl11 (Yb K):=by
 refine F.ok ADb (λvs H Q E h=>?_) (λbE A outer s H vs Q E hr h=>?_)
 .obtain⟨t,x,y,o,n,rfl,_⟩:=h
  rfl
 obtain⟨t,x,y,o,n,rfl,ht,q⟩:=h;refine⟨_,Ak (Av (BL BW rfl T.tuple Cc (Aa (BK Gf rfl T.sorted IE (Aa (Ce (Ai Qc) ["head"] ["new","old"] [2,1] rfl rfl (by decide+kernel) ⟨⟨rfl,by decide+kernel⟩,⟨rfl,by decide+kernel⟩,trivial⟩ (Kc (pv 0))
    (λ_ _ _=>BJ (i:=0)) (λ_ _ _=>Cr)
    (λ_ _ _=>Ed (Ar Du (pv 0) (pv 2)) (pv 1) (pv 0))) Ad)) Ad))),?_⟩
 refine⟨_,rfl,t,rfl,⟨_,ht⟩,λZ hZ=>?_⟩;refine Ew (K:=K) (a:=t) (xs:=[x,y].map V.int) (λk τ H2=>∃m:Option V,τ=[m,uA (.int n),uA (.int o)]/\Same H H2/\H2 Z=uA (.lst (([ren o n x,ren o n y].take k).map V.int))) ⟨uB,rfl,u4 hZ _,Ab⟩ (λk τ H2 _ ⟨_,_,sm,_⟩=>sm.ts.seq ht) ?_ ?_
 .rintro k v τ H2 hv ⟨m,rfl,sm,eZ⟩
  have keep:∀o,Same H (upd H2 Z o):=λo b o' e=>by
   rw[Ah (Af e hZ)];exact sm b o' e
  match k,hv with
  | 0,hv =>
   cases hv;refine yesN ⟨_,rfl,_,rfl,rfl,_,rfl,?_⟩;by_cases c:x=o
   .refine iteP (by rw[c]) ⟨_,rfl,_,eZ,(by show 0<sizeLine;decide),_,rfl,keep _,?_⟩
    rw[Ab];show _=uA (HO.lst [V.int (ren o n x)]);rw[ren,uE c];rfl
   .refine iteN (λe=>c (V.int.inj e)) ⟨_,rfl,_,eZ,(by show 0<sizeLine;decide),_,rfl,keep _,?_⟩
    rw[Ab];show _=uA (HO.lst [V.int (ren o n x)]);rw[ren,uD c];rfl
  | 1,hv =>
   cases hv;refine yesN ⟨_,rfl,_,rfl,rfl,_,rfl,?_⟩;by_cases c:y=o
   .refine iteP (by rw[c]) ⟨_,rfl,_,eZ,(by show 1<sizeLine;decide),_,rfl,keep _,?_⟩
    rw[Ab];show _=uA (HO.lst [V.int (ren o n x),V.int (ren o n y)]);rw[show ren o n y=n by rw[ren,uE c]];rfl
   .refine iteN (λe=>c (V.int.inj e)) ⟨_,rfl,_,eZ,(by show 1<sizeLine;decide),_,rfl,keep _,?_⟩
    rw[Ab];show _=uA (HO.lst [V.int (ren o n x),V.int (ren o n y)]);rw[show ren o n y=y by rw[ren,uD c]];rfl
  | k+2,hv=>cases hv
 rintro τ H2 ⟨m,rfl,sm,eZ⟩;refine⟨Z,[ren o n x,ren o n y],rfl,.inl (ut eZ),(by show 2<64;decide),λl1 ms fz perm pw=>?_⟩;have em:=JT perm pw;rw[Xc] at em;subst em;exact⟨l1,_,rfl,.inl ⟨ut Ab,λt1 qS=>q t1 _ (sm.trans ((u4 fz _).trans (u4 qS _))) (uu Ab)⟩⟩
abbrev lexP(ms:uK):Prop:=ms.Pairwise λa b=>HT.lexLt a b=true
noncomputable def ss(rs:uK):uK:=open Classical in if h:∃ms,lexP ms/\∀r,r∈ms↔r∈rs then EQ h else rs
set_option tactic.hygienic true in
theorem Jc(rs:uK)(r:uJ):r∈ss rs↔r∈rs:=by
 unfold ss;split
 .rename_i h
  exact(D6 h).2 r
 .exact Z3
theorem SX:∀{l m:uK},lexP l->lexP m->(∀r,r∈l↔r∈m)->l=m
 | [],[],_,_,_=>rfl
 | [],b::m,_,_,h=>by cases (h b).mpr AI
 | a::l,[],_,_,h=>by cases (h a).mp AI
 | a::l,b::m,hl,hm,h=>by
  obtain⟨l1,l2⟩:=CA.mp hl;obtain⟨m1,m2⟩:=CA.mp hm;have irr:∀x:uJ,HT.lexLt x x=true->False:=λx z=>by rw[Fj] at z;cases z
  have e:a=b:=by
   rcases AS.mp ((h a).mp AI) with e| e
   .exact e
   .rcases AS.mp ((h b).mpr AI) with e' | e'
    .exact e'.symm
    .have:=SB.RG (m1 a e)
     rw[l1 b e'] at this;cases this
  subst e;rw[SX l2 m2 λr=>⟨λhr=>?_,λhr=>?_⟩]
  .rcases AS.mp ((h r).mp (AL _ hr)) with e| e
   .subst e;exact(irr _ (l1 _ hr)).elim
   .exact e
  .rcases AS.mp ((h r).mpr (AL _ hr)) with e| e
   .subst e;exact(irr _ (m1 _ hr)).elim
   .exact e
theorem ABd{ms rs:uK}(p:lexP ms)(h:∀r,r∈ms↔r∈rs):ms=ss rs:=by
 have ex:∃ms,lexP ms/\∀r,r∈ms↔r∈rs:=⟨ms,p,h⟩;unfold ss;rw[dif_pos ex];exact SX p (D6 ex).1 λr=>(h r).trans ((D6 ex).2 r).symm
def ApAt(K:Au)(H:Hp)(a:Addr)(ap:uK):Prop:=∃xs,SqT K H a xs/\A1 (rPair K H) ap xs
theorem ApAt.ts(h:ApAt K H a ap)(t:TSm H H'):ApAt K H' a ap:=let ⟨xs,e,p⟩:=h;⟨xs,t.seq e,Paired.imp (λ_ _ r=>Ao Ax _ _ _ _ t r) p⟩
theorem Bq{α β:Type}{f:α->β}:∀{l:List α}{m:List β},A1 (λk v=>[v]=[f k]) l m↔m=l.map f
 | [],[]=>⟨λ_=>rfl,λ_=>.nil⟩
 | [],b::m=>⟨λh=>(by cases h),λh=>(by cases h)⟩
 | a::l,[]=>⟨λh=>(by cases h),λh=>(by cases h)⟩
 | a::l,b::m=>by
  constructor
  .intro h
   cases h with
   | cons h t =>
    injection h with h _
    rw[h,Bq.mp t];rfl
  .intro h
   rw[BU] at h;injection h with h1 h2
   subst h1;exact .cons rfl (Bq.mpr h2)
theorem Fd(h:SqT K H p (ns.map V.int)):rPair K H ns (.ref p):=⟨p,_,rfl,h,paired_ints ns⟩
theorem KH(l:uJ):(l.map uA).map oV=l.map V.int:=by rw[DL];rfl
section
variable{s:StC}
theorem StAt.get(h:StAt K H b s):∃x y a,SqT K H b [.ref x,.ref y,.ref a]/\HdAt K H x s.1/\PrAt K H y s.2.1/\ApAt K H a s.2.2:=by
 obtain⟨b',xs,e,hb,v1,us1,e1,⟨x,xs1,ex,hx,p1⟩,v2,us2,e2,⟨y,xs2,ey,hy,p2⟩,v3,us3,e3,⟨a,om,ea,ha,p3⟩,e4⟩:=h;cases e;cases ex;cases ey;cases ea;subst e4;subst e3;subst e2;subst e1;have q1:=Bq.mp p1;have q2:=Bq.mp p2;subst q1;subst q2;refine⟨x,y,a,hb,hx,by show SqT K H y (s.2.1.map V.int);rw[<- KH];exact hy,om,ha,?_⟩;have p3':A1 (λ(k:List (Option Int)) (v:V)=>∃c zs,[v]=[.ref c]/\SqT K H c zs/\A1 (λk v=>[v]=[oV k]) k zs) (s.2.2.map λt=>t.map uA) om:=p3;clear p3 ha;generalize s.2.2=ap at p3'
 induction ap generalizing om with
 | nil=>cases p3';exact .nil
 | cons t ap ih =>
  rw[BU] at p3';cases p3' with
  | cons h r =>
   obtain⟨c,zs,ec,hc,pz⟩:=h;cases ec;have:=Bq.mp pz;subst this;rw[KH] at hc;exact .cons (Fd hc) (ih _ r)
theorem StAt.mk{x y:Addr}(hb:SqT K H b [.ref x,.ref y,.ref a])(hx:HdAt K H x s.1)(hy:PrAt K H y s.2.1)(ha:ApAt K H a s.2.2):StAt K H b s:=by
 obtain⟨om,ha,p⟩:=ha;refine⟨b,_,rfl,hb,_,_,rfl,⟨x,_,rfl,hx,Bq.mpr rfl⟩,_,_,rfl,⟨y,_,rfl,hy,Bq.mpr (KH _).symm⟩,_,_,rfl,⟨a,om,rfl,ha,?_⟩,rfl⟩;show A1 (λ(k:List (Option Int)) (v:V)=>∃c zs,[v]=[.ref c]/\SqT K H c zs/\A1 (λk v=>[v]=[oV k]) k zs) (s.2.2.map λt=>t.map uA) om;clear ha;generalize s.2.2=ap at p
 induction p with
 | nil=>exact .nil
 | @cons t v ap xs h r ih =>
  obtain⟨c,rfl,hc⟩:=Bx h;exact .cons ⟨c,_,rfl,hc,Bq.mpr (KH _).symm⟩ ih
end
def PrL(ap:uK):Prop:=∀t∈ap,∃x y:Int,t=[x,y]
def Jb(K:Au):Sp:=λvs H Q _=>∃(a:Addr) (ap:uK) (o n:Int),vs=[.ref a,.int o,.int n]/\ApAt K H a ap/\PrL ap/\ap.length<=100 /\
 ∀(p:Addr) (H':Hp),Same H H'->ApAt K H' p (ss (ap.map (rnP o n)))->lexP (ss (ap.map (rnP o n)))->Q (.ref p) H'
def YM(K:Au):Sp:=λvs H Q _=>∃(a l:Addr) (ap:uK) (p:Nat) (r:uL),vs=[.ref a,.int p,.ref l]/\ApAt K H a ap/\PrL ap/\ap.length<=100/\H l=uA (.lst (nI r))/\lexP ap /\
 ∀(t:Addr) (H':Hp),Same H H'->ApAt K H' t (apW ss ap p r)->lexP (apW ss ap p r)->Q (.ref t) H'
theorem AAV:FnScope zl12 zl12 (Ai Hw):=fscp (by decide+kernel)
theorem Wd(F:Fun K "renamed" "renamed" Hw f fd)(T:Txt K mg C)(hJ:mg "set" = uB)
  (GR:Cal P w K mg base 1 fR kK "pair_renamed" zl11 (Yb K)) :
  FnOk P w K mg base CX0 2 f fd zl12 (Jb K):=by
 refine F.ok AAV (λvs H Q E h=>?_) (λbE A outer s H vs Q E hr h=>?_)
 .obtain⟨a,ap,o,n,rfl,_⟩:=h
  rfl
 obtain⟨a,ap,o,n,rfl,⟨xs,ha,pa⟩,pl,l6,q⟩:=h;refine⟨_,Ak (Av (BL BW rfl T.tuple Cc (Aa (GX rfl (Cg hr) rfl T.sorted rfl hJ (Ce (Ai Hw) ["pair"] ["new","old"] [2,1] rfl rfl (by decide+kernel) ⟨⟨rfl,by decide+kernel⟩,⟨rfl,by decide+kernel⟩,trivial⟩ (Kc (pv 0))
    (λ_ _ _=>BJ (i:=0)) (λ_ _ _=>Cr)
    (λ_ _ _=>Az GR hr rfl (Aa (pv 0) (Aa (pv 2) (Aa (pv 1) Ad)))))) Ad))),?_⟩
 have lx:=AZ pa;refine⟨_,rfl,a,rfl,⟨_,ha⟩,λZ hZ=>?_⟩;refine Ew (K:=K) (a:=a) (xs:=xs) (λk τ H2=>∃(m:Option V) (ys:List V),τ=[m,uA (.int n),uA (.int o)]/\Same H H2/\H2 Z=uA (.lst ys)/\A1 (rPair K H2) ((ap.take k).map (rnP o n)) ys) ⟨uB,[],rfl,u4 hZ _,Ab,.nil⟩ (λk τ H2 _ ⟨_,_,_,sm,_⟩=>sm.ts.seq ha) ?_ ?_
 .rintro k y τ H2 hy ⟨m,ys,rfl,sm,eZ,pz⟩
  obtain⟨t,ht,rt⟩:=Paired.get pa hy;obtain⟨x1,x2,rfl⟩:=pl t (BI ht);obtain⟨p,rfl,hp⟩:=Bx rt;have ly:ys.length<=100:=by
   rw[<- AZ pz,AB,B7];exact vx l6
  refine yesN ⟨_,rfl,_,rfl,_,rfl,p,x1,x2,o,n,rfl,sm.ts.seq hp,λp' H3 s3 tN=>?_⟩;have zp:H Z=uB:=by
   cases e:H Z with
   | none=>rfl
   | some o=>rw[e] at hZ;cases hZ
  have tl:=u3 (o:=.lst (ys++[.ref p'])) (s3 _ _ eZ);refine⟨_,s3 _ _ eZ,BZ (xv ly),_,_,rfl,λb o e=>?_,Ab,?_⟩
  .rw[Ah (Af e hZ)]
   exact s3 _ _ (sm b o e)
  .rw[CC,ht,BE]
   exact Paired.app (Paired.imp (λ_ _ r=>Ao Ax _ _ _ _ (s3.ts.trans tl) r) pz) (uz (Fd (tl.seq tN)))
 rintro τ H2 ⟨m,ys,rfl,sm,eZ,pz⟩;rw[<- lx,CO] at pz;refine⟨Z,ys,ap.map (rnP o n),rfl,.inl (ut eZ),pz,λms nd hm=>?_,λl pN ms hl so mem pr _=>?_⟩
 .have:=nd.length_le_of_subset λr hr=>hm r hr
  rw[AB] at this;lia
 .have em:=ABd so mem
  refine⟨l,_,rfl,.inl ⟨ut Ab,λt ht=>q t _ (sm.trans ((u4 hl _).trans (u4 ht _))) ⟨pN,uu Ab,?_⟩ (by rw[<- em];exact so)⟩⟩;rw[<- em];exact Paired.imp (λ_ _ r=>Ao Ax _ _ _ _ ((u4 hl _).trans (u4 ht _)).ts r) pr
theorem AEk:FnScope zl13 zl13 (Ai QD):=fscp (by decide+kernel)
theorem ACv(F:Fun K "apart_without" "apart_without" QD f fd)(T:Txt K mg C)
  (GR:Cal P w K mg base 2 fR kK "renamed" zl12 (Jb K)) :
  FnOk P w K mg base CX0 3 f fd zl13 (YM K):=by
 refine F.ok AEk (λvs H Q E h=>?_) (λbE A outer s H vs Q E hr h=>?_)
 .obtain⟨a,l,ap,p,r,rfl,_⟩:=h
  rfl
 obtain⟨a,l,ap,p,r,rfl,hA,pl,l6,hl,lx0,q⟩:=h;refine⟨_,Ae (Bv (Ar (ABu Fi (Cg hr)) (pv 2) (Cv Ad)) (Ak (Av (BL BW rfl T.tuple Cc (Aa (Ce (Ai QD) ["pair"] ["point"] [1] rfl rfl (by decide+kernel) ⟨⟨rfl,by decide+kernel⟩,trivial⟩ (Kc (pv 0))
    (λ_ _ _=>BJ (i:=0)) (λ_ _ _=>Cq (Ar (Mr (K:=K) rfl) (pv 1) (pv 0) rfl))
    (λ_ _ _=>pv 0)) Ad)))) BP)
  (Ak (Av (Az GR hr rfl (Aa (pv 0) (Aa (pv 1) (Aa (Aq Bf (pv 2) Ag) Ad)))))),?_⟩
 refine⟨_,rfl,(by exact A7 _),λe he=>?_⟩;have s1:=u4 he (.lst []);have en:nI r=(up r).map V.int:=by unfold nI up;rw[DL];rfl
 refine⟨up r,[],⟨l,_,rfl,ut (s1 _ _ hl),by rw[en];exact paired_ints _⟩,⟨e,_,rfl,ut Ab,.nil⟩,_,rfl,?_⟩;obtain⟨xs,ha,pa⟩:=hA;cases r with
 | nil =>
  refine iteP rfl ?_;have ha1:=s1.ts.seq ha;refine⟨_,rfl,a,rfl,⟨_,ha1⟩,λZ hZ=>?_⟩;have lx:=AZ pa;refine Ew (K:=K) (a:=a) (xs:=xs) (λk τ H2=>∃(m:Option V) (ys:List V),τ=[m,uA (.int p)]/\Same (upd H e (.lst [])) H2/\H2 Z=uA (.lst ys)/\A1 (rPair K H2) ((ap.take k).filter λt=>decide ((p:Int)∉t)) ys) ⟨uB,[],rfl,u4 hZ _,Ab,.nil⟩ (λk τ H2 _ ⟨_,_,_,sm,_⟩=>sm.ts.seq ha1) ?_ ?_
  .rintro k y τ H2 hy ⟨m,ys,rfl,sm,eZ,pz⟩
   obtain⟨t,ht,rt⟩:=Paired.get pa hy;obtain⟨c,rfl,hc⟩:=Bx rt;have gL:=(s1.trans sm).ts.seq hc;have ly:ys.length<=100:=by
    rw[<- AZ pz];exact BY (CH ..) (by rw[B7];exact vx l6)
   have fl:(t.map V.int).all flatV=true:=by
    rw[Fa];intro v hv;obtain⟨i,_,rfl⟩:=BD.mp hv;rfl
   refine⟨_,rfl,_,rfl,c,_,rfl,.inr gL,rfl,fl,_,rfl,?_⟩;rw[uE rfl,FZ];by_cases cc:(p:Int)∈t
   .refine iteNP cc ⟨_,_,rfl,sm,eZ,?_⟩
    rw[CC,ht,CD,show(uA t).toList=[t] from rfl,D7 (by simpa using cc),JI,B3];exact pz
   .have tl:=u3 (o:=.lst (ys++[.ref c])) eZ
    refine iteNN cc ⟨_,rfl,_,eZ,BZ (xv ly),_,_,rfl,λb o e=>?_,Ab,?_⟩
    .rw[Ah (Af e hZ)]
     exact sm b o e
    .rw[CC,ht,CD,show(uA t).toList=[t] from rfl,EO (by simpa using cc)]
     exact Paired.app (Paired.imp (λ_ _ r=>Ao Ax _ _ _ _ tl r) pz) (uz (Fd (tl.seq gL)))
  .rintro τ H2 ⟨m,ys,rfl,sm,eZ,pz⟩
   rw[<- lx,CO] at pz;exact⟨Z,_,rfl,.inl ⟨ut eZ,λt ht=>q t _ (s1.trans (sm.trans (u4 ht _))) ⟨ys,uu Ab,Paired.imp (λ_ _ r=>Ao Ax _ _ _ _ (u4 ht _).ts r) pz⟩ (lx0.filter _)⟩⟩
 | cons q0 r =>
  refine iteN (λz=>by cases z) ?_;have at0:=Bg (show(nI (q0::r))[0]?=uA (V.int (q0:Int)) from rfl);refine⟨_,rfl,_,rfl,_,rfl,l,_,_,_,rfl,rfl,ut (s1 _ _ hl),at0,a,ap,p,q0,rfl,⟨xs,s1.ts.seq ha,Paired.imp (λ_ _ r=>Ao Ax _ _ _ _ s1.ts r) pa⟩,pl,l6,λt H' s' hT hl=>q t H' (s1.trans s') hT hl⟩
def ApOk(z:Nat)(ap:uK):Prop:=lexP ap/\∀t∈ap,∃i j:Nat,t=[(i:Int),(j:Int)]/\i<z/\j<z
theorem ApOk.pr(h:ApOk z ap):PrL ap:=λt ht=>let ⟨i,j,e,_⟩:=h.2 t ht;⟨_,_,e⟩
theorem ApOk.len(h:ApOk z ap)(z10:z<=10):ap.length<=100:=by
 have nd:ap.Nodup:=h.1.imp λ{a b} q e=>by rw[e,Fj] at q;cases q
 have:=nd.length_le_of_subset (l₂:=(AK 10).flatMap λi=>(AK 10).map λj=>[((i:Nat):Int),((j:Nat):Int)]) λt ht=>by
  obtain⟨i,j,rfl,iz,jz⟩:=h.2 t ht;exact List.mem_flatMap.mpr ⟨i,AN.mpr (uP iz z10),BD.mpr ⟨j,AN.mpr (uP jz z10),rfl⟩⟩
 exact BY this (by decide)
theorem YQ(i j:Nat):prS (i:Int) (j:Int)=[((min i j:Nat):Int),((max i j:Nat):Int)]:=by
 unfold prS;rw[show min (i:Int) (j:Int)=((min i j:Nat):Int) from xw,show max (i:Int) (j:Int)=((max i j:Nat):Int) from xx]
theorem AFQ{o:Nat}(nz:n<z){t:uJ}(h:∃i j:Nat,t=[(i:Int),(j:Int)]/\i<z/\j<z):∃i j:Nat,rnP (o:Int) (n:Int) t=[(i:Int),(j:Int)]/\i<z/\j<z:=by
 obtain⟨i,j,rfl,iz,jz⟩:=h;have r:∀k:Nat,k<z->∃k':Nat,ren (o:Int) (n:Int) (k:Int)=(k':Int)/\k'<z:=λk kz=>by
  unfold ren;split
  .exact⟨n,rfl,nz⟩
  .exact⟨k,rfl,kz⟩
 obtain⟨i',ei,iz'⟩:=r i iz;obtain⟨j',ej,jz'⟩:=r j jz;refine⟨min i' j',max i' j',?_,by lia,by lia⟩;show prS _ _=_;rw[ei,ej,YQ]
noncomputable def crf(lo hi:Int):List (Str×V):=putF "high" (.int hi) (putF "low" (.int lo) [])
theorem AHj{m:Str}(h1:¬ m = "high")(h2:¬ m = "low"):(crf lo hi).lookup m=uB:=by
 unfold crf;rw[Aj,uD h1,Aj,uD h2];rfl
noncomputable def uC(lo hi:Int):Wr where
 ps:=passC1 ss lo
 tk:=takeC ss hi
 lf:=leftC ss
 fu:=λ_=>true
 pre:=λs a b=>∃i j:Nat,s.1.getD a uB=uA (i:Int)/\s.1.getD b uB=uA (j:Int)/\i<s.1.length/\j<s.1.length/\a<s.1.length/\b<s.1.length
 vld:=λz s=>s.1.length=z/\s.2.1.length=z/\ApOk z s.2.2
 fl:=crf lo hi
 nP:=rfl
 nL:=rfl
 nT:=rfl
 nU:=rfl
 nB:=rfl
noncomputable def begC(z:Nat):StC:=((AK z).map λp=>uA ((p:Nat):Int),Cb z 1,[])
def Xz(K:Au)(C:Addr):Sp:=λvs H Q _=>∃(r:V) (p:Addr) (z:Nat) (bs:uK),vs=[r,.ref p]/\WebAt K C H p z bs/\1<=z/\z<=10/\∀(b:Addr) (H':Hp),Same H H'->StAt K H' b (begC z)->Q (.ref b) H'
theorem AHI:FnScope zl14 zl14 (Ai AGg):=fscp (by decide+kernel)
theorem AFm(F:Fun K "fulfilled" "Crowds.fulfilled" AGg f fd):FnOk P w K mg base CX0 1 f fd zl14 (ABY (uC lo hi) K):=by
 refine F.ok AHI (λvs H Q E h=>?_) (λbE A outer s H vs Q E hr h=>?_)
 .obtain⟨r,p,b,st,rfl,_⟩:=h
  rfl
 obtain⟨r,p,b,st,rfl,_,q⟩:=h;exact⟨_,Ak (Av Em),q⟩
theorem ACX:FnScope ["self","web","state","number","pair"] zl25 (Ai ACS):=fscp (by decide+kernel)
theorem AEZ(F:Fun K "left" "Crowds.left" ACS f fd)(T:Txt K mg C)(hJ:mg "set" = uB)
  (GO:Cal P w K mg base 1 fO rX "heads_of" zl10 (JQ K))
  (GT:FnOk P w K mg base CX0 1 fT eK zl3 (Qq K C)) (bT:Binds K eK zl3 []) (mT:Meth K C "ties" fT) :
  FnOk P w K mg base CX0 4 f fd zl25 (VB (uC lo hi) K C D):=by
 refine F.ok ACX (λvs H Q E h=>?_) (λbE A outer s H vs Q E hr h=>?_)
 .obtain⟨a,p,b,dx,t,z,bs,st,rfl,_⟩:=h
  rfl
 obtain⟨a,p,b,dx,t,z,bs,st,rfl,ha,hW,j3,hb,vl,⟨i,j,ei,ej,il,jl,al,bl⟩,tn,z10,q⟩:=h;have cS:Room 1 _:=hr.mono (by decide);obtain⟨v1,v2,v3⟩:=vl;refine⟨_,Ae (Am (i:=4) ACX.nd (Az GO cS rfl (Aa (Aq Ay (pv 2) Ag) (Aa (Aq Bf (Cm (pv 1) T.cl mT GT cS bT .nil pass0) (pv 3)) Ad))))
  (Ae (Bv (Ar Du (Aq Ay (pv 4) Ag) (Aq Ay (pv 4) Ag)) (Ak (Av Ht)) BP)
  (Ak (Av (Bw (Aa (Aq Ay (pv 2) Ag) (Aa (Aq Ay (pv 2) Ag) (Aa (BL BW rfl T.tuple Cc (Aa (GX rfl (Cg hr) rfl T.sorted rfl hJ (Aw YH (Aq Ay (pv 2) Ag) (Bw (Aa (pv 4) Ad)))) Ad)) Ad))))))),?_⟩
 obtain⟨dw,jw,hw,_⟩:=id hW;obtain⟨x,y,c3,gg,hx,hy,hA⟩:=hb.get;have i0:atI [V.ref x,V.ref y,V.ref c3] 0=uA (.ref x):=rfl;have i1:atI [V.ref x,V.ref y,V.ref c3] 1=uA (.ref y):=rfl;have i2:atI [V.ref x,V.ref y,V.ref c3] 2=uA (.ref c3):=rfl;refine⟨_,rfl,b,_,_,_,rfl,rfl,gg,i0,_,rfl,p,dw,_,rfl,hw,rfl,p,z,bs,rfl,hW,λl H1 s1 hl hL=>?_⟩;obtain⟨l',ts,el,hX,px⟩:=hL;cases el;have qq:=AG tn;obtain⟨v,hv,rt⟩:=uj px qq;obtain⟨x1,y1,ext,xz,yz⟩:=j3 bs[t] (ER tn);have gd:bs.getD t []=bs[t]:=by rw[AD,qq];rfl
 have ex:ea bs t=x1:=by unfold ea;rw[gd,ext];rfl
 have ey:eb bs t=y1:=by unfold eb;rw[gd,ext];rfl
 rw[ext] at rt;obtain⟨tq,rfl,lP⟩:=Bx rt;have q':∀(v':V) (H':Hp),Same H H'->RS (uC lo hi) K z H' v' (leftC ss st (ea bs t) (eb bs t))->Q v' H':=q;rw[MK ei ej] at q';refine⟨_,rfl,l,ts,_,_,rfl,rfl,hX,Bg hv,x,tq,st.1,x1,y1,i,j,rfl,s1.ts.seq hx,lP,dl xz v1,dl yz v1,by rw[<- ex];exact ei,by rw[<- ey];exact ej,λpp H2 s2 hp=>?_⟩;have gN:=s1.trans s2;have e7:=hp;refine⟨_,rfl,pp,_,_,_,rfl,rfl,e7,rfl,_,rfl,pp,_,_,_,rfl,rfl,e7,rfl,rfl,_,rfl,?_⟩;by_cases c:(i:Int)=j
 .refine iteP (congrArg V.int (xA c)) (q' _ _ gN ?_)
  rw[uE c];exact rfl
 .refine iteN (λe=>c (by have:=V.int.inj e;exact xB this)) ?_
  rw[uD c] at q';have ic:=gN.ts.seq gg;refine⟨_,rfl,b,_,_,_,rfl,rfl,ic,i0,_,rfl,b,_,_,_,rfl,rfl,ic,i1,_,rfl,b,_,_,_,rfl,rfl,ic,i2,_,rfl,(by show 1<=sizeLine;decide),λT1 fm=>?_⟩;obtain⟨xs,ha,pa⟩:=hA.ts (gN.trans (u4 fm (.tup [.ref pp]))).ts;have lx:=AZ pa;have l6:=v3.len z10;have sT:=u4 fm (.tup [V.ref pp]);have s3:=gN.trans sT;have uc:=sT.ts.seq hp;have hTT:SqT K (upd H2 T1 (.tup [V.ref pp])) T1 [V.ref pp]:=uu Ab;have qL:=sT.ts.seq ic;clear fm;generalize upd H2 T1 (.tup [V.ref pp])=H3 at s3 uc hTT qL ha pa;have few:∀ms:uK,ms.Nodup->(∀m∈ms,m∈st.2.2++[prS i j])->ms.length<=300:=λms nd hm=>by
   have:=nd.length_le_of_subset λr hr=>hm r hr;rw[BN,D5] at this;lia
  have okA:∀ms:uK,lexP ms->(∀r,r∈ms↔r∈st.2.2++[prS i j])->ApOk z ms:=λms so mem=>⟨so,λr hr=>by
   rcases B8.mp ((mem r).mp hr) with h| h
   .exact v3.2 r h
   .exact⟨min i j,max i j,by rw[Bi.mp h,YQ],xC il v1,by lia⟩⟩
  refine⟨c3,T1,xs,[V.ref pp],rfl,rfl,ha,hTT,C3 (BZ (by show xs.length+1<=1000;lia)),λe0=>?_,λ_ e2=>(by cases e2),λe1 _ W hW=>?_⟩
  .have hq:SqT K H3 T1 (xs++[V.ref pp]):=by rw[e0];exact hTT
   refine⟨T1,_,st.2.2++[prS i j],rfl,.inr hq,Paired.app pa (uz (Fd uc)),few,λl5 ys ms hl5 so mem pr _=>?_⟩;refine⟨l5,_,rfl,.inl ⟨ut Ab,λt6 l9=>?_⟩⟩;refine⟨by show 3<=sizeLine;decide,λt7 og=>?_⟩;have em:=ABd so mem;have s5:=(u4 hl5 (.lst ys)).trans (u4 l9 (.tup ys));have s7:=u4 og (.tup [V.ref x,V.ref y,V.ref t6]);have s9:=s3.trans (s5.trans s7);refine q' _ _ s9 ⟨t7,rfl,StAt.mk (uu Ab) (s9.ts.seq hx) (s9.ts.seq hy) ⟨ys,s7.ts.seq (uu Ab),?_⟩,v1,v2,?_⟩
   .show A1 _ (ss (st.2.2++[prS i j])) ys
    rw[<- em];exact Paired.imp (λ_ _ r=>Ao Ax _ _ _ _ (s5.trans s7).ts r) pr
   .show ApOk z (ss (st.2.2++[prS i j]))
    rw[<- em];exact okA ms so mem
  .have sW:=u4 hW (.tup (xs++[V.ref pp]))
   have hq:SqT K (upd H3 W (.tup (xs++[V.ref pp]))) W (xs++[V.ref pp]):=uu Ab;have s3:=s3.trans sW;have uc:=sW.ts.seq uc;have pa:=Paired.imp (λ_ _ r=>Ao Ax _ _ _ _ sW.ts r) pa;refine⟨W,_,st.2.2++[prS i j],rfl,.inr hq,Paired.app pa (uz (Fd uc)),few,λl5 ys ms hl5 so mem pr _=>?_⟩;refine⟨l5,_,rfl,.inl ⟨ut Ab,λt6 l9=>?_⟩⟩;refine⟨by show 3<=sizeLine;decide,λt7 og=>?_⟩;have em:=ABd so mem;have s5:=(u4 hl5 (.lst ys)).trans (u4 l9 (.tup ys));have s7:=u4 og (.tup [V.ref x,V.ref y,V.ref t6]);have s9:=s3.trans (s5.trans s7);refine q' _ _ s9 ⟨t7,rfl,StAt.mk (uu Ab) (s9.ts.seq hx) (s9.ts.seq hy) ⟨ys,s7.ts.seq (uu Ab),?_⟩,v1,v2,?_⟩
   .show A1 _ (ss (st.2.2++[prS i j])) ys
    rw[<- em];exact Paired.imp (λ_ _ r=>Ao Ax _ _ _ _ (s5.trans s7).ts r) pr
   .show ApOk z (ss (st.2.2++[prS i j]))
    rw[<- em];exact okA ms so mem
theorem AEs:FnScope zl15 zl15 (Ai Ve):=fscp (by decide+kernel)
theorem ADL(F:Fun K "begun" "Crowds.begun" Ve f fd)(T:Txt K mg C)(GS:FnOk P w K mg base CX0 1 fS pZ zl3 (Ux K C))(bS:Binds K pZ zl3 [])(mS:Meth K C "size" fS) :
  FnOk P w K mg base CX0 2 f fd zl15 (Xz K C):=by
 refine F.ok AEs (λvs H Q E h=>?_) (λbE A outer s H vs Q E hr h=>?_)
 .obtain⟨r,p,z,bs,rfl,_⟩:=h
  rfl
 obtain⟨r,p,z,bs,rfl,hW,z1,z10,q⟩:=h;refine⟨_,Ak (Av (Bw (Aa (BL (Gq rfl) rfl T.tuple Cc (Aa (BL Gs rfl T.range LM (Aa (Cm (pv 1) T.cl mS GS hr bS .nil pass0) Ad)) Ad)) (Aa (Aw ADm (Bw (Aa Ag Ad)) (Cm (pv 1) T.cl mS GS hr bS .nil pass0)) (Aa (Bw Ad) Ad))))),?_⟩;obtain⟨dw,jw,hw,_⟩:=id hW;refine⟨_,rfl,p,dw,_,rfl,hw,rfl,p,z,bs,rfl,hW,(z:Int),rfl,λR hR=>⟨R,(z:Int),rfl,Ab,vf,xJ z10,λt ht=>?_⟩⟩;have sA:=(u4 hR (.rng 0 z)).trans (u4 ht (.tup (O2 V.int (below (z:Int).toNat))));have hh:HdAt K (upd (upd H R (.rng 0 z)) t (.tup (O2 V.int (below (z:Int).toNat)))) t (begC z).1:=by
  refine uu ?_;rw[Ab,Cf];unfold begC below;rw[DL,DL];rfl
 generalize upd (upd H R (.rng 0 z)) t (.tup (O2 V.int (below (z:Int).toNat)))=H1 at sA hh;refine⟨by decide,λT1 fm=>?_⟩;have sT:=u4 fm (.tup [V.int 1]);have eT:(upd H1 T1 (.tup [V.int 1])) T1=uA (.tup [V.int 1]):=Ab;have sB:=sA.trans sT;have hh:=sT.ts.seq hh;generalize upd H1 T1 (.tup [V.int 1])=H2 at sB hh eT;have rep:(Cb (z:Int).toNat [V.int 1]).flatten=(begC z).2.1.map V.int:=by
  rw[Cf];show _=(Cb z 1).map V.int;rw[List.map_replicate,List.flatten_replicate_singleton]
 refine⟨_,rfl,p,dw,_,rfl,sB _ _ hw,rfl,p,z,bs,rfl,hW.same sB,T1,(z:Int),[V.int 1],rfl,rfl,eT,by lia,by lia,by simp,by decide,λk1=>?_,λ_ W hW1=>?_⟩
 .have hs:PrAt K H2 T1 (begC z).2.1:=by
   refine uu ?_;rw[eT,<- rep,k1];rfl
  refine⟨A7 _,λe0 sU=>⟨by show 3<=sizeLine;decide,λt7 og=>?_⟩⟩;have s8:=u4 sU (.tup []);have s9:=u4 og (.tup [V.ref t,V.ref T1,V.ref e0]);refine q t7 _ (sB.trans (s8.trans s9)) (StAt.mk (uu Ab) ((s8.trans s9).ts.seq hh) ((s8.trans s9).ts.seq hs) ⟨[],s9.ts.seq (uu Ab),.nil⟩)
 .have sW:=u4 hW1 (.tup (Cb (z:Int).toNat [V.int 1]).flatten)
  have hs:PrAt K (upd H2 W (.tup (Cb (z:Int).toNat [V.int 1]).flatten)) W (begC z).2.1:=uu (by rw[Ab,rep]);have sB:=sB.trans sW;have hh:=sW.ts.seq hh;refine⟨A7 _,λe0 sU=>⟨by show 3<=sizeLine;decide,λt7 og=>?_⟩⟩;have s8:=u4 sU (.tup []);have s9:=u4 og (.tup [V.ref t,V.ref W,V.ref e0]);refine q t7 _ (sB.trans (s8.trans s9)) (StAt.mk (uu Ab) ((s8.trans s9).ts.seq hh) ((s8.trans s9).ts.seq hs) ⟨[],s9.ts.seq (uu Ab),.nil⟩)
structure Crd(K:Au)(D:Addr):Prop where
 cl:Cls K D
 nLo:NoAttr K D "low"
 nHi:NoAttr K D "high"
theorem AEd(lo hi:Int):(crf lo hi).lookup ("low" : Str)=uA (.int lo):=by unfold crf;rw[Aj,uD (by decide+kernel),Aj,uE rfl]
theorem AAm(lo hi:Int):(crf lo hi).lookup ("high" : Str)=uA (.int hi):=by unfold crf;rw[Aj,uE rfl]
theorem Ws{sz:uJ}{p:Nat}(h:p<sz.length):atI (sz.map V.int) (p:Int)=uA (.int (sz.getD p 0)):=Bg (by rw[AY,AD,AG h];rfl)
theorem AFT{sz:uJ}(h:(sz.map V.int)[i]?=uA y):i<sz.length/\y=.int (sz.getD i 0):=by
 rw[AY] at h;obtain⟨c,hc,rfl⟩:=L8.mp h;have il:=(AO.mp hc).1;exact⟨il,by rw[AD,hc];rfl⟩
theorem ADK{sz:uJ}{p k:Nat}(h:k<sz.length):(sz.set p 0).take (k+1)=(sz.set p 0).take k++[if k=p then 0 else sz.getD k 0]:=by
 rw[CC]
 congr 1
 by_cases c:k=p
 .subst c
  rw[He h,uE rfl];rfl
 .rw[F3 (CF c),uD c,AD,AG h]
  rfl
theorem FW:FnScope ["self","web","state","point","heads","sizes","apart","rest","coming"] zl26 (Ai Iv):=fscp (by decide+kernel)
theorem Yt(F:Fun K "passed" "Crowds.passed" Iv f fd)(T:Txt K mg C)(cD:Crd K D)
  (GU:Cal P w K mg base 1 fU ny "points_under" zl9 (Qh K))
  (GH:Cal P w K mg base 2 fH rY "heads_without" zl24 (Yi K))
  (GA:Cal P w K mg base 3 fA pG "apart_without" zl13 (YM K)) :
  FnOk P w K mg base CX0 4 f fd zl26 (TV (uC lo hi) K D):=by
 refine F.ok FW (λvs H Q E h=>?_) (λbE A outer s H vs Q E hr h=>?_)
 .obtain⟨p,b,dx,a,q,z,st,rfl,_⟩:=h
  rfl
 obtain⟨p0,b,dx,a,p,z,st,rfl,ha,hb,vl,pz,z10,q⟩:=h;obtain⟨v1,v2,v3⟩:=vl;have cS:Room 1 _:=hr.mono (by decide);have gp:Room 2 _:=hr.mono (by decide);refine⟨_,Ae (Am (i:=4) FW.nd (Aq Ay (pv 2) Ag))
  (Ae (Am (i:=5) FW.nd (Aq Ay (pv 2) Ag))
  (Ae (Am (i:=6) FW.nd (Aq Ay (pv 2) Ag))
  (Ae (HS (i:=7) (Ai Iv) ["other"] ["point"] [3] FW.nd rfl (IT rfl) rfl rfl (by decide+kernel) ⟨⟨rfl,by decide+kernel⟩,trivial⟩ (Cw (Az GU cS rfl (Aa (pv 4) (Aa (Aq Ay (pv 4) (pv 3)) Ad))))
   (λ_ _ _=>BJ (i:=0))
   (λ_ _ _=>Cq (Ar Oe (pv 0) (pv 1))) (λ_ _ _=>pv 0))
  (Hx (Bv (uZ (ACt (Ar (ABu Fi (Cg hr)) (pv 7) (Cv Ad)) (Xy (Ar Lx (Aq Ay (pv 5) (pv 3)) (Br (pv 0) rfl))))) (Ak (Av Ht)) BP)
  (Ae (HS (i:=8) (Ai Iv) ["other","size"] ["point"] [3] FW.nd rfl (IT rfl) rfl rfl (by decide+kernel) ⟨⟨rfl,by decide+kernel⟩,trivial⟩ (Ii rfl T.enum (Aa (pv 5) Ad))
   (λ_ _ _=>Ek (K:=K) (n:=2) rfl rfl (Bt (BJ (i:=0)) (Bt (BJ (i:=1)) En)))
   (λ_ _ _=>Cr)
   (λ_ _ _=>Ed (Ar Du (pv 0) (pv 2)) Ag (pv 1)))
  (Ak (Av (Bw (Aa (Az GH gp rfl (Aa (pv 4) (Aa (pv 3) Ad))) (Aa (BL BW rfl T.tuple Cc (Aa (pv 8) Ad)) (Aa (Az GA hr rfl (Aa (pv 6) (Aa (pv 3) (Aa (pv 7) Ad)))) Ad))))))))))),?_⟩
 obtain⟨x,y,c3,gg,hx,hy,hA⟩:=hb.get;have i0:atI [V.ref x,V.ref y,V.ref c3] 0=uA (.ref x):=rfl;have i1:atI [V.ref x,V.ref y,V.ref c3] 1=uA (.ref y):=rfl;have i2:atI [V.ref x,V.ref y,V.ref c3] 2=uA (.ref c3):=rfl;have pl:p<st.1.length:=dl pz v1;have jI:st.1.length<=10:=vJ v1 z10;refine⟨_,rfl,b,_,_,_,rfl,rfl,gg,i0,_,rfl,b,_,_,_,rfl,rfl,gg,i1,_,rfl,b,_,_,_,rfl,rfl,gg,i2,?_⟩;refine⟨_,rfl,_,rfl,_,rfl,x,_,_,_,rfl,rfl,hx,Ra pl,x,st.1,st.1.getD p uB,rfl,hx,jI,λl H1 s1 hl el=>?_⟩;refine⟨l,rfl,⟨_,ut el⟩,λR hR=>?_⟩;have hu:=Rq st.1 p;have ul:(undW st.1 (st.1.getD p uB) st.1.length).length<=10:=BY (CH ..) (by rw[A9];exact jI);generalize undW st.1 (st.1.getD p uB) st.1.length=us at el hu ul;refine DR (K:=K) (a:=l) (xs:=nI us) (λj τ H2=>∃o:Option V,τ=[o,uA (.int p)]/\Same H1 H2/\H2 R=uA (.lst (nI ((us.take j).filter λq=>decide (q≠p))))) ⟨uB,rfl,u4 hR _,Ab⟩ (λj τ H2 _ ⟨_,_,sm,_⟩=>ut (sm _ _ el)) ?_ ?_
 .rintro j v τ H2 hv ⟨o,rfl,sm,eR⟩
  obtain⟨k,hk,rfl⟩:=VR hv;have fl:((us.take j).filter λq=>decide (q≠p)).length<=10:=BY (CH ..) (by rw[B7];exact vx ul);refine⟨_,rfl,_,rfl,rfl,_,rfl,?_⟩;by_cases c:k=p
  .refine iteNP (by rw[c]) ⟨_,rfl,sm,?_⟩
   rw[CC,hk,CD,show(uA k).toList=[k] from rfl,D7 (by simpa using c),JI,B3];exact eR
  .refine iteNN (λz=>c (by injection z with z;exact fv z)) ⟨_,rfl,_,eR,BZ (by rw[Fx];exact wD fl),_,rfl,λb o e=>?_,?_⟩
   .rw[Ah (Af e hR)]
    exact sm b o e
   .rw[Ab,CC,hk,CD,show(uA k).toList=[k] from rfl,EO (by simpa using c)]
    unfold nI;rw[BE];rfl
 rintro τ H2 ⟨o,rfl,s2,eR⟩;rw[Fx,CO,<- hu] at eR;have gN:=s1.trans s2;have q':∀(v':V) (H':Hp),Same H H'->RS (uC lo hi) K z H' v' (passC1 ss lo st p)->Q v' H':=q;unfold passC1 at q';refine⟨λσ' H'=>σ'=[uA (.ref a),uA p0,uA (.ref b),uA (.int p),uA (.ref x),uA (.ref y),uA (.ref c3),uA (.ref R),uB]/\Same H H'/\H' R=uA (.lst (nI (restW st.1 p)))/\¬ (restW st.1 p=[]/\st.2.1.getD p 0<lo),?_,?_⟩
 .refine⟨_,rfl,A7 _,λe he=>?_⟩
  have s3:=u4 he (.lst []);have en:nI (restW st.1 p)=(up (restW st.1 p)).map V.int:=by unfold nI up;rw[DL];rfl
  refine⟨up (restW st.1 p),[],⟨R,_,rfl,ut (s3 _ _ eR),by rw[en];exact paired_ints _⟩,⟨e,_,rfl,ut Ab,.nil⟩,_,rfl,?_⟩;have ir:=gN.trans s3;have my:=s3 _ _ eR;generalize upd H2 e (.lst [])=H3 at ir my;by_cases c1:restW st.1 p=[]
  .refine iteP (by rw[c1];rfl) ?_
   refine⟨_,rfl,_,rfl,y,_,_,_,rfl,rfl,ir.ts.seq hy,Ws (dl pz v2),_,rfl,a,D,dx,_,_,rfl,ir _ _ ha,cD.cl,cD.nLo,AEd lo hi,_,_,rfl,rfl,_,rfl,?_⟩;refine ite2 (λc2=>?_) (λc2=>?_)
   .refine q' _ _ ir ?_
    rw[uE ⟨c1,uH c2⟩];exact rfl
   .exact⟨rfl,ir,my,λh=>c2 (uF h.2)⟩
  .refine iteN (λh=>c1 (by cases hh:restW st.1 p with| nil=>rfl| cons u v=>rw[hh] at h;cases h)) ?_
   exact iteF ⟨rfl,ir,my,λh=>c1 h.1⟩
 .rintro σ' H3 ⟨rfl,ir,my,nc⟩
  rw[uD nc] at q';have hy3:=ir.ts.seq hy;refine⟨_,rfl,y,rfl,⟨_,hy3⟩,λZ hZ=>?_⟩;refine Fq (xs:=st.2.1.map V.int) (λk τ H4=>∃n t:Option V,τ=[n,t,uA (.int p)]/\Same H3 H4/\H4 Z=uA (.lst (((st.2.1.set p 0).take k).map V.int))) ⟨uB,uB,rfl,u4 hZ _,Ab⟩ (λk τ H4 _ ⟨_,_,_,sm,_⟩=>sm.ts.seq hy3) ?_ ?_
  .rintro k v τ H4 T1 hv fm ⟨n,t,rfl,sm,eZ⟩
   obtain⟨kl,rfl⟩:=AFT hv;have s5:Same H4 (upd H4 T1 (.tup [.int k,.int (st.2.1.getD k 0)])):=u4 fm _;refine⟨T1,_,rfl,uu Ab,rfl,_,_,rfl,_,_,rfl,rfl,yesD ?_⟩;refine⟨_,rfl,_,rfl,rfl,_,rfl,?_⟩;have fin:∀d:Int,d=(if k=p then 0 else st.2.1.getD k 0)->∃ys,(upd H4 T1 (.tup [.int k,.int (st.2.1.getD k 0)])) Z=uA (.lst ys)/\ys.length<sizeLine/\∃n t:Option V,[uA (.int (k:Int)),uA (.int (st.2.1.getD k 0)),uA (.int (p:Int))]=[n,t,uA (V.int p)]/\Same H3 (upd (upd H4 T1 (.tup [.int k,.int (st.2.1.getD k 0)])) Z (.lst (ys++[.int d])))/\(upd (upd H4 T1 (.tup [.int k,.int (st.2.1.getD k 0)])) Z (.lst (ys++[.int d]))) Z=uA (.lst (((st.2.1.set p 0).take (k+1)).map V.int)):=λd ed=>by
    refine⟨_,s5 _ _ eZ,BZ (by rw[AB,B7];exact xK kl v2 z10),_,_,rfl,λb o e=>?_,?_⟩
    .rw[Ah (Af e hZ)]
     exact s5 _ _ (sm b o e)
    .rw[Ab,ADK kl,BE,ed]
     rfl
   by_cases c:k=p
   .exact iteP (by rw[c]) (fin 0 (by rw[uE c]))
   .exact iteN (λz=>c (by injection z with z;exact fv z)) ⟨_,rfl,fin _ (by rw[uD c])⟩
  rintro τ H4 ⟨n,t,rfl,s4,eZ⟩;rw[AB,<- IZ (i:=p) (a:=0),CO] at eZ;have s14:=ir.trans s4;refine⟨_,rfl,_,rfl,x,st.1,p,rfl,s14.ts.seq hx,pl,jI,λt5 H5 s5 h5=>?_⟩;refine⟨_,rfl,Z,_,rfl,.inl ⟨ut (s5 _ _ eZ),λt6 l9=>?_⟩⟩;have s6:=u4 l9 (.tup ((st.2.1.set p 0).map V.int));have h6:PrAt K (upd H5 t6 (.tup ((st.2.1.set p 0).map V.int))) t6 (st.2.1.set p 0):=uu Ab;have h56:=s6.ts.seq h5;have qV:=s14.trans (s5.trans s6);have kx:=s6 _ _ (s5 _ _ (s4 _ _ my));generalize upd H5 t6 (.tup ((st.2.1.set p 0).map V.int))=H6 at h6 h56 qV kx;refine⟨_,rfl,_,rfl,_,rfl,c3,R,st.2.2,p,restW st.1 p,rfl,hA.ts qV.ts,v3.pr,v3.len z10,kx,v3.1,λt8 H8 s8 h8 lx8=>?_⟩;refine⟨by show 3<=sizeLine;decide,λt9 ht9=>?_⟩;have s9:=u4 ht9 (.tup [V.ref t5,V.ref t6,V.ref t8]);refine q' _ _ (qV.trans (s8.trans s9)) ⟨t9,rfl,StAt.mk (uu Ab) ((s8.trans s9).ts.seq h56) ((s8.trans s9).ts.seq h6) (h8.ts s9.ts),?_,?_,lx8,λr hr=>?_⟩
  .rw[NT]
   exact v1
  .rw[IZ]
   exact v2
  .have hr':=hr
   cases er:restW st.1 p with
   | nil =>
    rw[er] at hr';exact v3.2 r (B0.mp hr').1
   | cons q0 rr =>
    rw[er] at hr';obtain⟨t0,h0,rfl⟩:=(DK Jc).mp hr';have qm:q0∈restW st.1 p:=by rw[er];exact AI
    have qz:q0<z:=by have:=(Bo.mp qm).1;exact uM this v1
    exact AFQ qz (v3.2 t0 h0)
end K45
namespace L2
open PySem PySem.Spec PyProof.Rows
structure ZipOwn(z TI TO i1 i2:Addr):Prop where
 TIz:TI≠z
 TOz:TO≠z
 i1z:i1≠z
 i2z:i2≠z
 TITO:TI≠TO
 TIi1:TI≠i1
 TIi2:TI≠i2
 TOi1:TO≠i1
 TOi2:TO≠i2
 i12:i1≠i2
theorem ADV(n:Nat):ZipOwn (n+4) (n+2) (n+3) n (n+1):=⟨λe=>uI (show n+2=n+4 from e) (by lia),λe=>uI (show n+3=n+4 from e) (by lia),λe=>uI (show n=n+4 from e) (by lia),λe=>uI (show n+1=n+4 from e) (by lia),λe=>uI (show n+2=n+3 from e) (by lia),
 λe=>uI (show n+2=n from e) (by lia),λe=>uI (show n+2=n+1 from e) (by lia),λe=>uI (show n+3=n from e) (by lia),λe=>uI (show n+3=n+1 from e) (by lia),λe=>uI (show n=n+1 from e) (by lia)⟩
section
variable{z TI TO:Addr}{f1 f2:uX}{n1 n2:Nat}{P1 P2:Nat->As->Prop}{S1 S2:Nat->Heap->Prop}
structure ZOff(z TI TO i1 i2:Addr)(f1 f2:uX):Prop where
 own:ZipOwn z TI TO i1 i2
 z1:z∉f1
 z2:z∉f2
 t1:TO∉f1
 t2:TO∉f2
 i2f:i2∉f1
 i1f:i1∉f2
theorem Dw{g:Heap}(h:EH a g g')(n:a∉fp):∀b∈fp,∀o,g.get? b=uA o->g'.get? b=uA o:=λb hb o e=>h.extBut b o (λq=>n (q ▸ hb)) e
theorem Yl{a b:As}(D1:RI prog w A i1 f1 n1 P1 S1)(D2:RI prog w A i2 f2 n2 P2 S2)(O:ZOff z TI TO i1 i2 f1 f2)(hz:M6 s.heap z TI TO .none)(fo:J8 s.heap TI (.ref i1) (.ref i2))(kF:J8 s.heap TO a b)(s1:S1 i s.heap)(s2:S2 i s.heap)(l1:i<n1)(l2:i<n2)
  (q:∀h' tk x y,P1 i x->P2 i y->M6 h' z TI TO (EM s.heap.objs.size)->J8 h' TO x y->S1 (i+1) h'->S2 (i+1) h'->J8 h' s.heap.objs.size x y->h'.objs.size=s.heap.objs.size+1->(∀c o,c≠z->c≠TO->c≠i1->c≠i2->s.heap.get? c=uA o->h'.get? c=uA o)->Q (.ref s.heap.objs.size) {s with heap:=h',toks:=tk}) :
  wpAny (AM prog w) A (Builtin.«zip.__next__» ⟨[.ref z],[]⟩) (λfin s'=>∃v,fin=.done (.ret v)/\Q v s') E s:=by
 have W:=O.own;show wpAny _ _ (field (.ref z) 2 >>= _) _ _ _;refine Ap (ES hz rfl (x:=.bool false) rfl (Ap (ES hz rfl (x:=.ref TI) rfl (Ap (Fk fo rfl ?_)))));unfold LG;refine Ap (Ap (ES hz rfl (x:=.none) rfl (AC ?_)));refine Ap (F7 (Ap (ES hz rfl (x:=.ref TO) rfl (Ap (JO hz (by simp) λha qF ka=>Ap ?_)))))
 replace qF:M6 ha z TI TO .ellipsis:=qF
 refine Ap (Ap (Se ?_));refine Ap (D1.item i _ _ _ l1 (D1.frame _ _ _ s1 (Dw ka O.z1)) λx hb tk1 px s1b kb=>AC ?_);have tb:=kb.extBut _ _ W.TOi1 (ka.extBut _ _ W.TOz kF);refine Ap (Fk tb rfl (Ap (RY tb λhc tc kc=>Ap (T9 (AC ?_)))))
 replace tc:J8 hc TO x b:=tc
 refine Ap (Ap (Se ?_));refine Ap (D2.item i _ _ _ l2 (D2.frame _ _ _ (D2.frame _ _ _ (D2.frame _ _ _ s2 (Dw ka O.z2)) (Dw kb O.i1f)) (Dw kc O.t2)) λy hd tk2 py s2d kd=>AC ?_);have td:=kd.extBut _ _ W.TOi2 tc;refine Ap (Fk td rfl (Ap (RY td λhe te ke=>Ap (T9 (AC (AC ?_))))))
 replace te:J8 he TO x y:=te
 refine Ap (Fk te rfl (Ap (WG ?_)));have sz:he.objs.size=s.heap.objs.size:=by rw[ke.1,kd.1,kc.1,kb.1,ka.1]
 have ze:=ke.extBut _ _ W.TOz.symm (kd.extBut _ _ W.i2z.symm (kc.extBut _ _ W.TOz.symm (kb.extBut _ _ W.i1z.symm qF)));have ke':∀c o,c≠z->c≠TO->c≠i1->c≠i2->s.heap.get? c=uA o->he.get? c=uA o:=λc o h1 h2 h3 h4 e=>ke.extBut _ _ h2 (kd.extBut _ _ h4 (kc.extBut _ _ h2 (kb.extBut _ _ h3 (ka.extBut _ _ h1 e))));have s1e:=D1.frame _ _ _ (D1.frame _ _ _ (D1.frame _ _ _ s1b (Dw kc O.t1)) (Dw kd O.i2f)) (Dw ke O.t1);have s2e:=D2.frame _ _ _ s2d (Dw ke O.t2);have zl:=AW ze;unfold Tk;have zf:M6 (he.push {cls:=.type "tuple",data:=.seq #[x,y]}) z TI TO .ellipsis:=AH _ ze;refine Ap (Ap (JO zf (by simp) λhg zg kg=>?_))
 replace zg:M6 hg z TI TO (EM he.objs.size):=zg
 refine JO zg (by simp) λhh zh kh=>?_
 replace zh:M6 hh z TI TO (EM he.objs.size):=zh
 have up:∀c o,c≠z->he.get? c=uA o->hh.get? c=uA o:=λc o h1 e=>kh.extBut _ _ h1 (kg.extBut _ _ h1 (AH _ e));have tn:=kh.extBut _ _ (MG zl) (kg.extBut _ _ (MG zl) (AT _ rfl));have szh:hh.objs.size=he.objs.size+1:=by rw[kh.1,kg.1,Do]
 rw[sz] at zh tn szh;refine AC ⟨_,rfl,?_⟩;rw[sz];exact q hh _ x y px py zh (up _ _ W.TOz te) (D1.frame _ _ _ s1e λb hb o e=>up b o (λe'=>O.z1 (e' ▸ hb)) e) (D2.frame _ _ _ s2e λb hb o e=>up b o (λe'=>O.z2 (e' ▸ hb)) e) tn szh λc o h1 h2 h3 h4 e=>up c o h1 (ke' c o h1 h2 h3 h4 e)
theorem ABX{a b:As}{Q:Fin->AA->Prop}(D1:RI prog w A i1 f1 n1 P1 S1)(O:ZOff z TI TO i1 i2 f1 f2)(hz:M6 s.heap z TI TO .none)(fo:J8 s.heap TI (.ref i1) (.ref i2))(s1:S1 n1 s.heap)
  (q:∀h' e,(∀c o,c≠z->c≠i1->s.heap.get? c=uA o->h'.get? c=uA o)->(∃o,h'.get? e=uA o/\o.cls=.type "StopIteration")->E (.ref e) {s with heap:=h'}) :
  wpAny (AM prog w) A (Builtin.«zip.__next__» ⟨[.ref z],[]⟩) Q E s:=by
 show wpAny _ _ (field (.ref z) 2 >>= _) _ _ _;refine Ap (ES hz rfl (x:=.bool false) rfl (Ap (ES hz rfl (x:=.ref TI) rfl (Ap (Fk fo rfl ?_)))));unfold LG;refine Ap (Ap (ES hz rfl (x:=.none) rfl (AC ?_)));refine Ap (F7 (Ap (ES hz rfl (x:=.ref TO) rfl (Ap (JO hz (by simp) λha qF ka=>Ap ?_)))))
 replace qF:M6 ha z TI TO .ellipsis:=qF
 refine Ap (Ap (Se ?_));refine Ap (D1.done _ _ _ (D1.frame _ _ _ s1 (Dw ka O.z1)) λhb e kb he=>?_);obtain⟨oe,i8,hce⟩:=he;have zb:=kb _ _ O.own.i1z.symm qF;have ez:e≠z:=λx=>by subst x;rw[zb] at i8;cases i8;simp at hce
 exact JO zb (by simp) λhc _ kc=>q hc e (λc o h1 h3 x=>kc.extBut _ _ h1 (kb _ _ h3 (ka.extBut _ _ h1 x))) ⟨oe,kc.extBut _ _ ez i8,hce⟩
theorem Wc{a b:As}{Q:Option As->AA->Prop}(D1:RI prog w A.in1 i1 f1 n1 P1 S1)(D2:RI prog w A.in1 i2 f2 n2 P2 S2)(O:ZOff z TI TO i1 i2 f1 f2)(hz:M6 s.heap z TI TO .none)(fo:J8 s.heap TI (.ref i1) (.ref i2))(kF:J8 s.heap TO a b)(s1:S1 i s.heap)(s2:S2 i s.heap)(l1:i<n1)(l2:i<n2)
  (q:∀h' tk x y,P1 i x->P2 i y->M6 h' z TI TO (EM s.heap.objs.size)->J8 h' TO x y->S1 (i+1) h'->S2 (i+1) h'->J8 h' s.heap.objs.size x y->h'.objs.size=s.heap.objs.size+1->(∀c o,c≠z->c≠TO->c≠i1->c≠i2->s.heap.get? c=uA o->h'.get? c=uA o)->Q (uA (.ref s.heap.objs.size)) {s with heap:=h',toks:=tk}) :
  wpAny (AM prog w) A (IU (.ref z)) Q E s:=by
 have ty:s.TypeIs (.ref z) "zip":=⟨_,hz,rfl⟩;unfold IU;exact Ap (KG (wpAny_callSpecial?_slot (name:=F6 "__next__") ty J9 (Dx J9 ty P8 (Yl D1 D2 O hz fo kF s1 s2 l1 l2 λh' tk x y a1 a2 a3 a4 a5 a6 a7 a8 a9=>AC (q h' tk x y a1 a2 a3 a4 a5 a6 a7 a8 a9)) (Pc _))))
theorem Zy{a b:As}{Q:Option As->AA->Prop}(D1:RI prog w A.in1 i1 f1 n1 P1 S1)(O:ZOff z TI TO i1 i2 f1 f2)(hz:M6 s.heap z TI TO .none)(fo:J8 s.heap TI (.ref i1) (.ref i2))(s1:S1 n1 s.heap)
  (q:∀h',(∀c o,c≠z->c≠i1->s.heap.get? c=uA o->h'.get? c=uA o)->Q uB {s with heap:=h'}):wpAny (AM prog w) A (IU (.ref z)) Q E s:=by
 have ty:s.TypeIs (.ref z) "zip":=⟨_,hz,rfl⟩;unfold IU;refine Ap (KG (wpAny_callSpecial?_slot (name:=F6 "__next__") ty J9 (Dx J9 ty P8 (ABX (a:=a) (b:=b) D1 O hz fo s1 λh' e hk he=>?_) (Pc _))));obtain⟨o,ho,hc⟩:=he;exact Ap (IC (T:="StopIteration") (b:=true) ⟨o,ho,hc⟩ Q0 (AC (q _ hk)))
end
def Izt(S1 S2:Hp->List V->Prop):It :=
 ⟨λi H=>∃xs ys x y,S1 H xs/\S2 H ys/\xs[i]?=uA x/\ys[i]?=uA y,
  λi H v H'=>∃T x y,v=.ref T/\H T=uB/\H'=upd H T (.tup [x,y])/\(∀xs,S1 H xs->xs[i]?=uA x)/\∀ys,S2 H ys->ys[i]?=uA y,
  λi H=>∃xs,(∃ys,S2 H ys)/\S1 H xs/\xs.length=i⟩
def zttSt(z TI TO i1 i2 l1 l2:Addr)(i:Nat)(h:Heap):Prop:=M6 h z TI TO .none/\J8 h TI (.ref i1) (.ref i2)/\(∃a b,J8 h TO a b)/\h.IsTupleIter i1 l1 i/\h.IsTupleIter i2 l2 i
theorem YG{z TI TO:Addr}{xs ys:Array As}(O:ZipOwn z TI TO i1 i2)(st:zttSt z TI TO i1 i2 l1 l2 i h)(n1:l1≠TO)(n2:l2≠TO)(h1:h.IsTuple l1 xs)(h2:h.IsTuple l2 ys):ZOff z TI TO i1 i2 [i1,l1] [i2,l2]/\l1≠i1/\l2≠i2:=by
 obtain⟨hz,fo,⟨a,b,kF⟩,⟨o1,e1,c1,_⟩,⟨o2,e2,c2,_⟩⟩:=st;obtain⟨u1,g1,d1,_⟩:=h1;obtain⟨u2,g2,d2,_⟩:=h2;have a1:=Gi g1 hz (by rw[d1];show C4 "tuple"≠C4 "zip";decide);have a2:=Gi g2 hz (by rw[d2];show C4 "tuple"≠C4 "zip";decide);have b1:=Gi g1 e1 (by rw[d1,c1];decide);have b2:=Gi g1 e2 (by rw[d1,c2];decide);have b3:=Gi g2 e1 (by rw[d2,c1];decide);have b4:=Gi g2 e2 (by rw[d2,c2];decide);have two:∀{a b c:Addr},a≠b->a≠c->a∉[b,c]:=λ{a b c} h1 h2 h=>by
  simp only[AS,DJ,or_false] at h;exact h.elim h1 h2
 exact⟨⟨O,two O.i1z.symm a1.symm,two O.i2z.symm a2.symm,two O.TOi1 n1.symm,two O.TOi2 n2.symm,two O.i12.symm b2.symm,two O.i12 b3.symm⟩,b1,b4⟩
theorem ACP{k:Nat}{z TI TO:Addr}(O:ZipOwn z TI TO i1 i2)(n1:l1≠TO)(n2:l2≠TO) :
  Turn P w K (.Tuple fc k tp) (Izt (λH xs=>SqT K H l1 xs) (λH xs=>SqT K H l2 xs)) [z,TI,TO,i1,i2] z (zttSt z TI TO i1 i2 l1 l2) where
 mem:=by simp
 obj:=λi h st b hb=>by
  obtain⟨hz,fo,⟨a,c,kF⟩,⟨o1,e1,c1,d1⟩,⟨o2,e2,c2,d2⟩⟩:=st;simp only[AS,DJ,or_false] at hb;rcases hb with rfl| rfl| rfl| rfl| rfl
  .exact⟨_,hz,λv q=>by have q':=q;cases q'⟩
  .exact⟨_,fo,λv q=>by have q':=q;cases q'⟩
  .exact⟨_,kF,λv q=>by have q':=q;cases q'⟩
  .exact⟨_,e1,λv q=>by rw[d1] at q;cases q⟩
  .exact⟨_,e2,λv q=>by rw[d2] at q;cases q⟩
 keep:=λi h h' st kp=>by
  obtain⟨hz,fo,⟨a,c,kF⟩,h1,h2⟩:=st;exact⟨kp z (by simp) _ hz,kp TI (by simp) _ fo,⟨a,c,kp TO (by simp) _ kF⟩,h1.at λo e=>kp i1 (by simp) o e,h2.at λo e=>kp i2 (by simp) o e⟩
 item:=by
  intro X hP hw hK hc i aS s σ H E I hf st hg;obtain⟨xs,ys,x,y,pY,rA,hx,hy⟩:=hg;subst hP hw hK;obtain⟨bg,rv,pl,_⟩:=I.tuple pY;obtain⟨gX,rv2,qD,_⟩:=I.tuple rA;obtain⟨u,hu,ru⟩:=rv.get hx;obtain⟨u2,rP,ru2⟩:=rv2.get hy;have ku:bg.toArray[i]?=uA u:=by simpa using hu
  have rM:gX.toArray[i]?=uA u2:=by simpa using rP
  obtain⟨D,m1,m2⟩:=YG O st n1 n2 pl qD;obtain⟨hz,fo,⟨a,c,kF⟩,h1,h2⟩:=st;refine Wc (Ep (A:=X.A.in1) (I.ok.hd hc) i1 l1 m1 bg.toArray) (Ep (A:=X.A.in1) (I.ok.hd hc) i2 l2 m2 gX.toArray) D hz fo kF ⟨h1,pl⟩ ⟨h2,qD⟩ (Cn.mp ku).1 (Cn.mp rM).1 λh' tk x' y' px py hz' hTO' s1' s2' hT' hsz kp=>⟨.ref s.heap.objs.size,rfl,?_⟩;rw[ku] at px;rw[rM] at py;cases px;cases py;have lt:∀b∈[z,TI,TO,i1,i2],b≠s.heap.objs.size:=λb hb=>by
   have:∃o,s.heap.get? b=uA o:=by
    simp only[AS,DJ,or_false] at hb;rcases hb with rfl| rfl| rfl| rfl| rfl
    .exact⟨_,hz⟩
    .exact⟨_,fo⟩
    .exact⟨_,kF⟩
    .obtain⟨o,e,_⟩:=h1;exact⟨_,e⟩
    .obtain⟨o,e,_⟩:=h2;exact⟨_,e⟩
   obtain⟨o,e⟩:=this;exact BH (AW e)
  have hTI':=kp _ _ O.TIz O.TITO O.TIi1 O.TIi2 fo;have I1:Inv X aS σ H {s with heap:=h',toks:=tk}:=I.walked (wr:=[z,TI,TO,i1,i2]) (λb o nb e=>kp b o (λq=>nb (by rw[q];simp)) (λq=>nb (by rw[q];simp)) (λq=>nb (by rw[q];simp)) (λq=>nb (by rw[q];simp)) e) hf;have tH:=I.hok.fresh (AF _);have I2:Inv X aS σ (upd H s.heap.objs.size (.tup [x,y])) {s with heap:=h',toks:=tk}:=by
   refine I1.track (I.fpOk (AF _) tH) ⟨by show 2<=sizeLine;decide,[u,u2],.cons ru (.cons ru2 .nil),?_⟩;exact⟨_,hT',rfl,0,rfl⟩
  have hf2:∀b∈[z,TI,TO,i1,i2],FpOk X aS (upd H s.heap.objs.size (.tup [x,y])) b:=λb hb=>by
   obtain⟨f0,fr⟩:=hf b hb;exact⟨by rw[Ah (lt b hb)];exact f0,fr⟩
  refine wpAny_letOwnedTupleGo_zip (s:={s with heap:=h',toks:=tk}) hz' λh'' hz'' hs=>?_;refine⟨.ref s.heap.objs.size,_,I2.walked (t':=tk) (wr:=[z,TI,TO,i1,i2]) (λb o nb e=>hs.extBut _ _ (λq=>nb (by rw[q];simp)) e) hf2,rfl,⟨_,x,y,rfl,tH,rfl,λzs hz=>?_,λzs hz=>?_⟩,⟨hz'',hs.extBut _ _ O.TIz hTI',⟨_,_,hs.extBut _ _ O.TOz hTO'⟩,s1'.1.at λo e=>hs.extBut _ o O.i1z e,s2'.1.at λo e=>hs.extBut _ o O.i2z e⟩,λb hb=>(hf2 b hb).1⟩
  .rw[I.tuple_inj hz pY];exact hx
  .rw[I.tuple_inj hz rA];exact hy
 done:=by
  intro X hP hw hK hc i aS s σ H E I hf st hg;obtain⟨xs,⟨ys,rA⟩,pY,hx⟩:=hg;subst hP hw hK;obtain⟨bg,rv,pl,_⟩:=I.tuple pY;obtain⟨gX,rv2,qD,_⟩:=I.tuple rA;have ei:bg.toArray.size=i:=by rw[A8,<- rv.length,hx]
  obtain⟨D,m1,m2⟩:=YG O st n1 n2 pl qD;obtain⟨hz,fo,⟨a,c,kF⟩,h1,h2⟩:=st;refine Zy (a:=a) (b:=c) (Ep (A:=X.A.in1) (I.ok.hd hc) i1 l1 m1 bg.toArray) D hz fo ⟨by rw[ei];exact h1,pl⟩ λh' kp=>⟨rfl,?_⟩;exact I.walked (t':=s.toks) (wr:=[z,TI,TO,i1,i2]) (λb o nb e=>kp b o (λq=>nb (by rw[q];simp)) (λq=>nb (by rw[q];simp)) e) hf
 self:=λA i s Q E st h=>UV st.1 h
theorem ZQ{S1 S2:Hp->List V->Prop}{g:TG}{R:Hp->Prop}(hm:xs.length=ys.length)
  (Pv:Nat->St->Hp->Prop) (h0:Pv 0 τ H) (fz:∀i τ H,i<=xs.length->Pv i τ H->S1 H xs) (sk:∀i τ H,i<=xs.length->Pv i τ H->S2 H ys)
  (hs:∀i x y τ H T,xs[i]?=uA x->ys[i]?=uA y->H T=none->Pv i τ H->g (.ref T) τ (upd H T (.tup [x,y])) λτ2 H2=>tc τ2 H2 (putD D (Pv (i+1)) te τ2))
  (hd:∀τ H,Pv xs.length τ H->R H):Fl (Izt S1 S2) D g tc te R τ H:=by
 refine Gk xs.length Pv h0 (λi τ H hi p=>⟨xs,ys,xs[i]'hi,ys[i]'(uM hi hm),fz i τ H (C3 hi) p,sk i τ H (C3 hi) p,AG _,AG _⟩) (λτ H p=>⟨xs,⟨ys,sk _ τ H (AF _) p⟩,fz _ τ H (AF _) p,rfl⟩) (λi τ H x H' hi p y=>?_) hd;obtain⟨T,x,y,rfl,hT,rfl,y1,y2⟩:=y;exact hs i x y τ H T (y1 xs (fz i τ _ (C3 hi) p)) (y2 ys (sk i τ _ (C3 hi) p)) hT p
noncomputable abbrev zt2(h:Heap)(l1 l2:Addr):Heap:=(h.push {cls:=.type "tuple_iterator",data:=.fields #[.ref l1,.int 0 0]}).push {cls:=.type "tuple_iterator",data:=.fields #[.ref l2,.int 0 0]}
noncomputable abbrev zt5(h:Heap)(l1 l2:Addr):Heap:=(((zt2 h l1 l2).push {cls:=.type "tuple",data:=.seq #[.ref h.objs.size,.ref (h.objs.size+1)]}).push {cls:=.type "tuple",data:=.seq #[.none,.none]}).push {cls:=.type "zip",data:=.fields #[.none,.bool false,.bool false,.ref (h.objs.size+2),.ref (h.objs.size+3)]}
theorem Zc(l1 l2:Addr)(xs ys:Array As) :
  Meets (Builtin.«zip.__new__» ⟨[.type "zip",.ref l1,.ref l2],[]⟩) (λ_ R s=>s.heap.IsTuple l1 xs/\s.heap.IsTuple l2 ys /\
   R (.ok (.ret (.ref (s.heap.objs.size+4)))) {s with heap:=zt5 s.heap l1 l2}) :=
 .of_wp λprog w A R s h=>by
  obtain⟨hp,g,d,tk,os⟩:=s;obtain⟨t1,t2,h⟩:=h;have nX:=sub_zip;have tM:=t1;have tu:YY (ZZ ⟨hp.push {cls:=.type "tuple_iterator",data:=.fields #[.ref l1,.int 0 0]},g,d,tk,os⟩) l2 ys:=av t2 _
  wp_walk using E6 tM,E6 tu
  simp only[Do] at *;exact⟨_,rfl,h⟩
theorem ACO{xs ys:Array As}(fz:s.heap.IsTuple l1 xs)(sk:s.heap.IsTuple l2 ys)
  (q:∀h',zttSt (s.heap.objs.size+4) (s.heap.objs.size+2) (s.heap.objs.size+3) s.heap.objs.size (s.heap.objs.size+1) l1 l2 0 h'->(∀c o,s.heap.get? c=uA o->h'.get? c=uA o)->Q (.ref (s.heap.objs.size+4)) {s with heap:=h'}) :
  wpAny (AM prog w) A (call (.type "zip") [.ref l1,.ref l2]) Q E s:=by
 refine SV PySem.F.called_zip (by decide) (PySem.F.typeCall_zip_2 _ _) (PySem.F.newCall_zip_2 _ _) (λobj=>PySem.F.args_object_init_3 obj _ _) PySem.F.entry_zip_new (Zc l1 l2 xs ys) ⟨fz,sk,?_⟩;have up:∀(h:Heap) (o:Obj) (c:Addr) (v:Obj),h.get? c=uA v->(h.push o).get? c=uA v:=λh o c v e=>AH _ e;have at_:∀(h:Heap) (o:Obj) (n:Nat),h.objs.size=n->o.isFreed=false->(h.push o).get? n=uA o:=λh o n e f=>by subst e;exact AT _ f
 have z1:(s.heap.push {cls:=.type "tuple_iterator",data:=.fields #[.ref l1,.int 0 0]}).objs.size=s.heap.objs.size+1:=Do ..;have z2:(zt2 s.heap l1 l2).objs.size=s.heap.objs.size+2:=by rw[Do,z1]
 have g1:=up _ {cls:=.type "tuple_iterator",data:=.fields #[.ref l2,.int 0 0]} _ _ (at_ s.heap {cls:=.type "tuple_iterator",data:=.fields #[.ref l1,.int 0 0]} _ rfl rfl);have g2:=at_ _ {cls:=.type "tuple_iterator",data:=.fields #[.ref l2,.int 0 0]} _ z1 rfl;have g3:=at_ (zt2 s.heap l1 l2) {cls:=.type "tuple",data:=.seq #[.ref s.heap.objs.size,.ref (s.heap.objs.size+1)]} _ z2 rfl;have g4:=at_ ((zt2 s.heap l1 l2).push {cls:=.type "tuple",data:=.seq #[.ref s.heap.objs.size,.ref (s.heap.objs.size+1)]}) {cls:=.type "tuple",data:=.seq #[.none,.none]} (s.heap.objs.size+3) (by rw[Do,z2]) rfl;have g5:=at_ (((zt2 s.heap l1 l2).push {cls:=.type "tuple",data:=.seq #[.ref s.heap.objs.size,.ref (s.heap.objs.size+1)]}).push {cls:=.type "tuple",data:=.seq #[.none,.none]}) {cls:=.type "zip",data:=.fields #[.none,.bool false,.bool false,.ref (s.heap.objs.size+2),.ref (s.heap.objs.size+3)]} (s.heap.objs.size+4) (by rw[Do,Do,z2]) rfl;exact⟨⟨_,g5,rfl⟩,q _ ⟨g5,up _ _ _ _ (up _ _ _ _ g3),⟨_,_,up _ _ _ _ g4⟩,⟨_,up _ _ _ _ (up _ _ _ _ (up _ _ _ _ g1)),rfl,rfl⟩,⟨_,up _ _ _ _ (up _ _ _ _ (up _ _ _ _ g2)),rfl,rfl⟩⟩ λc o x=>up _ _ _ _ (up _ _ _ _ (up _ _ _ _ (up _ _ _ _ (up _ _ _ _ x))))⟩
section
variable{k:Nat}
def AHS(K:Au)(ta:TA):TI:=λσ H R=>ta σ H λvs H1=>∃a b,vs=[.ref a,.ref b]/\(∃xs,SqT K H1 a xs)/\(∃ys,SqT K H1 b ys)/\R (Izt (λH xs=>SqT K H a xs) (λH xs=>SqT K H b xs)) H1
theorem AGU{l m:Expr}{ta:TA}{p:Pos}(hg:Gl X "zip")(hm:X.mg "zip" = uB)(ha:PA X [l,m] ta)(hs:autoParam (BQ [l,m] X.env=(false,eval l X.env)::BQ [m] X.env) zA0._auto_1)(fk:autoParam ((FG pos (BQ [m] X.env)).any (·.1)=false) zA0._auto_1) :
  PI X (.Tuple fc k tp) (.Call (.Name "zip" p) [l,m] [] pos) (AHS X.K ta):=by
 intro aS s σ H R I h;refine Xt (Dt I hg hm boot_zip (DB (thn (ha pos aS s σ H _ I h) λus s1 ⟨vs,H1,I1,r1,q1⟩=>?_) hs fk));obtain⟨a,b,rfl,⟨xs,pY⟩,⟨ys,rA⟩,q⟩:=q1;obtain⟨u,v,rfl,ru,rv⟩:=r1.two;cases ru;cases rv;obtain⟨bg,_,pl,_⟩:=I1.tuple pY;obtain⟨gX,_,qD,_⟩:=I1.tuple rA;have la:a<s1.heap.objs.size:=by obtain⟨o,e,_⟩:=pl;exact AW e
 have lb:b<s1.heap.objs.size:=by obtain⟨o,e,_⟩:=qD;exact AW e
 refine ACO pl qD λh' st hk=>UV st.1 ?_;have I2:=I1.kept (t':=s1.toks) hk;refine⟨s1.heap.objs.size+4,[s1.heap.objs.size+4,s1.heap.objs.size+2,s1.heap.objs.size+3,s1.heap.objs.size,s1.heap.objs.size+1],_,_,H1,rfl,I2,ACP (ADV _) (BH (OQ 3 la)) (BH (OQ 3 lb)),st,λb hb=>?_,q⟩;have e:s1.heap.objs.size<=b:=by
  simp only[AS,DJ,or_false] at hb;rcases hb with rfl| rfl| rfl| rfl| rfl
  .exact Ha _ _
  .exact Ha _ _
  .exact Ha _ _
  .exact AF _
  .exact Ha _ _
 exact I1.fpOk e (I1.hok.fresh e)
end
end L2
namespace K45
open PySem L2 G
theorem Vm{i j:Int}{c:Option Int}:(c=uA (min i j)\/c=uA (max i j))↔(c=uA i\/c=uA j):=by
 rcases O4 i j with h| h
 .rw[KW h,KA h]
 .rw[KB h,K0 h]
  exact⟨Or.symm,Or.symm⟩
theorem ADN(st:StO)(i j:Int):joinW st (min i j) (max i j)=joinW st i j:=by
 unfold joinW;refine G8 λc _=>?_;rw[show min (min i j) (max i j)=min i j by lia];by_cases h:c=uA i\/c=uA j
 .rw[uE h,uE (Vm.mpr h)]
 .rw[uD h,uD λz=>h (Vm.mp z)]
theorem JR{st:StO}{sz:uJ}(h:sz.length=st.length)(i j v:Int):(joinZ st sz i j v).length=st.length:=by
 unfold joinZ;rw[AB,V1,h];exact x9
theorem WQ{st:StO}{sz:uJ}(h:sz.length=st.length)(i j v:Int){k:Nat}(hk:k<st.length):(joinZ st sz i j v).take (k+1)=(joinZ st sz i j v).take k++[if st.getD k uB=uA i\/st.getD k uB=uA j then v else sz.getD k 0]:=by
 have bu:k<(joinZ st sz i j v).length:=by rw[JR h];exact hk
 rw[CC,AG bu,<- Rx h i j v hk,AD,AG bu];rfl
theorem Fy:FnScope ["self","web","state","number","heads","sizes","apart","pair","size","greater"] zl25 (Ai Pu):=fscp (by decide+kernel)
theorem ACm{fJ:Addr}{fdJ:BA}(F:Fun K "taken" "Crowds.taken" Pu f fd)(T:Txt K mg C)(cD:Crd K D)(hzip:mg "zip" = uB)
  (GO:Cal P w K mg base 1 fO rX "heads_of" zl10 (JQ K))
  (GT:FnOk P w K mg base CX0 1 fT eK zl3 (Qq K C)) (bT:Binds K eK zl3 []) (mT:Meth K C "ties" fT)
  (GJ:Cal P w K mg base 1 fJ fdJ "parts_as_one" zl23 (YJ K))
  (GR:Cal P w K mg base 2 fR kK "renamed" zl12 (Jb K)) :
  FnOk P w K mg base CX0 4 f fd zl25 (Qf (uC lo hi) K C D):=by
 refine F.ok Fy (λvs H Q E h=>?_) (λbE A outer s H vs Q E hr h=>?_)
 .obtain⟨a,p,b,dx,t,z,bs,st,rfl,_⟩:=h
  rfl
 obtain⟨a,p,b,dx,t,z,bs,st,rfl,ha,hW,j3,hb,vl,⟨i,j,ei,ej,il,jl,al,bl⟩,tn,z10,q⟩:=h;have cS:Room 1 _:=hr.mono (by decide);have gp:Room 2 _:=hr.mono (by decide);obtain⟨v1,v2,v3⟩:=id vl;refine⟨_,Ae (Am (i:=4) Fy.nd (Aq Ay (pv 2) Ag))
  (Ae (Am (i:=5) Fy.nd (Aq Ay (pv 2) Ag))
  (Ae (Am (i:=6) Fy.nd (Aq Ay (pv 2) Ag))
  (Ae (Am (i:=7) Fy.nd (Az GO cS rfl (Aa (pv 4) (Aa (Aq Bf (Cm (pv 1) T.cl mT GT cS bT .nil pass0) (pv 3)) Ad))))
  (Ae (Bv (Ar Du (Aq Ay (pv 7) Ag) (Aq Ay (pv 7) Ag)) (Ak (Av (pv 2))) BP)
  (Ae (Am (i:=8) Fy.nd (Aw Bs (Aq Ay (pv 5) (Aq Ay (pv 7) Ag)) (Aq Ay (pv 5) (Aq Ay (pv 7) Ag))))
  (Ae (Bv (uZ (Ho (Ar (ABK (JD Fi) (Cg hr)) (pv 7) (pv 6) rfl) (Gn (Ar Yj (pv 8) (Br (pv 0) rfl))))) (Ak (Av Ht)) BP)
  (Ae (HS (i:=9) (Ai Pu) ["head","before"] ["pair","size"] [7,8] Fy.nd rfl (IT rfl) rfl rfl (by decide+kernel) ⟨⟨rfl,by decide+kernel⟩,⟨rfl,by decide+kernel⟩,trivial⟩ (AGU rfl hzip (Aa (pv 4) (Aa (pv 5) Ad)))
   (λ_ _ _=>Ek (K:=K) (n:=2) rfl rfl (Bt (BJ (i:=0)) (Bt (BJ (i:=1)) En)))
   (λ_ _ _=>Cr)
   (λ_ _ _=>Ed (Ar (Fz (K:=K) rfl) (pv 0) (pv 2) rfl) (pv 3) (pv 1)))
  (Ak (Av (Bw (Aa (BL BW rfl T.tuple Cc (Aa (Az GJ cS rfl (Aa (pv 4) (Aa (Aq Ay (pv 7) Ag) (Aa (Aq Ay (pv 7) Ag) Ad)))) Ad)) (Aa (BL BW rfl T.tuple Cc (Aa (pv 9) Ad)) (Aa (Az GR gp rfl (Aa (pv 6) (Aa (Aq Ay (pv 7) Ag) (Aa (Aq Ay (pv 7) Ag) Ad)))) Ad))))))))))))),?_⟩
 obtain⟨dw,jw,hw,_⟩:=id hW;obtain⟨x,y,c3,gg,hx,hy,hA⟩:=hb.get;have i0:atI [V.ref x,V.ref y,V.ref c3] 0=uA (.ref x):=rfl;have i1:atI [V.ref x,V.ref y,V.ref c3] 1=uA (.ref y):=rfl;have i2:atI [V.ref x,V.ref y,V.ref c3] 2=uA (.ref c3):=rfl;refine⟨_,rfl,b,_,_,_,rfl,rfl,gg,i0,_,rfl,b,_,_,_,rfl,rfl,gg,i1,_,rfl,b,_,_,_,rfl,rfl,gg,i2,?_⟩;refine⟨_,rfl,_,rfl,p,dw,_,rfl,hw,rfl,p,z,bs,rfl,hW,λl H1 s1 hl hL=>?_⟩;obtain⟨l',ts,el,hX,px⟩:=hL;cases el;have qq:=AG tn;obtain⟨v,hv,rt⟩:=uj px qq;obtain⟨x1,y1,ext,xz,yz⟩:=j3 bs[t] (ER tn);have gd:bs.getD t []=bs[t]:=by rw[AD,qq];rfl
 have ex:ea bs t=x1:=by unfold ea;rw[gd,ext];rfl
 have ey:eb bs t=y1:=by unfold eb;rw[gd,ext];rfl
 rw[ext] at rt;obtain⟨tq,rfl,lP⟩:=Bx rt;have q':∀(v':V) (H':Hp),Same H H'->RS (uC lo hi) K z H' v' (takeC ss hi st (ea bs t) (eb bs t))->Q v' H':=q;rw[Kw ei ej] at q';refine⟨_,rfl,l,ts,_,_,rfl,rfl,hX,Bg hv,x,tq,st.1,x1,y1,i,j,rfl,s1.ts.seq hx,lP,dl xz v1,dl yz v1,by rw[<- ex];exact ei,by rw[<- ey];exact ej,λpp H2 s2 hp=>?_⟩;have gN:=s1.trans s2;have e7:SqT K H2 pp [.int (min (i:Int) j),.int (max (i:Int) j)]:=hp;refine⟨_,rfl,pp,_,_,_,rfl,rfl,e7,rfl,_,rfl,pp,_,_,_,rfl,rfl,e7,rfl,rfl,_,rfl,?_⟩;by_cases c:(i:Int)=j
 .refine iteP (congrArg V.int (xA c)) ⟨_,rfl,q' _ _ gN ?_⟩
  rw[uE c];exact⟨b,rfl,gN.ts.sta hb,vl⟩
 .refine iteN (λe=>c (by have:=V.int.inj e;exact xB this)) ?_
  rw[uD c] at q';have emn:min (i:Int) j=((min i j:Nat):Int):=xw;have emx:max (i:Int) j=((max i j:Nat):Int):=xx;have hy2:=gN.ts.seq hy;have g1:atI (st.2.1.map V.int) (min (i:Int) j)=uA (.int (st.2.1.getD (min (i:Int) j).toNat 0)):=by rw[emn,Cf];exact Ws (by lia)
  have g2:atI (st.2.1.map V.int) (max (i:Int) j)=uA (.int (st.2.1.getD (max (i:Int) j).toNat 0)):=by rw[emx,Cf];exact Ws (by lia)
  generalize st.2.1.getD (min (i:Int) j).toNat 0=S1 at q' g1;generalize st.2.1.getD (max (i:Int) j).toNat 0=S2 at q' g2;refine⟨_,rfl,_,rfl,pp,_,_,_,rfl,rfl,e7,rfl,y,_,_,_,rfl,rfl,hy2,g1,_,rfl,_,rfl,pp,_,_,_,rfl,rfl,e7,rfl,y,_,_,_,rfl,rfl,hy2,g2,_,_,rfl,rfl,?_⟩;obtain⟨om,ha3,pa3⟩:=hA.ts gN.ts;refine⟨_,rfl,_,rfl,prS i j,st.2.2,Fd hp,.inr ⟨c3,om,rfl,ha3,pa3⟩,_,rfl,?_⟩;by_cases c1:prS (i:Int) j∈st.2.2
  .exact iteP c1 (iteT (q' _ _ gN (by rw[uE (.inl c1)];exact rfl)))
  refine iteN c1 ?_;refine⟨_,rfl,_,rfl,a,D,dx,_,_,rfl,gN _ _ ha,cD.cl,cD.nHi,AAm lo hi,_,_,rfl,rfl,_,rfl,?_⟩;refine ite2 (λc2=>q' _ _ gN (by rw[uE (.inr (uH c2))];exact rfl)) (λc2=>?_);rw[uD λh=>h.elim c1 λh=>c2 (uF h)] at q';have qP:=gN.ts.seq hx;have ll:st.2.1.length=st.1.length:=xi v2 v1;refine⟨_,rfl,_,rfl,x,y,rfl,⟨_,qP⟩,⟨_,hy2⟩,λZ hZ=>?_⟩;refine ZQ (xs:=st.1.map oV) (ys:=st.2.1.map V.int) (by rw[AB,AB];exact xi v1 v2) (λk τ H3=>∃n t:Option V,τ=[n,t,uA (.ref pp),uA (.int (S1+S2))]/\Same H2 H3/\H3 Z=uA (.lst (((joinZ st.1 st.2.1 i j (S1+S2)).take k).map V.int))) ⟨uB,uB,rfl,u4 hZ _,Ab⟩ (λk τ H3 _ ⟨_,_,_,sm,_⟩=>sm.ts.seq qP) (λk τ H3 _ ⟨_,_,_,sm,_⟩=>sm.ts.seq hy2) ?_ ?_
  .rintro k u v τ H3 T1 hu hv fm ⟨n,t,rfl,sm,eZ⟩
   obtain⟨kl,rfl⟩:=QB hu;obtain⟨_,rfl⟩:=AFT hv;have jt:=WQ ll i j (S1+S2) kl;generalize st.1.getD k uB=d at jt;generalize st.2.1.getD k 0=e0 at jt;have s5:Same H3 (upd H3 T1 (.tup [oV d,.int e0])):=u4 fm _;refine⟨T1,_,rfl,uu Ab,rfl,_,_,rfl,_,_,rfl,rfl,yesD ?_⟩;have ein:inV (oV d) [V.int (min (i:Int) j),V.int (max (i:Int) j)]=decide (d=uA (i:Int)\/d=uA (j:Int)):=by
    cases d with
    | none=>exact(uG (by rintro(h| h)<;>cases h)).symm
    | some d =>
     refine(FZ d [min (i:Int) j,max (i:Int) j]).trans (decide_eq_decide.mpr ?_);rw[<- Vm];simp
   refine⟨_,rfl,_,rfl,pp,_,rfl,.inr ((sm.trans s5).ts.seq e7),Ye d,rfl,_,rfl,?_⟩;rw[uD (show ¬ (false=true) by decide),ein];have fin:∀g:Int,g=(if d=uA (i:Int)\/d=uA (j:Int) then(S1+S2) else e0)->∃ys,(upd H3 T1 (.tup [oV d,.int e0])) Z=uA (.lst ys)/\ys.length<sizeLine/\∃n t:Option V,[uA (oV d),uA (.int e0),uA (.ref pp),uA (.int (S1+S2))]=[n,t,uA (V.ref pp),uA (V.int (S1+S2))]/\Same H2 (upd (upd H3 T1 (.tup [oV d,.int e0])) Z (.lst (ys++[.int g])))/\(upd (upd H3 T1 (.tup [oV d,.int e0])) Z (.lst (ys++[.int g]))) Z=uA (.lst (((joinZ st.1 st.2.1 i j (S1+S2)).take (k+1)).map V.int)):=λg eg=>by
    refine⟨_,s5 _ _ eZ,BZ (by rw[AB,B7];exact xK kl v1 z10),_,_,rfl,λb o e=>?_,?_⟩
    .rw[Ah (Af e hZ)]
     exact s5 _ _ (sm b o e)
    .rw[Ab,jt,BE,eg]
     rfl
   by_cases cc:d=uA (i:Int)\/d=uA (j:Int)
   .exact iteP cc ⟨_,rfl,fin (S1+S2) (by rw[uE cc])⟩
   .exact iteN cc ⟨_,rfl,fin e0 (by rw[uD cc])⟩
  rintro τ H3 ⟨n,t,rfl,s3,eZ⟩;rw[AB,<- JR ll i j (S1+S2),CO] at eZ;have ir:=gN.trans s3;have tN:=s3.ts.seq e7;refine⟨_,rfl,_,rfl,pp,_,_,_,rfl,rfl,tN,rfl,_,rfl,pp,_,_,_,rfl,rfl,tN,rfl,x,st.1,min (i:Int) j,max (i:Int) j,rfl,ir.ts.seq hx,vJ v1 z10,λl5 H5 s5 hl5 el5=>?_⟩;rw[ADN] at el5;refine⟨l5,_,rfl,.inl ⟨ut el5,λt6 l9=>?_⟩⟩;have s6:=u4 l9 (.tup ((joinW st.1 i j).map oV));have h6:HdAt K (upd H5 t6 (.tup ((joinW st.1 i j).map oV))) t6 (joinW st.1 i j):=uu Ab;have qV:=ir.trans (s5.trans s6);have sG:=s6 _ _ (s5 _ _ eZ);have hp6:=(s5.trans s6).ts.seq tN;generalize upd H5 t6 (.tup ((joinW st.1 i j).map oV))=H6 at h6 qV sG hp6;refine⟨_,rfl,Z,_,rfl,.inl ⟨ut sG,λt7 og=>?_⟩⟩;have s7:=u4 og (.tup ((joinZ st.1 st.2.1 i j (S1+S2)).map V.int));have h7:PrAt K (upd H6 t7 (.tup ((joinZ st.1 st.2.1 i j (S1+S2)).map V.int))) t7 (joinZ st.1 st.2.1 i j (S1+S2)):=uu Ab;have s17:=qV.trans s7;have h67:=s7.ts.seq h6;have hp7:=s7.ts.seq hp6;generalize upd H6 t7 (.tup ((joinZ st.1 st.2.1 i j (S1+S2)).map V.int))=H7 at h7 s17 h67 hp7;refine⟨_,rfl,_,rfl,pp,_,_,_,rfl,rfl,hp7,rfl,_,rfl,pp,_,_,_,rfl,rfl,hp7,rfl,c3,st.2.2,max (i:Int) j,min (i:Int) j,rfl,hA.ts s17.ts,v3.pr,v3.len z10,λt8 H8 s8 h8 lx8=>?_⟩;refine⟨by show 3<=sizeLine;decide,λt9 ht9=>?_⟩;have s9:=u4 ht9 (.tup [V.ref t6,V.ref t7,V.ref t8]);refine q' _ _ (s17.trans (s8.trans s9)) ⟨t9,rfl,StAt.mk (uu Ab) ((s8.trans s9).ts.seq h67) ((s8.trans s9).ts.seq h7) (h8.ts s9.ts),?_,?_,lx8,λr hr=>?_⟩
  .unfold joinW
   rw[AB];exact v1
  .rw[JR ll]
   exact v1
  .obtain⟨t0,h0,rfl⟩:=(DK Jc).mp hr
   rw[emn,emx];exact AFQ (xC il v1) (v3.2 t0 h0)
abbrev Crw(z:Nat)(bs:uK)(lo hi:Int)(s:uL):Prop:=Acc z bs.length (ea bs) (eb bs) lo hi (λp=>(p:Int)) (λ_=>False) 0 s
def Pr(K:Au)(C Dc S:Addr)(lo hi:Int):Sp:=λvs H Q _=>∃(W r dr:Addr) (z:Nat) (bs:uK),vs=[.ref W,.ref r]/\WebAt K C H W z bs/\H r=uA (.ins Dc dr (crf lo hi))/\1<=z/\z<=10/\bs.length<=12/\OkB z bs/\1<=hi /\
 ∀(p:Addr) (aT:List Row) (hd:Nat) (H':Hp),Same H H'->K45s.SvAt K S H' p bs.length aT hd->Canon bs.length aT hd->(∀s:uL,s.Pairwise (· < ·)->(∀x∈s,x<bs.length)->(led aT hd s=true↔Crw z bs lo hi s))->aT.length<=4000->Q (.ref p) H'
theorem Xm{bs:uK}(h:OkB z bs){t:Nat}(tn:t<bs.length):ea bs t<z/\eb bs t<z/\t<Lp bs (ea bs t)/\t<Lp bs (eb bs t):=by
 have qq:=AG tn;obtain⟨x,y,e,xz,yz⟩:=h bs[t] (ER tn);have gd:bs.getD t []=bs[t]:=by rw[AD,qq];rfl
 have ex:ea bs t=x:=by unfold ea;rw[gd,e];rfl
 have ey:eb bs t=y:=by unfold eb;rw[gd,e];rfl
 rw[ex,ey];refine⟨xz,yz,AFM tn ?_,AFM tn ?_⟩<;>(unfold onB;rw[gd,e];simp)
theorem Pq(lo hi:Int):∀(ps:uL) (st:StC),passU (uC lo hi) st ps=passC ss lo st ps
 | [],st=>rfl
 | p::ps,st=>by
  show(passC1 ss lo st p).bind _=(passC1 ss lo st p).bind _
  congr 1
  funext s
  exact Pq lo hi ps s
def GC(bs:uK)(z t:Nat)(o:Option StC):Prop:=∀st,o=uA st->∃lab out,CrR z (λp=>t<=Lp bs p) (ea bs) (eb bs) st lab out
set_option tactic.hygienic true in
theorem AGc{bs:uK}(h:OkB z bs):Good (uC lo hi) bs z (GC bs z):=λt o st tn g e=>by
 cases o with
 | none=>cases e
 | some r =>
  obtain⟨lab,out,R⟩:=g r rfl;have e':passU (uC lo hi) r (behP bs z t)=uA st:=e;rw[Pq] at e';have R2:CrR z (λp=>t+1<=Lp bs p) (ea bs) (eb bs) st lab out:=by
   rcases R.passes (lo:=lo) Jc (behP bs z t) ((ED (n:=z)).filter _) (λp hp=>by
    obtain⟨h1,h2⟩:=B0.mp hp;exact⟨AN.mp h1,by have:=uH h2;exact u6 this⟩) with⟨e1,_⟩| ⟨s',e1,R',_⟩
   .rw[e1] at e'
    cases e'
   .rw[e1] at e'
    cases e';refine R'.congr λp pz=>?_;unfold behP;rw[B0,AN,decide_eq_true_iff];exact⟨λ⟨h1,h2⟩=>by have:¬ Lp bs p=t:=λe=>h2 ⟨pz,e⟩;lia,λh=>⟨u7 h,λh2=>xO h h2⟩⟩
  obtain⟨az,bz,la,lb⟩:=Xm h tn;obtain⟨i,ei,iz,_⟩:=R2.W.hd _ az la;obtain⟨j,ej,jz,_⟩:=R2.W.hd _ bz lb;have L:=R2.W.len;have same:((i:Int)=j↔lab (ea bs t)=lab (eb bs t)):=by
   rw[<- R2.W.eq _ _ az bz la lb,ei,ej];exact⟨λh=>by rw[h],λh=>by injection h⟩
  refine⟨⟨i,j,ei,ej,dl iz L,dl jz L,dl az L,dl bz L⟩,λbh e'=>?_,λbh e'=>?_⟩
  .have e2:leftC ss st (ea bs t) (eb bs t)=uA bh:=e'
   rw[MK ei ej] at e2;by_cases c:(i:Int)=j
   .rw[uE c] at e2
    cases e2
   .rw[uD c] at e2
    cases e2;exact⟨lab,_,R2.leave Jc az bz la lb (λh=>c (same.mpr h)) ei ej⟩
  .have e2:takeC ss hi st (ea bs t) (eb bs t)=uA bh:=e'
   rw[Kw ei ej] at e2;by_cases c:(i:Int)=j
   .rw[uE c] at e2
    cases e2;exact⟨lab,out,R2⟩
   .rw[uD c] at e2
    split at e2
    .cases e2
    .rename_i c2
     cases e2;exact⟨_,out,R2.join Jc az bz la lb (λh=>c (same.mpr h)) ei ej λh=>c2 (.inl h)⟩
theorem YK{p:Nat}(h:p<z):cntL z (λp=>(p:Int)) (p:Int)=1:=by
 unfold cntL;rw[<- J7];have e:(λq:Nat=>decide ((q:Int)=(p:Int)))=λq=>q==p:=by
  funext q
  rw[DV,decide_eq_true_iff,beq_iff_eq];lia
 rw[e];show List.count p (AK z)=1;rw[ED.count,uE (AN.mpr h)]
theorem Rp(z:Nat)(bs:uK):CrR z (λp=>0<=Lp bs p) (ea bs) (eb bs) (begC z) (λp=>(p:Int)) (λ_=>False):=by
 refine⟨AAa z (Lp bs),Mn ..,λp pz _=>?_,λt ht=>(by cases ht),λ_ _ _ _ u _ _ _ _ _ _ h=>h.elim,λ_ h=>h.elim,λp i pz _ e=>?_⟩
 .show(Cb z (1:Int)).getD p 0=_
  rw[AD,LH,uE pz];rw[YK pz];rfl
 .have e':((AK z).map λp=>uA ((p:Nat):Int)).getD p uB=uA i:=e
  rw[Eb pz] at e';injection e' with e'
  lia
theorem AGw{bs:uK}(h:OkB z bs)(h1:1<=hi)(s:uL)(pw:s.Pairwise (· < ·))(hs:∀x∈s,x<bs.length):semC (uC lo hi) bs z bs.length 0 (uA (begC z)) s=true↔Crw z bs lo hi s:=by
 have e:(λt r=>passU (uC lo hi) r (behP bs z t))=λt st=>passC ss lo st ((AK z).filter λp=>decide (Lp bs p=t)):=by
  funext t r
  exact Pq lo hi _ r
 show semX (lefU (uC lo hi) bs) (takU (uC lo hi) bs) (λt r=>passU (uC lo hi) r (behP bs z t)) (uC lo hi).fu bs.length 0 (uA (begC z)) s=true↔_;rw[e];refine AAP (L:=Lp bs) Jc (λx xn=>Xm h xn) (λp _=>AGl) bs.length 0 (begC z) _ _ s xP (Rp z bs) (λp pz hp=>?_) (λp pz=>?_) pw λx hx=>⟨A7 _,hs x hx⟩
 .have:=hp p pz rfl
  lia
 .rw[YK pz]
  exact h1
theorem QM:FnScope ["web","rule","growth","top"] zl27 (Ai Vf):=fscp (by decide+kernel)
theorem ABT(F:Fun K "grown" "grown" Vf f fd)(cD:Cls K D)(O:Gro K mg Gc)(M:Mk K Gc fI)
  (GI:FnOk P w K mg base CX0 3 fI qA zl8 (Yh (uC lo hi) P w K C D Gc)) (bI:Binds K qA zl8 [])
  (GK:∀d,FnOk P w K mg base CX0 (d+6) fK pT zl22 (Ku (uC lo hi) P w K C D Gc d)) (bK:Binds K pT zl22 []) (mK:Meth K Gc "knot_at" fK)
  (GB:FnOk P w K mg base CX0 2 fB fdB zl15 (Xz K C)) (bB:Binds K fdB zl15 []) (mB:Meth K D "begun" fB)
  (GG:Cal P w K mg base 3 fG fdG "least_graph" zl21 (K45s.Xi K S)) :
  FnOk P w K mg base CX0 19 f fd zl27 (Pr K C D S lo hi):=by
 refine F.ok QM (λvs H Q E h=>?_) (λbE A outer s H vs Q E hr h=>?_)
 .obtain⟨W,r,dr,z,bs,rfl,_⟩:=h
  rfl
 obtain⟨W,r,dr,z,bs,rfl,hW,jb,z1,z10,b8,j3,h1i,q⟩:=h;have gp:Room 2 _:=hr.mono (by decide);have hr3:Room 3 _:=hr.mono (by decide);have hrM:Room (3+1) _:=hr.mono (by decide);have hrK:Room (bs.length+6) _:=hr.mono (by lia);refine⟨_,Ae (Am (i:=2) QM.nd (GF M GI hrM rfl O.mgG bI .nil pass0 (Aa (pv 0) (Aa (pv 1) Ad))))
  (Ae (Am (i:=3) QM.nd (DX (pv 2) O.cl mK (GK bs.length) hrK bK .nil pass0 (Aa Ag (Aa (DX (pv 1) cD mB GB gp bB .nil pass0 (Aa (pv 0) Ad)) Ad))))
  (Ak (Av (Az GG hr3 rfl (Aa (Br (pv 2) rfl) (Aa (Br (pv 2) rfl) (Aa (pv 3) Ad))))))),?_⟩
 refine⟨_,rfl,_,rfl,λg dx hg hdx ne=>?_⟩;have lw:(upd H dx (.own g)) g=uB:=by rw[Ah (CF ne)];exact hg
 have s1:=(u4 hdx (.own g)).trans (u4 lw (.ins Gc dx []));obtain⟨dw,jw,hw,_⟩:=id hW;refine⟨g,dx,W,r,dr,z,bs,rfl,Ab,Af hw hg,Af jb hg,hW.same s1,s1 _ _ jb,z10,b8,λBh R Dk H2 k2 gr rw0 nR0 nD0=>⟨rfl,?_⟩⟩;have s2:Same H H2:=λb o e=>k2 _ _ (s1 _ _ e) (Af e hg);obtain⟨dg,hg2'⟩:=gr.ins;refine⟨_,rfl,g,dg,_,rfl,hg2',rfl,_,rfl,r,dr,_,rfl,s2 _ _ jb,(uC lo hi).nB,_,rfl,_,W,z,bs,rfl,gr.web,z1,z10,λb H3 s3 hb=>?_⟩;have qN:=rw0.same s3;have qC:=gr.same s3;have p2:2 ^ bs.length<=2 ^ 12:=Kn (by decide) b8;have gb:GC bs z 0 (uA (begC z)):=λst e=>by
  cases e;exact⟨_,_,Rp z bs⟩
 refine⟨g,W,r,Bh,R,Dk,z,0,bs,.ref b,uA (begC z),[],[],GC bs z,rfl,xP,qC,z1,z10,b8,j3,AGc j3,gb,⟨b,rfl,hb,by unfold begC;rw[AB,A9],by unfold begC;rw[Mn],.nil,λt ht=>(by cases ht)⟩,qN,by show 0+_<=_;lia,λk more ce H4 kp oQ ld _ cnt ml=>?_⟩;rw[Pp] at oQ ld;obtain⟨om,my,_⟩:=id qN.at_;obtain⟨_,_,ax3,qZ,_⟩:=id qN.dn;have gr4:=qC.keep kp my qZ;obtain⟨dg4,hg4⟩:=gr4.ins;obtain⟨xs4,oq,px4⟩:=id oQ.at_;refine⟨_,rfl,g,Gc,dg4,_,_,rfl,hg4,O.cl,O.nA,Ot _ _ _ _ _ _,_,rfl,g,Gc,dg4,_,_,rfl,hg4,O.cl,O.nR,QT _ _ _ _ _ _,_,rfl,R,bs.length,k,more,rfl,K45s.RowsAt.of ⟨R,xs4,rfl,ut oq,px4⟩,oQ.ok,b8,by lia,VH oQ.ok b8 cnt k,ld.kn,λp aT hd H' s' h1 h2 h3 h4=>?_⟩;have none_back:∀{x:Addr},(upd (upd H dx (.own g)) g (.ins Gc dx [])) x=none->H x=uB:=λ{x} n=>by
  cases e:H x with
  | none=>rfl
  | some o=>have:=s1 _ _ e;rw[n] at this;cases this
 refine q p aT hd H' (λb o e=>s' _ _ (kp _ _ (Af e (none_back nR0)) (Af e (none_back nD0)) (s3 _ _ (s2 _ _ e)))) h1 h2 (λs pw hs=>?_) h4.1;rw[h3 s,ld.eq s,AGw j3 h1i s pw hs]
def YC:Sp:=λvs H Q _=>∃(c:Int),vs=[.int c]/\∀z:Nat,1<=z->z<=10->Q (.int z) H
theorem AFx:FnScope zl16 zl16 (Ai ABt):=fscp (by decide+kernel)
theorem AEX(F:Fun K "_law_cell_at" "_law_cell_at" ABt f fd)(T:Txt K mg C):FnOk P w K mg base CX0 1 f fd zl16 (Va K):=by
 refine F.ok AFx (λvs H Q E h=>?_) (λbE A outer s H vs Q E hr h=>?_)
 .obtain⟨a,ns,k,rfl,_⟩:=h
  rfl
 obtain⟨a,ns,k,rfl,hS,h0,q⟩:=h;refine⟨_,Ae (Bv (Ar Lx (pv 1) (BK Bc rfl T.len DF (Aa (pv 0) Ad))) (Ak (Av (Aq Bf (pv 0) (pv 1)))) BP) (Ak (Av Ag)),?_⟩;refine⟨_,rfl,_,rfl,a,_,rfl,.inl hS,_,_,rfl,rfl,_,rfl,?_⟩;refine ite2 (λc=>?_) (λc=>?_)
 .have c':=uH c
  rw[AB] at c';obtain⟨v,hv⟩:=AAk h0 c';exact⟨_,rfl,_,rfl,a,_,_,_,rfl,rfl,hS,hv,q v⟩
 .exact q 0
theorem AFU:FnScope ["_law_cell","_law_k","_law_number"] zl28 (Ai AFf):=fscp (by decide+kernel)
theorem AFu(F:Fun K "_law_mixed" "_law_mixed" AFf f fd):FnOk P w K mg base CX0 1 f fd zl28 AFW:=by
 refine F.ok AFU (λvs H Q E h=>?_) (λbE A outer s H vs Q E hr h=>?_)
 .obtain⟨c,k,rfl,_⟩:=h
  rfl
 obtain⟨c,k,rfl,q⟩:=h;refine⟨_,Ae (Am (i:=2) AFU.nd (Aw Cy (Aw Vb (Aw Bs (Aw Bs (pv 0) (Aw Vb Ag (pv 1))) Ag) Ag) Ag))
  (Ak (Av (Aw Cy (Aw Vb (pv 2) (pv 2)) Ag))),?_⟩
 refine⟨_,rfl,_,rfl,_,_,rfl,rfl,.inl ⟨by decide,by decide⟩,_,_,rfl,rfl,_,_,rfl,rfl,_,_,rfl,rfl,.inr ⟨by decide,by decide⟩,_,_,rfl,rfl,(by show(0:Int)<2147483647;decide),?_⟩;have h1:=EW ((c+31*k+5)*48271) (show(2147483647:Int)≠0 by decide);have h2:=Ev ((c+31*k+5)*48271) (show(0:Int)<2147483647 by decide);refine⟨_,rfl,_,rfl,_,_,rfl,rfl,?_,_,_,rfl,rfl,(by show(0:Int)<1000003;decide),q _⟩;exact .inl ⟨by lia,by lia⟩
theorem AEU:FnScope zl17 zl17 (Ai Uw):=fscp (by decide+kernel)
theorem AAw(F:Fun K "_law_size" "_law_size" Uw f fd):FnOk P w K mg base CX0 1 f fd zl17 YC:=by
 refine F.ok AEU (λvs H Q E h=>?_) (λbE A outer s H vs Q E hr h=>?_)
 .obtain⟨c,rfl,_⟩:=h
  rfl
 obtain⟨c,rfl,q⟩:=h;refine⟨_,Ae (Bv (Ar Du (Aw Cy (Aw GQ (pv 0) Ag) Ag) Ag) (Ak (Av (Aw Bs Ag (Aw Cy (Aw GQ (pv 0) Ag) Ag)))) BP)
  (Ak (Av (Aw Bs Ag (Aw Cy (Aw GQ (pv 0) Ag) Ag)))),?_⟩
 have fin:∀x:Int,1<=x->x<=10->Q (.int x) H:=λx h1 h2=>by
  have:=q x.toNat (by lia) (by lia);rw[show((x.toNat:Nat):Int)=x by lia] at this;exact this
 refine⟨_,rfl,_,_,rfl,rfl,⟨by decide,by decide⟩,_,_,rfl,rfl,(by show(0:Int)<16;decide),rfl,_,rfl,?_⟩;refine ite2 (λ_=>?_) (λ_=>?_)
 .refine⟨_,rfl,_,_,rfl,rfl,⟨by decide,by decide⟩,_,_,rfl,rfl,(by show(0:Int)<4;decide),_,_,rfl,rfl,?_⟩
  have h1:=EW (c / 32) (show(4:Int)≠0 by decide);have h2:=Ev (c / 32) (show(0:Int)<4 by decide);exact fin (7+c / 32%4) (by lia) (by lia)
 .refine⟨_,rfl,_,_,rfl,rfl,⟨by decide,by decide⟩,_,_,rfl,rfl,(by show(0:Int)<6;decide),_,_,rfl,rfl,?_⟩
  have h1:=EW (c / 32) (show(6:Int)≠0 by decide);have h2:=Ev (c / 32) (show(0:Int)<6 by decide);exact fin (1+c / 32%6) (by lia) (by lia)
end K45
namespace K35
open PySem L2
theorem ACe{a b:Nat}(h:b<a):srt [(a:Int),(b:Int)]=[(b:Int),(a:Int)]:=by rw[Dm,uE (vn h)]
theorem QS{a b:Nat}(h:b<a):srt [(b:Int),(a:Int)]=[(b:Int),(a:Int)]:=by rw[Dm,uD (by lia)]
theorem Ml{α:Type}:∀{l:List α}{j:Nat}{p:α},l[j]?=uA p->(p::l.eraseIdx j).Perm l
 | [],j,p,h=>by cases h
 | a::l,0,p,h=>by
  cases h;exact LF _
 | a::l,j+1,p,h=>(Q7 a p _).trans (Q5 a (Ml (l:=l) (j:=j) (by simpa using h)))
theorem ADy{ps:uK}{p p':uJ}(hn:((as++ps).map srt).Nodup)(hj:ps[j]?=uA p)(e:srt p'=srt p):(((as++[p'])++ps.eraseIdx j).map srt).Nodup:=by
 obtain⟨jl,ej⟩:=AO.mp hj;have pm:=Ml hj;have e2:(((as++[p'])++ps.eraseIdx j).map srt)=((as++(p::ps.eraseIdx j)).map srt):=by
  rw[B9,BE,BE (l₁:=as)];show _++(srt p'::_)=_++(srt p::_);rw[e];rfl
 rw[e2];exact(((E3 as pm).map srt).nodup_iff).mpr hn
theorem Paired.erase{F:α->β->Prop}:∀{l:List α}{m:List β},A1 F l m->∀j,A1 F (l.eraseIdx j) (m.eraseIdx j)
 | _,_,.nil,_=>.nil
 | _,_,.cons h t,0=>t
 | _,_,.cons h t,j+1=>.cons h (Paired.erase t j)
end K35
namespace K45
open PySem L2 G
def UpP(i:Nat)(t:uJ):Prop:=∃a b:Nat,t=[(a:Int),(b:Int)]/\a<b/\b<i
noncomputable def newU(i j:Nat):uK:=(AK j).map λ(o:Nat)=>[(o:Int),(i:Int)]
theorem Tj(i j:Nat):(newU i j).length=j:=by unfold newU;rw[AB,A9]
theorem AAd(i j:Nat):newU i (j+1)=newU i j++[[(j:Int),(i:Int)]]:=by
 unfold newU;rw[EV,BE];rfl
theorem AFc{t:uJ}(h:t∈newU i j)(ji:j<=i):UpP (i+1) t:=by
 obtain⟨o,ho,rfl⟩:=BD.mp h;have:=AN.mp ho;exact⟨o,i,rfl,uP this ji,vH⟩
theorem ABc{ps:uK}(hd:∀t∈ps,UpP i t)(hn:(ps.map srt).Nodup):((ps++newU i i).map srt).Nodup:=by
 have e:(newU i i).map srt=(AK i).map λ(o:Nat)=>[(o:Int),(i:Int)]:=by
  unfold newU;rw[DL];refine G8 λo ho=>?_;exact K35.QS (AN.mp ho)
 rw[BE,e,OF];refine⟨hn,?_,?_⟩
 .unfold OH
  rw[C9];refine ED.imp λ{a b} h z=>h ?_;injection z with z _
  exact fv z
 .rintro t ht u hu rfl
  obtain⟨t0,h0,rfl⟩:=BD.mp ht;obtain⟨a,b,rfl,ba,ai⟩:=hd t0 h0;obtain⟨o,ho,e⟩:=BD.mp hu;rw[K35.QS ba] at e;injection e with e1 e2
  injection e2 with e2 _
  lia
theorem NZ(ea eb:Nat->Nat):∀(s:uL) (lab:Nat->Int) (x:Nat),finL ea eb lab (s++[x])=mergeL (finL ea eb lab s) (ea x) (eb x)
 | [],_,_=>rfl
 | y::s,lab,x=>NZ ea eb s (mergeL lab (ea y) (eb y)) x
theorem Vq(lab:Nat->Int)(a b:Nat):mergeL lab a b=mergeL lab b a:=by
 funext q
 unfold mergeL;rw[ZB,ZA]
theorem Ky{x:Nat}{a b:Nat}(h:as[x]?=uA [(a:Int),(b:Int)]):(ea (as.map srt) x=a/\eb (as.map srt) x=b)\/(ea (as.map srt) x=b/\eb (as.map srt) x=a):=by
 have e:(as.map srt).getD x []=srt [(a:Int),(b:Int)]:=by
  rw[AD,AY,h];rfl
 unfold ea eb;rw[e,Dm];split
 .exact .inr ⟨rfl,rfl⟩
 .exact .inl ⟨rfl,rfl⟩
theorem Zb{x:Nat}{a b:Nat}(h:as[x]?=uA [(a:Int),(b:Int)])(lab:Nat->Int):mergeL lab (ea (as.map srt) x) (eb (as.map srt) x)=mergeL lab a b:=by
 rcases Ky h with⟨e1,e2⟩| ⟨e1,e2⟩
 .rw[e1,e2]
 .rw[e1,e2,Vq]
theorem AEc(h:OkTies (z:Int) as):OkB z (as.map srt):=λt ht=>by
 obtain⟨t0,h0,rfl⟩:=BD.mp ht;obtain⟨a,b,rfl,a0,a1,b0,b1,_⟩:=h.ok t0 h0;rw[Dm];split
 .exact⟨b.toNat,a.toNat,by rw[DH b0,DH a0],xY a0 b1 a1,wq a0 a1⟩
 .exact⟨a.toNat,b.toNat,by rw[DH b0,DH a0],wq a0 a1,xY a0 b1 a1⟩
def Xq(K:Au):Sp:=λvs H Q _=>∃(a:Addr) (ns:uJ) (y:Int) (m:Nat),vs=[.ref a,.int y,.int m]/\SqL K H a (ns.map V.int)/\0<=y/\1<=m/\m<=10 /\
 ∀(l:Addr) (xs:List V) (as:uK) (H':Hp),Same H H'->H l=none->H' l=uA (.lst xs)->A1 (rPair K H') as xs->OkTies (m:Int) as->as.length<=12->Q (.ref l) H'
inductive TiI (K:Au) (H:Hp) (a:Addr) (y:Int) (m:Nat) (Pa R:Addr) (hd:Int) (jv:uK) (i:Nat) (σ:St) (H3:Hp):Prop
 | mk (o4 o5 o9 o10:Option V) (c:Int) (ps as:uK) (xs ys:List V) (h0:σ=[uA (.ref a),uA (.int y),uA (.int m),uA (.ref Pa),o4,o5,uA (.int hd),uA (.int c),uA (.ref R),o9,o10]) (h1:Same H H3) (h2:H3 Pa=uA (.lst xs)) (h3:H3 R=uA (.lst ys)) (h4:A1 (rPair K H3) ps xs) (h5:A1 (rPair K H3) as ys) (h6:(∀t∈ps,UpP m t)) (h7:(∀t∈as,OkTie m t)) (h8:((as++ps).map srt).Nodup) (h9:ps.length+i=jv.length) (h10:as.length=i):TiI K H a y m Pa R hd jv i σ H3
noncomputable abbrev tiN:uT:=["_law_script","_law_at","_law_many","_law_pairs","_law_b","_law_a","_law_head","_law_cell","_law_ties_here","_law_k","_law_number"]
noncomputable def AFK:Stmt->List Stmt
 | .For _ _ b _ _=>b
 | _=>[]
noncomputable abbrev tiB:List Stmt:=AFK ((CP Hs).getD 5 (.Pass ⟨0,0,0,0⟩))
theorem Cj:FnScope tiN ["_law_script","_law_at","_law_many"] (Ai Hs):=fscp (by decide+kernel)
theorem ACh{fM:Addr}{fdM:BA}(F:Fun K "_law_ties" "_law_ties" Hs f fd)(T:Txt K mg C)
  (GC:Cal P w K mg base 1 fC tO "_law_cell_at" zl16 (Va K))
  (GM:Cal P w K mg base 1 fM fdM "_law_mixed" zl28 AFW) :
  FnOk P w K mg base CX0 2 f fd zl32 (Xq K):=by
 refine F.ok Cj (λvs H Q E h=>?_) (λbE A outer s H vs Q E hr h=>?_)
 .obtain⟨a,ns,y,m,rfl,_⟩:=h
  rfl
 obtain⟨a,ns,y,m,rfl,hS,y0,m1,m10,q⟩:=h;have cS:Room 1 _:=hr.mono (by decide);obtain⟨t3,h3,q3⟩:∃t,PSs (cxOf CX0 P w K mg base tiN "_law_ties" (Ai Hs) f bE A outer s H E).nox (tiB.drop 2) t/\∀(D':Ends) (σ:St) (H':Hp) (Pa R:Addr) (hd c:Int) (i j:Nat) (o4 o5:Option V) (ps as:uK) (xs ys:List V) (p:uJ),σ=[uA (.ref a),uA (.int y),uA (.int m),uA (.ref Pa),o4,o5,uA (.int hd),uA (.int c),uA (.ref R),uA (.int i),uA (.int j)]->j<xs.length->xs.length<=100->as.length<=100->Pa≠R->H' Pa=uA (.lst xs)->H' R=uA (.lst ys)->A1 (rPair K H') ps xs->A1 (rPair K H') as ys->ps[j]?=uA p->UpP m p ->
   (∀(o4' o5':Option V) (c':Int) (x':Addr) (p':uJ) (H4:Hp),srt p'=srt p->OkTie m p'->(∀b o,b≠Pa->b≠R->H' b=uA o->H4 b=uA o)->H4 Pa=uA (.lst (xs.eraseIdx j))->H4 R=uA (.lst (ys++[.ref x']))->A1 (rPair K H4) (ps.eraseIdx j) (xs.eraseIdx j)->A1 (rPair K H4) (as++[p']) (ys++[.ref x'])->D'.nx [uA (.ref a),uA (.int y),uA (.int m),uA (.ref Pa),o4',o5',uA (.int hd),uA (.int c'),uA (.ref R),uA (.int i),uA (.int j)] H4)->t D' σ H':=by
  refine⟨_,Ae (Am (i:=7) Cj.nd (Aw GQ (pv 7) (BK Bc rfl T.len DF (Aa (pv 3) Ad))))
   (Ae (AAu (PK Fu PySem.F.slot_list_pop PySem.F.type_list_pop ACZ (pv 3) (Aa (pv 10) Ad)) (Ek (K:=K) (n:=2) rfl rfl (Bt (Bu (i:=5) Cj.nd) (Bt (Bu (i:=4) Cj.nd) En))))
   (Ak (Fw (PK Fu F9 Go Ec (pv 8) (Aa (Aq Bf (Cv (Aa (Bw (Aa (pv 5) (Aa (pv 4) Ad))) (Aa (Bw (Aa (pv 4) (Aa (pv 5) Ad))) Ad))) (Aw Cy (Aw Bs (pv 10) (pv 9)) Ag)) Ad))))),?_⟩
  rintro D' σ H' Pa R hd c i j o4 o5 ps as xs ys p rfl jl x100 a100 PR eP eR pp pr hp upp fin;obtain⟨x,hx,rp⟩:=uj pp hp;obtain⟨t,rfl,ht⟩:=Bx rp;obtain⟨u,v,rfl,uv,vm⟩:=upp;have lx:=AZ pp;have ly:=AZ pr;have xl:(0:Int)<(xs.length:Nat):=by lia
  refine⟨_,rfl,_,rfl,Pa,_,rfl,.inl (ut eP),_,_,rfl,rfl,⟨xl,by lia⟩,?_⟩;have ix:=RX (n:=xs.length) (i:=(j:Int)) (j:=j) (ACo jl);refine⟨_,rfl,.inl ⟨rfl,_,ut eP⟩,_,rfl,Pa,xs,_,j,.ref t,rfl,rfl,eP,by lia,by lia,ix.1,hx,?_⟩;have ts6:TSm H' (upd H' Pa (.lst (xs.eraseIdx j))):=u3 eP;have eP6:(upd H' Pa (.lst (xs.eraseIdx j))) Pa=uA (.lst (xs.eraseIdx j)):=Ab;have kx:(upd H' Pa (.lst (xs.eraseIdx j))) R=uA (.lst ys):=by rw[Ah (CF PR)];exact eR
  have s6:∀b o,b≠Pa->H' b=uA o->(upd H' Pa (.lst (xs.eraseIdx j))) b=uA o:=λb o n1 e=>by
   rw[Ah n1];exact e
  have l9:=ts6.seq ht;have pp6:=Paired.imp (λa b=>Ao Ax _ _ a b ts6) (K35.Paired.erase pp j);have pr6:=Paired.imp (λa b=>Ao Ax _ _ a b ts6) pr;generalize upd H' Pa (.lst (xs.eraseIdx j))=H6 at ts6 eP6 kx s6 l9 pp6 pr6;refine⟨t,_,rfl,l9,rfl,_,_,rfl,_,_,rfl,rfl,?_⟩;refine⟨_,rfl,.inl ⟨rfl,_,ut kx⟩,_,rfl,_,rfl,(by show 2<=sizeLine;decide),λt3 ht3=>?_⟩;refine⟨_,rfl,_,rfl,(by show 2<=sizeLine;decide),λt4 ht4=>?_⟩;refine⟨(by show 2<=sizeLine;decide),λL hL=>?_⟩;have s7:=(u4 ht3 (.tup [.int (u:Int),.int (v:Int)])).trans ((u4 ht4 (.tup [.int (v:Int),.int (u:Int)])).trans (u4 hL (.lst [.ref t3,.ref t4])));have e3:(upd (upd (upd H6 t3 (.tup [.int (u:Int),.int (v:Int)])) t4 (.tup [.int (v:Int),.int (u:Int)])) L (.lst [.ref t3,.ref t4])) t3=uA (.tup [.int (u:Int),.int (v:Int)]):=(u4 hL _) _ _ ((u4 ht4 _) _ _ Ab);have e4:(upd (upd (upd H6 t3 (.tup [.int (u:Int),.int (v:Int)])) t4 (.tup [.int (v:Int),.int (u:Int)])) L (.lst [.ref t3,.ref t4])) t4=uA (.tup [.int (v:Int),.int (u:Int)]):=(u4 hL _) _ _ Ab;have eL:(upd (upd (upd H6 t3 (.tup [.int (u:Int),.int (v:Int)])) t4 (.tup [.int (v:Int),.int (u:Int)])) L (.lst [.ref t3,.ref t4])) L=uA (.lst [.ref t3,.ref t4]):=Ab;generalize upd (upd (upd H6 t3 (.tup [.int (u:Int),.int (v:Int)])) t4 (.tup [.int (v:Int),.int (u:Int)])) L (.lst [.ref t3,.ref t4])=H7 at s7 e3 e4 eL;have v0:=EW ((j:Int)+(i:Int)) (show(2:Int)≠0 by decide);have v1:=Ev ((j:Int)+(i:Int)) (show(0:Int)<2 by decide);obtain⟨x',p',hat,esr,okp,rp'⟩:∃(x':Addr) (p':uJ),atI [V.ref t3,V.ref t4] (((j:Int)+(i:Int))%2)=uA (.ref x')/\srt p'=srt [(u:Int),(v:Int)]/\OkTie m p'/\rPair K H7 p' (.ref x'):=by
   generalize ((j:Int)+(i:Int))%2=vv at v0 v1;obtain⟨k,rfl⟩:=Pd v0
   match k,v1 with
   | 0,_=>exact⟨t3,[(u:Int),(v:Int)],Bg rfl,rfl,⟨_,_,rfl,vf,xt uv vm,vf,vn vm,by lia⟩,Gy (ns:=[(u:Int),(v:Int)]) e3⟩
   | 1,_=>exact⟨t4,[(v:Int),(u:Int)],Bg rfl,by rw[K35.QS uv,K35.ACe uv],⟨_,_,rfl,vf,vn vm,vf,xt uv vm,by lia⟩,Gy (ns:=[(v:Int),(u:Int)]) e4⟩
   | k+2,h=>exact uI h (by lia)
  have eR7:=s7 _ _ kx;refine⟨_,rfl,_,rfl,_,_,rfl,rfl,_,_,rfl,rfl,(by show(0:Int)<2;decide),L,_,_,_,rfl,rfl,ut eL,hat,R,ys,_,rfl,rfl,eR7,BZ (by lia),?_⟩;have ts8:TSm H7 (upd H7 R (.lst (ys++[.ref x']))):=u3 eR7;refine fin _ _ _ x' p' _ esr okp (λb o n1 n2 e=>?_) ?_ Ab (Paired.imp (λa b=>Ao Ax _ _ a b (s7.ts.trans ts8)) pp6) (Paired.app (Paired.imp (λa b=>Ao Ax _ _ a b (s7.ts.trans ts8)) pr6) (uz (Ao Ax _ _ _ _ ts8 rp')))
  .rw[Ah n2]
   exact s7 _ _ (s6 b o n1 e)
  .rw[Ah PR]
   exact s7 _ _ eP6
 obtain⟨t5,h5,q5⟩:∃t,PSs (cxOf CX0 P w K mg base tiN "_law_ties" (Ai Hs) f bE A outer s H E).nox ((CP Hs).drop 5) t/\∀(σ:St) (H2:Hp) (Pa R:Addr) (hd c0:Int) (o4 o5:Option V) (jv:uK) (iX:List V),σ=[uA (.ref a),uA (.int y),uA (.int m),uA (.ref Pa),o4,o5,uA (.int hd),uA (.int c0),uA (.ref R),uB,uB]->Same H H2->H Pa=none->H R=none->Pa≠R->H2 Pa=uA (.lst iX)->H2 R=uA (.lst [])->A1 (rPair K H2) jv iX->(∀t∈jv,UpP m t)->(jv.map srt).Nodup->jv.length<=10*m->t {nx:=λ_ H'=>Q .non H',rt:=Q} σ H2:=by
  refine⟨_,Ae (Dq DZ rfl (DG rfl T.range (Aa (BK (JK rfl) rfl T.min MB (Aa (Aw Cy (Aw GQ (pv 6) Ag) Ag) (Aa (BK Bc rfl T.len DF (Aa (pv 3) Ad)) Ad))) Ad)) (Bu (i:=9) Cj.nd)
   (Ae (Am (i:=10) Cj.nd (Aw Cy (pv 7) (BK Bc rfl T.len DF (Aa (pv 3) Ad))))
   (Hx (Bv (Ar Du (Aw Cy (pv 6) Ag) Ag) (Ak (Am (i:=10) Cj.nd (Aw Cy (Az GM cS rfl (Aa (Az GC cS rfl (Aa (pv 0) (Aa (Aw Bs (pv 1) Ag) Ad))) (Aa (pv 9) Ad))) (BK Bc rfl T.len DF (Aa (pv 3) Ad))))) BP)
   h3)))
  (Ak (Av (pv 8))),?_⟩
  rintro σ H2 Pa R hd c0 o4 o5 jv iX rfl sm sI hRH PR eP eR0 pp dn nd ln;have lx0:=AZ pp;have h0:=EW (hd / 192) (show(13:Int)≠0 by decide);have h1:=Ev (hd / 192) (show(0:Int)<13 by decide);refine⟨_,rfl,_,_,rfl,rfl,⟨by decide,by decide⟩,_,_,rfl,rfl,(by show(0:Int)<13;decide),_,rfl,Pa,_,rfl,.inl (ut eP),_,_,rfl,?_⟩;obtain⟨cnt,ec,cl1,cl2⟩:∃cnt:Nat,(if((iX.length:Nat):Int)<hd / 192%13 then((iX.length:Nat):Int) else hd / 192%13)=(cnt:Int)/\cnt<=12/\cnt<=jv.length:=by
   refine⟨(if((iX.length:Nat):Int)<hd / 192%13 then((iX.length:Nat):Int) else hd / 192%13).toNat,?_,?_,?_⟩<;>split<;>lia
  rw[ec];refine⟨(cnt:Int),rfl,by lia,by lia,?_⟩;refine Hj (lo:=0) (n:=(cnt:Int).toNat) (TiI K H a y m Pa R hd jv) ?_ ?_ ?_
  .exact⟨_,_,_,_,c0,jv,[],iX,[],rfl,sm,eP,eR0,pp,.nil,dn,λt h=>(by cases h),nd,rfl,rfl⟩
  .intro i σ H3 hi hP
   obtain⟨o4,o5,o9,o10,c,ps,as,xs,ys,rfl,s3,eP,eR,pp,pr,dn,ok,nd,ln,la⟩:=hP;have ei:(0:Int)+i=(i:Int):=vI;rw[ei];have lx:=AZ pp;have ly:=AZ pr;have xl:(0:Int)<(xs.length:Nat):=by lia
   refine⟨_,rfl,_,rfl,Pa,_,rfl,.inl (ut eP),_,_,rfl,rfl,xl,?_⟩;refine⟨λσ' H'=>∃j:Nat,j<xs.length/\σ'=[uA (.ref a),uA (.int y),uA (.int m),uA (.ref Pa),o4,o5,uA (.int hd),uA (.int c),uA (.ref R),uA (.int i),uA (.int j)]/\H'=H3,?_,?_⟩
   .have dr:∀x:Int,∃j:Nat,j<xs.length/\x%((xs.length:Nat):Int)=(j:Int):=λx=>by
     have j0:=EW x (show((xs.length:Nat):Int)≠0 from wx xl);have j1:=Ev x xl;obtain⟨j,ej⟩:=Pd j0;exact⟨j,by lia,ej⟩
    have cg:∀{u v:Int},u=v->[uA (V.ref a),uA (.int y),uA (.int m),uA (.ref Pa),o4,o5,uA (.int hd),uA (.int c),uA (.ref R),uA (.int i),uA (.int u)]=[uA (V.ref a),uA (.int y),uA (.int m),uA (.ref Pa),o4,o5,uA (.int hd),uA (.int c),uA (.ref R),uA (.int i),uA (.int v)]:=λe=>by rw[e]
    refine⟨_,rfl,_,_,rfl,rfl,(by show(0:Int)<2;decide),rfl,_,rfl,?_⟩;refine ite2 (λ_=>?_) (λ_=>?_)
    .refine⟨_,rfl,_,rfl,_,_,rfl,rfl,a,ns,y+1,rfl,s3.seq hS,xu y0,λc1=>⟨_,rfl,c1,i,rfl,λr=>?_⟩⟩
     obtain⟨j,jl,ej⟩:=dr r;exact⟨_,rfl,Pa,_,rfl,.inl (ut eP),_,_,rfl,rfl,xl,j,jl,cg ej,rfl⟩
    .obtain⟨j,jl,ej⟩:=dr c
     exact⟨j,jl,cg ej,rfl⟩
   rintro σ' H' ⟨j,jl,rfl,rfl⟩;obtain⟨p,hp⟩:∃p,ps[j]?=uA p:=⟨_,AG (dl jl lx)⟩;refine q3 _ _ H' Pa R hd c i j o4 o5 ps as xs ys p rfl jl (by lia) (by lia) PR eP eR pp pr hp (dn p (BI hp)) λo4' o5' c' x' p' H4 esr okp kp eP4 oq pp4 pr4=>?_;refine⟨_,_,_,_,_,ps.eraseIdx j,as++[p'],xs.eraseIdx j,ys++[.ref x'],rfl,λb o e=>kp b o (Af e sI) (Af e hRH) (s3 b o e),eP4,oq,pp4,pr4,λt ht=>dn t (List.mem_of_mem_eraseIdx ht),λt ht=>?_,K35.ADy nd hp esr,?_,?_⟩
   .rcases B8.mp ht with ht| ht
    .exact ok t ht
    .rw[Bi.mp ht]
     exact okp
   .rw[List.length_eraseIdx,uE (dl jl lx)]
    lia
   .rw[BN,la]
    rfl
  .intro σ H3 hP
   obtain⟨o4,o5,o9,o10,c,ps,as,xs,ys,rfl,s3,eP,eR,pp,pr,dn,ok,nd,ln,la⟩:=hP;rw[Cf] at la;refine⟨_,rfl,q R ys as H3 s3 hRH eR pr ⟨ok,?_⟩ (vJ la cl1)⟩;rw[BE] at nd;exact(OF.mp nd).1
 refine⟨_,Ae (Am (i:=3) Cj.nd (Cv Ad))
  (Hx (Dq DZ rfl (DG rfl T.range (Aa (pv 2) Ad)) (Bu (i:=4) Cj.nd)
   (Ak (Dq DZ rfl (DG rfl T.range (Aa (pv 4) Ad)) (Bu (i:=5) Cj.nd)
    (Ak (Fw (PK Fu F9 Go Ec (pv 3) (Aa (Bw (Aa (pv 5) (Aa (pv 4) Ad))) Ad)))))))
  (Ae (Am (i:=6) Cj.nd (Az GC cS rfl (Aa (pv 0) (Aa (pv 1) Ad))))
  (Ae (Am (i:=7) Cj.nd (Az GC cS rfl (Aa (pv 0) (Aa (Aw Bs (pv 1) Ag) Ad))))
  (Ae (Am (i:=8) Cj.nd (Cv Ad))
  h5)))),?_⟩
 refine⟨A7 _,λPa sI=>?_⟩;have s0:=u4 sI (.lst []);have e0:(upd H Pa (.lst [])) Pa=uA (.lst []):=Ab;generalize upd H Pa (.lst [])=H0 at s0 e0;refine⟨λσ H2=>∃(o4 o5:Option V) (ps:uK) (xs:List V),σ=[uA (.ref a),uA (.int y),uA (.int m),uA (.ref Pa),o4,o5,uB,uB,uB,uB,uB]/\Same H H2/\H2 Pa=uA (.lst xs)/\A1 (rPair K H2) ps xs/\(∀t∈ps,UpP m t)/\(ps.map srt).Nodup/\ps.length<=10*m,?_,?_⟩
 .refine⟨_,rfl,(m:Int),rfl,by lia,by lia,?_⟩
  refine Hj (lo:=0) (n:=(m:Int).toNat) (λi σ H2=>∃(o4 o5:Option V) (ps:uK) (xs:List V),σ=[uA (.ref a),uA (.int y),uA (.int m),uA (.ref Pa),o4,o5,uB,uB,uB,uB,uB]/\Same H H2/\H2 Pa=uA (.lst xs)/\A1 (rPair K H2) ps xs/\(∀t∈ps,UpP i t)/\(ps.map srt).Nodup/\ps.length<=10*i) ⟨uB,uB,[],[],rfl,s0,e0,.nil,λt h=>by(cases h),LD,AF _⟩ ?_ ?_
  .rintro i σ H2 hi ⟨o4,o5,ps,xs,rfl,sm,eP,pp,dn,nd,ln⟩
   have ei:(0:Int)+i=(i:Int):=vI;rw[ei];have i9:i<10:=by lia
   have lx:=AZ pp;refine⟨_,rfl,(i:Int),rfl,by lia,by lia,?_⟩;refine Hj (lo:=0) (n:=(i:Int).toNat) (λj σ H3=>∃(o5:Option V) (ys:List V),σ=[uA (.ref a),uA (.int y),uA (.int m),uA (.ref Pa),uA (.int i),o5,uB,uB,uB,uB,uB]/\Same H H3/\H3 Pa=uA (.lst (xs++ys))/\A1 (rPair K H3) (ps++newU i j) (xs++ys)) ⟨o5,[],rfl,sm,by rw[B3];exact eP,by rw[B3];show A1 _ (ps++[]) _;rw[B3];exact pp⟩ ?_ ?_
   .rintro j σ H3 hj ⟨o5,ys,rfl,s3,eQ,pq⟩
    have ej:(0:Int)+j=(j:Int):=vI;rw[ej];have lq:=AZ pq;rw[BN,Tj] at lq;refine⟨_,rfl,.inl ⟨rfl,_,ut eQ⟩,_,rfl,_,rfl,(by show 2<=sizeLine;decide),λt ht=>?_⟩;have s4:=u4 ht (.tup [.int (j:Int),.int (i:Int)]);have tP:t≠Pa:=λz=>by rw[z,eQ] at ht;cases ht
    refine⟨Pa,_,_,rfl,rfl,s4 _ _ eQ,BZ (by lia),?_⟩;have ts:TSm H3 (upd (upd H3 t (.tup [.int (j:Int),.int (i:Int)])) Pa (.lst (xs++ys++[.ref t]))):=s4.ts.trans (u3 (s4 _ _ eQ));refine⟨_,ys++[.ref t],rfl,λb o e=>?_,?_,?_⟩
    .rw[Ah (Af e sI)]
     exact s4 _ _ (s3 b o e)
    .rw[Ab,B9]
    .rw[AAd,<- B9,<- B9]
     exact Paired.app (Paired.imp (λa b=>Ao Ax _ _ a b ts) pq) (uz (Gy (ns:=[(j:Int),(i:Int)]) (by rw[Ah tP];exact Ab)))
   .rintro σ H3 ⟨o5,ys,rfl,s3,eQ,pq⟩
    rw[Cf] at pq;refine⟨_,_,ps++newU i i,xs++ys,rfl,s3,eQ,pq,λt ht=>?_,ABc dn nd,by rw[BN,Tj];lia⟩;rcases B8.mp ht with ht| ht
    .obtain⟨a,b,e,h1,h2⟩:=dn t ht
     exact⟨a,b,e,h1,vg h2⟩
    .exact AFc ht (AF _)
  .intro σ H2 h
   rw[Cf] at h;exact h
 rintro σ H2 ⟨o4,o5,jv,iX,rfl,sm,eP,pp,dn,nd,ln⟩;refine⟨_,rfl,_,rfl,a,ns,y,rfl,sm.seq hS,y0,λhd=>?_⟩;refine⟨_,rfl,_,rfl,_,_,rfl,rfl,a,ns,y+1,rfl,sm.seq hS,xu y0,λc0=>?_⟩;refine⟨A7 _,λR hR=>?_⟩;have sR:=u4 hR (.lst []);exact q5 _ _ Pa R hd c0 _ _ jv iX rfl (sm.trans sR) sI (sm.free hR) (Af eP hR) (sR _ _ eP) Ab (Paired.imp (λa b=>Ao Ax _ _ a b sR.ts) pp) dn nd ln
end K45
namespace K45s
open PySem L2 G
theorem AHB{s:uJ}{i:Int}{v:Int}{Q:VK}(h:Sq K H p (s.map V.int))(e:atI (s.map V.int) i=uA (.int v))(q:Q (.int v) H):rIxA K (.ref p) (.int i) H Q :=
 h.elim (λz=>.inl ⟨p,_,i,_,rfl,rfl,z,e,q⟩) λz=>.inr ⟨p,_,i,_,rfl,rfl,z,e,q⟩
noncomputable def meets(aI:List Row)(k:Nat)(s:uJ):Bool:=hasW aI (k+1) k s
theorem Hr{aI:List Row}(o:Ok n aI){f k:Nat}(h:k<f)(kn:Knot aI k)(s:uJ):hasW aI f k s=meets aI k s:=by
 unfold meets;rw[DV,Mq o f k s h kn,Mq o (k+1) k s (E7 k) kn]
theorem Zq{aI:List Row}{k:Nat}(h:k<=1)(s:uJ):meets aI k s=decide (k=1/\s=[]):=by
 unfold meets hasW;rw[uE h]
theorem ZP{aI:List Row}(o:Ok n aI){k:Nat}(h:2<=k)(kn:Knot aI k):meets aI k []=meets aI (aI.getD (k-2) (0,0,0)).2.1 []:=by
 obtain⟨t1,z1,z2,r1,r2,n1,n2⟩:=o.low (Bm kn h);rw[<- Hr o (f:=k) (vh z1 h) n1];show hasW aI (k+1) k []=_
 conv=>lhs;unfold hasW
 rw[uD (v6 h)]
theorem Vo{aI:List Row}(o:Ok n aI){k:Nat}(h:2<=k)(kn:Knot aI k)(x:Int)(xs:uJ):meets aI k (x::xs)=if x=((aI.getD (k-2) (0,0,0)).1:Int) then meets aI (aI.getD (k-2) (0,0,0)).2.2 xs else meets aI (aI.getD (k-2) (0,0,0)).2.1 (x::xs):=by
 obtain⟨t1,z1,z2,r1,r2,n1,n2⟩:=o.low (Bm kn h);rw[<- Hr o (f:=k) (vh z1 h) n1,<- Hr o (f:=k) (vh z2 h) n2];show hasW aI (k+1) k (x::xs)=_
 conv=>lhs;unfold hasW
 rw[uD (v6 h)]
def ACQ(K:Au)(C:Addr):Sp:=λvs H Q _=>∃(p t:Addr) (n hd:Nat) (aI:List Row) (s:uJ),vs=[.ref p,.ref t]/\SvAt K C H p n aI hd/\Ok n aI/\Knot aI hd/\Sq K H t (s.map V.int) /\
 ∀(H':Hp),Same H H'->Q (.bl (meets aI hd s)) H'
theorem Jl:FnScope ["sieve","some","rows","knot","met","row"] zl29 (Ai AGZ):=fscp (by decide+kernel)
theorem AFg(F:Fun K "has_set" "has_set" AGZ f fd)(T:Txt K mg C)
  (GK:FnOk P w K mg base CX0 1 fK pT zl3 (RZ K C)) (bK:Binds K pT zl3 []) (mK:Meth K C "knots" fK)
  (GT:FnOk P w K mg base CX0 1 fT eK zl3 (ACJ K C)) (bT:Binds K eK zl3 []) (mT:Meth K C "top" fT) :
  FnOk P w K mg base CX0 2 f fd zl29 (ACQ K C):=by
 refine F.ok Jl (λvs H Q E h=>?_) (λbE A outer s H vs Q E hr h=>?_)
 .obtain⟨p,t,n,hd,aI,s,rfl,_⟩:=h
  rfl
 obtain⟨p,t,n,hd,aI,s0,rfl,hV,ok,kn,hS,q⟩:=h;have cS:Room 1 _:=hr.mono (by decide);refine⟨_,Ae (Am (i:=2) Jl.nd (Cm (pv 0) T.cl mK GK cS bK .nil pass0))
  (Ae (Am (i:=3) Jl.nd (Cm (pv 0) T.cl mT GT cS bT .nil pass0))
  (Ae (Am (i:=4) Jl.nd Ag)
  (Ae (ACW DZ (Ar Yj (pv 3) Ag)
   (Ae (Am (i:=5) Jl.nd (Aq Bf (pv 2) (Aw Et (pv 3) Ag)))
   (Ak (Bv (uZ (ACt (Ar Lx (pv 4) (BK Bc rfl T.len DF (Aa (pv 1) Ad))) (Xy (Ar Du (Aq Ft (pv 1) (pv 4)) (Aq Ay (pv 5) Ag)))))
    (Ae (Am (i:=4) Jl.nd (Aw Bs (pv 4) Ag)) (Ak (Am (i:=3) Jl.nd (Aq Ay (pv 5) Ag))))
    (Ak (Am (i:=3) Jl.nd (Aq Ay (pv 5) Ag)))))))
  (Ak (Av (Qi (Px Du (pv 3) Ag) (WY (Px Du (pv 4) (BK Bc rfl T.len DF (Aa (pv 1) Ad)))))))))),?_⟩
 obtain⟨dx,jj,hp,_⟩:=id hV;refine⟨_,rfl,p,dx,_,rfl,hp,rfl,p,n,hd,aI,rfl,hV,λl ys H1 s1 hl el px=>?_⟩;refine⟨_,rfl,p,dx,_,rfl,s1 _ _ hp,rfl,p,n,hd,aI,rfl,hV.same s1,?_⟩;have hL:rLst K (rRow K) H1 aI (.ref l):=⟨l,ys,rfl,ut el,px⟩;have hT:=Sq.same hS s1;have lt:(((s0.map V.int).length:Nat):Int)=s0.length:=by rw[AB]
 refine⟨λm σ H2=>∃(k' at_:Nat) (o5:Option V),m=k'/\H2=H1/\σ=[uA (.ref p),uA (.ref t),uA (.ref l),uA (.int k'),uA (.int at_),o5]/\Knot aI k'/\at_<=s0.length/\meets aI hd s0=meets aI k' (s0.drop at_),⟨hd,hd,0,uB,rfl,rfl,rfl,kn,A7 _,rfl⟩,?_⟩;rintro m σ H2 ⟨k',at_,o5,rfl,rfl,rfl,kn',al,e⟩;refine⟨_,rfl,_,_,rfl,rfl,_,rfl,?_⟩;refine ite2 (λc=>?_) (λc=>?_)
 .have m2:2<=m:=by have:=uH c;lia
  obtain⟨xs,b,rR,ha,hb⟩:=ABa hL kn' m2;obtain⟨t1,z1,z2,r1,r2,n1,n2⟩:=ok.low (Bm kn' m2);refine⟨λσ' H'=>∃m',m'<m/\_,λσ' H' h=>h,?_⟩;refine⟨_,rfl,_,rfl,_,_,rfl,rfl,l,xs,_,_,rfl,rfl,rR,ha,?_⟩;refine⟨_,rfl,_,rfl,t,_,rfl,hT,_,_,rfl,rfl,_,rfl,?_⟩;rw[lt];by_cases c1:at_<s0.length
  .have eW:=KU c1
   have hv:atI (s0.map V.int) (at_:Int)=uA (.int s0[at_]):=Bg (by rw[AY,AG c1];rfl);have ec:=Vo ok m2 kn' s0[at_] (s0.drop (at_+1));rw[eW,ec] at e;refine iteP (vn c1) ?_;refine⟨_,rfl,_,rfl,AHB hT hv ⟨_,rfl,b,_,_,_,rfl,rfl,hb,at0,rfl,_,rfl,?_⟩⟩;by_cases c3:s0[at_]=((aI.getD (m-2) (0,0,0)).1:Int)
   .refine iteP (by rw[c3]) ?_
    rw[uE c3] at e;exact⟨_,rfl,_,_,rfl,rfl,_,rfl,b,_,_,_,rfl,rfl,hb,at2,_,(vh z2 m2),_,at_+1,_,rfl,rfl,rfl,n2,c1,e⟩
   .refine iteN (λz=>c3 (by injection z with z)) ?_
    rw[uD c3,<- eW] at e;exact⟨_,rfl,b,_,_,_,rfl,rfl,hb,at1,_,(vh z1 m2),_,at_,_,rfl,rfl,rfl,n1,al,e⟩
  .have eW:s0.drop at_=[]:=FK (uR c1)
   refine iteN (by lia) (iteF ?_);rw[eW,ZP ok m2 kn',<- eW] at e;exact⟨_,rfl,b,_,_,_,rfl,rfl,hb,at1,_,(vh z1 m2),_,at_,_,rfl,rfl,rfl,n1,al,e⟩
 .have m1:m<=1:=by
   have:¬ (1:Int)<m:=λz=>c (uF z);lia
  have q':=q H2 s1;rw[e,Zq m1] at q';refine⟨_,rfl,rfl,_,rfl,?_⟩;by_cases c1:m=1
  .subst c1
   refine iteP rfl ?_;refine⟨_,rfl,_,rfl,t,_,rfl,hT,rfl,?_⟩;rw[lt];have eb:decide (V.int (at_:Int)=V.int (s0.length:Int))=decide (1=1/\s0.drop at_=[]):=by
    by_cases c2:at_=s0.length
    .rw[uF (show V.int (at_:Int)=V.int (s0.length:Int) by rw[c2]),uF ⟨rfl,FK (u6 c2)⟩]
    .rw[uG (λz=>c2 (by injection z with z;exact fv z)),uG (λz=>c2 (by have:=List.drop_eq_nil_iff.mp z.2;exact xE al this))]
   rw[eb];exact q'
  .refine iteN (λz=>by injection z with z;lia) ?_
   rw[uG (λz=>c1 z.1)] at q';exact q'
end K45s
namespace L2
open PySem PySem.Spec PyProof.Rows
set_option tactic.hygienic true in
theorem Ji(val:Nat->Int):∀i,(ZH val i).Nodup
 | 0=>by rw[firstMet_zero];exact LD
 | i+1=>by
  rw[firstMet_succ];unfold step_dedup;split
  .exact Ji val i
  .rename_i h
   rw[OF];refine⟨Ji val i,by simp,λa ha b hb e=>h ?_⟩;rw[Bi.mp hb] at e;exact UX.mpr ⟨a,ha,by rw[e];exact beq_self_eq_true _⟩
theorem Xp{l:uJ}{k:Int}:(l.any (· == k))=true↔k∈l:=by
 rw[UX];exact⟨λ⟨x,hx,e⟩=>by rw[<- eq_of_beq e];exact hx,λh=>⟨k,h,beq_self_eq_true _⟩⟩
theorem AEf(ns:uJ)(k:Int):k∈ZH (λi=>ns.getD i 0) ns.length↔k∈ns:=by
 rw[<- Xp,firstMet_any,Xp];have e:(AK ns.length).map (λi=>ns.getD i 0)=ns:=by
  apply FC;intro i;by_cases c:i<ns.length
  .simp[c]
  .simp[c]
 rw[e]
def ABh(K:Au)(te:TE):TE:=λσ H Q=>te σ H λv H1=>∃(a:Addr) (ns:uJ),v=.ref a/\SqL K H1 a (ns.map V.int)/\ns.length<=1000 /\
 ∀ms:uJ,ms.Nodup->(∀r,r∈ms↔r∈ns)->Q (.int (ms.length:Nat)) H1
theorem Wo(hc:X.calm=true)(hg:Gl X "len")(hm:X.mg "len" = uB)(lw:Gl X "set")(hm2:X.mg "set" = uB)(he:PE X e te)
  (hv:FF "len" = uA (.builtin "len"):=by exact DF) (hv2:autoParam (FF "set" = uA (.type "set")) zA3._auto_1)
  (s1:autoParam (BQ [e] X.env=(false,eval e X.env)::BQ [] X.env) zA0._auto_1)
  (s2:autoParam (BQ [.Call (.Name "set" p2) [e] [] dL] X.env=(false,eval (.Call (.Name "set" p2) [e] [] dL) X.env)::BQ [] X.env) zA0._auto_1) :
  PE X (.Call (.Name "len" p1) [.Call (.Name "set" p2) [e] [] dL] [] pos) (ABh X.K te):=by
 intro aS s σ H Q I h;refine EN (Dt I hg hm hv ?_ (by decide) (by decide));refine IX ?_ s2 rfl;rw[s2];show wpAny _ _ (To ((false,eval (.Call (.Name "set" p2) [e] [] dL) X.env)::FG pos (BQ [] X.env))) _ _ s;refine FR ?_;refine EN (Dt I lw hm2 hv2 ?_ (by decide) (by decide));refine DB ?_ s1 rfl;rw[s1];show wpAny _ _ (To ((false,eval e X.env)::FG dL (BQ [] X.env))) _ _ s;refine FR (thn (he aS s σ H _ I h) λu s1 ⟨x,H1,I1,r1,q1⟩=>?_);refine HQ ?_;obtain⟨a,ns,rfl,ha,mI,q⟩:=q1;cases r1;obtain⟨bg,r,pl,_⟩:=I1.list ha;have lx:=r.length;rw[AB] at lx;have hl:=pl.isList;have hsz:bg.toArray.size=ns.length:=by simp;lia
 refine PySem.call_set_list (items:=bg.toArray) (ns:=ns) (I1.ok.hd hc) hl (by simpa using intsAre_of r) (by rw[hsz];unfold scanBound;lia) λh' tk hS kp=>?_;refine HQ ?_;rw[hsz] at hS;obtain⟨o,es,ep,t,ho,e8,hd,_,_,_,hf,hn⟩:=hS;have I2:Inv X aS σ H1 {s1 with heap:=h',toks:=tk}:=I1.kept λb o e=>kp b o (AW e) e;have le:=firstMet_length_le (λi=>ns.getD i 0) ns.length;refine PySem.call_len_set (s:={s1 with heap:=h',toks:=tk}) ho e8 hd hf (by lia) ?_;refine⟨.int ((ZH (λi=>ns.getD i 0) ns.length).length:Nat),H1,I2.tok _,⟨_,by rw[hn]⟩,q _ (Ji _ _) λk=>AEf ns k⟩
end L2
namespace K45
open PySem L2 G
theorem AAy(s:uL):(up s).map V.int=nI s:=by
 unfold nI up;rw[DL];rfl
theorem AGh{s:uL}(h:(nI s)[i]?=uA v):∃k,s[i]?=uA k/\v=.int (k:Int):=by
 unfold nI at h;rw[AY] at h;cases e:s[i]? with
 | none=>rw[e] at h;cases h
 | some k=>rw[e] at h;exact⟨k,rfl,(BO h).symm⟩
theorem AEt(s:uL)(k:Nat):nI (s++[k])=nI s++[.int (k:Int)]:=by
 unfold nI;rw[BE];rfl
noncomputable def lbV(z:Nat)(lab:Nat->Int):List V:=(AK z).map λp=>V.int (lab p)
theorem Qg{p:Nat}(lab:Nat->Int)(h:p<z):atI (lbV z lab) (p:Int)=uA (.int (lab p)):=Bg (by
 unfold lbV;rw[AY,EF h];rfl)
theorem Qj(z:Nat)(lab:Nat->Int):(lbV z lab).length=z:=by unfold lbV;rw[AB,A9]
theorem AAq(z:Nat)(lab:Nat->Int):lbV (z+1) lab=lbV z lab++[.int (lab z)]:=by
 unfold lbV;rw[EV,BE];rfl
def TlAt(K:Au)(H:Hp)(l:Addr)(as:uK):Prop:=∃xs,H l=uA (.lst xs)/\A1 (rPair K H) as xs
theorem TlAt.same(h:TlAt K H l as)(e:Same H H'):TlAt K H' l as:=let ⟨xs,a,b⟩:=h;⟨xs,e _ _ a,Paired.imp (λa b r=>Ao Ax _ _ a b e.ts r) b⟩
theorem TlAt.get{z:Int}(h:TlAt K H l as)(ok:OkTies z as){k:Nat}(hk:k<as.length):∃(xs:List V) (t:Addr) (a b:Nat),H l=uA (.lst xs)/\xs.length=as.length/\xs[k]?=uA (.ref t)/\SqT K H t [.int (a:Int),.int (b:Int)]/\as[k]?=uA [(a:Int),(b:Int)]/\(a:Int)<z/\(b:Int)<z:=by
 obtain⟨xs,hx,px⟩:=h;have e:=AG hk;obtain⟨v,hv,rv⟩:=uj px e;obtain⟨t,rfl,ht⟩:=Bx rv;obtain⟨a,b,ea,a0,a1,b0,b1,_⟩:=ok.ok as[k] (ER hk);rw[ea] at ht e;refine⟨xs,t,a.toNat,b.toNat,hx,(AZ px).symm,hv,?_,?_,by lia,by lia⟩
 .rw[DH a0,DH b0];exact ht
 .rw[DH a0,DH b0];exact e
noncomputable abbrev finA(as:uK)(s:uL):Nat->Int:=finL (ea (as.map srt)) (eb (as.map srt)) (λp=>(p:Int)) s
def Ka(K:Au):Sp:=λvs H Q _=>∃(z:Nat) (tl t:Addr) (as:uK) (s:uL),vs=[.int z,.ref tl,.ref t]/\TlAt K H tl as/\K45s.Sq K H t (nI s)/\OkTies (z:Int) as/\z<=10/\(∀x∈s,x<as.length) /\
 ∀(l:Addr) (H':Hp),Same H H'->H l=none->H' l=uA (.lst (lbV z (finA as s)))->Q (.ref l) H'
theorem Fb:FnScope ["_law_many","_law_ties_here","_law_some","_law_labels_here","_law_k","_law_low","_law_high"] zl30 (Ai Ju):=fscp (by decide+kernel)
theorem Zv(F:Fun K "_law_labels" "_law_labels" Ju f fd)(T:Txt K mg C):FnOk P w K mg base CX0 1 f fd zl30 (Ka K):=by
 refine F.ok Fb (λvs H Q E h=>?_) (λbE A outer s H vs Q E hr h=>?_)
 .obtain⟨z,tl,t,as,s,rfl,_⟩:=h
  rfl
 obtain⟨z,tl,t,as,s,rfl,hT,hS,ok,z10,hs,q⟩:=h;refine⟨_,Ae (Am (i:=3) Fb.nd (BL (Mz rfl) rfl T.list JY (Aa (BL Gs rfl T.range LM (Aa (pv 0) Ad)) Ad)))
  (Ae (Dq DZ rfl (AGI (pv 2)) (Bu (i:=4) Fb.nd)
   (Ae (Am (i:=5) Fb.nd (BK (JK rfl) rfl T.min MB
    (Aa (Aq Bf (pv 3) (Aq Ay (Aq Bf (pv 1) (pv 4)) Ag)) (Aa (Aq Bf (pv 3) (Aq Ay (Aq Bf (pv 1) (pv 4)) Ag)) Ad))))
   (Ae (Am (i:=6) Fb.nd (BK (ZG rfl) rfl T.max Q3
    (Aa (Aq Bf (pv 3) (Aq Ay (Aq Bf (pv 1) (pv 4)) Ag)) (Aa (Aq Bf (pv 3) (Aq Ay (Aq Bf (pv 1) (pv 4)) Ag)) Ad))))
   (Ak (HS (i:=3) (Ai Ju) ["_law_label"] ["_law_high","_law_low"] [6,5] Fb.nd rfl (IT rfl) rfl rfl (by decide+kernel) ⟨⟨rfl,by decide+kernel⟩,⟨rfl,by decide+kernel⟩,trivial⟩ (Cw (pv 3))
    (λ_ _ _=>BJ (i:=0)) (λ_ _ _=>Cr)
    (λ_ _ _=>Ed (Ar Du (pv 0) (pv 1)) (pv 2) (pv 0)))))))
  (Ak (Av (pv 3)))),?_⟩
 refine⟨_,rfl,(z:Int),rfl,λr jb=>?_⟩;refine⟨r,(z:Int),rfl,Ab,vf,xJ z10,λL0 ky=>?_⟩;have s0:=(u4 jb (.rng 0 (z:Int))).trans (u4 ky (.lst ((below (z:Int).toNat).map V.int)));have nL0:=(u4 jb (.rng 0 (z:Int))).free ky;have e0:(upd (upd H r (.rng 0 (z:Int))) L0 (.lst ((below (z:Int).toNat).map V.int))) L0=uA (.lst (lbV z λp=>(p:Int))):=by
  rw[Ab,Cf]
  congr 2
  unfold lbV below;rw[DL];rfl
 generalize upd (upd H r (.rng 0 (z:Int))) L0 (.lst ((below (z:Int).toNat).map V.int))=H0 at s0 e0;refine⟨_,rfl,t,rfl,AEy (K:=K) (a:=t) (xs:=nI s) (hS.same s0) (λi σ H2=>∃(L:Addr) (o4 o5 o6:Option V),σ=[uA (.int z),uA (.ref tl),uA (.ref t),uA (.ref L),o4,o5,o6]/\Same H0 H2/\H L=uB/\H2 L=uA (.lst (lbV z (finA as (s.take i))))) ⟨L0,uB,uB,uB,rfl,Same.refl _,nL0,by rw[NG];exact e0⟩ (λi σ H2 _ ⟨_,_,_,_,_,sm,_⟩=>sm) ?_ ?_⟩
 .rintro i x σ H2 hx ⟨L,o4,o5,o6,rfl,sm,nL,eL⟩
  obtain⟨k,hk,rfl⟩:=AGh hx;have kl:=hs k (BI hk);obtain⟨xs,tq,a,b,eT,xl,oP,lP,qO,az,bz⟩:=(hT.same (s0.trans sm)).get ok kl;have aL:=Qg (z:=z) (finA as (s.take i)) (p:=a) (vS az);have bL:=Qg (z:=z) (finA as (s.take i)) (p:=b) (vS bz);have fs:finA as (s.take (i+1))=mergeL (finA as (s.take i)) a b:=by
   show finL _ _ _ _=_;rw[K45s.take_snoc hk,NZ,Zb qO]
  rw[fs];generalize finA as (s.take i)=lab at eL aL bL;refine⟨_,rfl,_,rfl,_,rfl,tl,_,_,_,rfl,rfl,ut eT,Bg oP,tq,_,_,_,rfl,rfl,lP,at0,L,_,_,_,rfl,rfl,ut eL,aL,_,rfl,_,rfl,_,rfl,tl,_,_,_,rfl,rfl,ut eT,Bg oP,tq,_,_,_,rfl,rfl,lP,at1,L,_,_,_,rfl,rfl,ut eL,bL,_,_,rfl,?_⟩;refine⟨_,rfl,_,rfl,_,rfl,tl,_,_,_,rfl,rfl,ut eT,Bg oP,tq,_,_,_,rfl,rfl,lP,at0,L,_,_,_,rfl,rfl,ut eL,aL,_,rfl,_,rfl,_,rfl,tl,_,_,_,rfl,rfl,ut eT,Bg oP,tq,_,_,_,rfl,rfl,lP,at1,L,_,_,_,rfl,rfl,ut eL,bL,_,_,rfl,?_⟩;have e1:(if lab b<lab a then lab b else lab a)=min (lab a) (lab b):=by split<;>lia
  have e2:(if lab b>lab a then lab b else lab a)=max (lab a) (lab b):=by split<;>lia
  rw[e1,e2];refine⟨_,rfl,L,rfl,⟨_,ut eL⟩,λZ hZ=>?_⟩;refine DR (K:=K) (a:=L) (xs:=lbV z lab) (λj τ H3=>∃o:Option V,τ=[o,uA (.int (max (lab a) (lab b))),uA (.int (min (lab a) (lab b)))]/\Same H2 H3/\H3 Z=uA (.lst (lbV j (mergeL lab a b)))) ⟨uB,rfl,u4 hZ _,Ab⟩ (λj τ H3 _ ⟨_,_,s3,_⟩=>ut (s3 _ _ eL)) ?_ ?_
  .rintro j v τ H3 hv ⟨o,rfl,s3,eZ⟩
   have jz:j<z:=by
    have:=(AO.mp hv).1
    rwa [Qj] at this
   obtain rfl:v=.int (lab j):=by
    unfold lbV at hv;rw[AY,EF jz] at hv;exact(BO hv).symm
   have fin:∀d:Int,d=mergeL lab a b j->∃ys,H3 Z=uA (.lst ys)/\ys.length<sizeLine/\∃o:Option V,[uA (V.int (lab j)),uA (.int (max (lab a) (lab b))),uA (.int (min (lab a) (lab b)))]=[o,uA (.int (max (lab a) (lab b))),uA (.int (min (lab a) (lab b)))]/\Same H2 (upd H3 Z (.lst (ys++[.int d])))/\(upd H3 Z (.lst (ys++[.int d]))) Z=uA (.lst (lbV (j+1) (mergeL lab a b))):=λd ed=>by
    refine⟨_,eZ,BZ (by rw[Qj];exact xj jz z10),_,rfl,λb o e=>?_,?_⟩
    .rw[Ah (Af e hZ)]
     exact s3 b o e
    .rw[Ab,AAq,ed]
   refine yesN ⟨_,rfl,_,rfl,rfl,_,rfl,?_⟩;by_cases c:lab j=max (lab a) (lab b)
   .exact iteP (congrArg V.int c) ⟨_,rfl,fin _ (by unfold mergeL;rw[uE c])⟩
   .exact iteN (λz=>c (by injection z)) ⟨_,rfl,fin _ (by unfold mergeL;rw[uD c])⟩
  .rintro τ H3 ⟨o,rfl,s3,eZ⟩
   rw[Qj] at eZ;exact⟨Z,_,_,_,rfl,sm.trans s3,(s0.trans sm).free hZ,eZ⟩
 .rintro σ H2 ⟨L,o4,o5,o6,rfl,sm,nL,eL⟩
  rw[Fx,CO] at eL;exact⟨_,rfl,q L H2 (s0.trans sm) nL eL⟩
end K45
namespace L2
open PySem PySem.Spec PyProof.Rows
noncomputable def px(X:Cx)(a:Addr)(oe:Obj):Cx:={X with pn:=X.pn++[(a,oe)]}
theorem Cx.Ok.px(ok:X.Ok):(px X a oe).Ok:=⟨ok.mod,ok.kind,ok.glob,ok.blt,ok.above,ok.inj,ok.has,ok.cab,ok.hd,ok.frames,ok.stk,ok.exf,ok.bs,ok.bsz,ok.noex,ok.exfs,ok.funs,ok.frf⟩
theorem Inv.kept_x(ok:X.Ok)(I:Inv (sx X a oe) aS σ H s):Inv (px X a oe) aS σ H s :=
 ⟨ok.px,I.os,I.bare,I.base,I.loc,I.cell,I.free,I.freeC,I.pin,I.hok,I.len⟩
theorem Inv.unpx(ok:X.Ok)(I:Inv (px X a oe) aS σ H s):Inv X aS σ H s :=
 ⟨ok,I.os,I.bare,I.base,I.loc,I.cell,I.free,I.freeC,λp hp=>by
   rcases B8.mp hp with hp| hp
   .exact I.pin p (DO _ (DO _ hp))
   .exact I.pin p (BS _ hp),I.hok,I.len⟩
section
variable{d n:Str}{sX:Pos}{b0:Stmt}{suite:List Stmt}{rest:List ExceptHandler}{th:TS}{DD:Ends}
set_option tactic.hygienic true in
theorem SM{post:Flow->AA->Prop}(cr:X.stack=X.env::X.outer)(dQ:X.env.frame=uA X.env.locals)(hN:X.N.Nodup)(hD:Gl X d)(hmD:X.mg d=uA (.ref D))(hj:X.N[j]?=uA n)(hk:X.env.scope.names.lookup n=uA .local)
  (I:Inv X aS σ H1 s1) (f:Fly X.prog X.w X.stack H1 H2 s1 s2 a (.ref C)) (S:XSub X.K C D) (hs:∀oe:Obj,oe.cls=.ref C->PSs (sx X a oe) (b0::suite) th) (hth:th (goneD DD j) (σ.set j (uA (.ref a))) H2)
  (ig:∀(oe:Obj) (fl:Flow) (s':AA),oe.cls=.ref C->SP (px X a oe) aS DD fl s'->post fl s')
  (gv:(d==("__debug__" : Str))=false) :
  wpAny (AM X.prog X.w) X.A (noteFrame (.ref a) X.env) (λ_ s₂=>wpAny (AM X.prog X.w) X.A (SY (.ref a) uB) (λ_ s₃=>wpAny (AM X.prog X.w) X.A (handleBy (.ref a) X.env (.ExceptHandler (uA (.Name d np)) (uA n) (b0::suite) sX::rest)) post E' s₃) E' s₂) E' s2:=by
 have frames:X.A.frames=uA (X.env::X.outer):=by rw[<- cr];exact I.ok.frames
 obtain⟨B,a0,fl,hb,big⟩:=f.fly;have fl':MY B (X.env::X.outer) a (.ref C) a0 s2.heap:=by rw[<- cr];exact fl
 have pC:∀{h:Heap},MY B (X.env::X.outer) a (.ref C) a0 h->∃oe,h.get? a=uA oe/\oe.cls=.ref C/\a≠X.env.locals/\a∉X.fs/\∀v,oe.data≠.cell v:=λ{h} x=>by
  obtain⟨oe,vs,e1,e2,e3,_⟩:=x.first
  have nfr:a∉frs X.stack:=λz=>by
   rw[cr] at z;obtain⟨_,o,ho,hd⟩:=x.2.2.1.mem z;rw[e1] at ho;cases ho;exact hd vs e3
  exact⟨oe,e1,e2,λz=>nfr ((Hg cr dQ).mpr (.inl z)),λz=>nfr ((Hg cr dQ).mpr (.inr z)),λv z=>by rw[e3] at z;cases z⟩
 refine wpAny_looks_onW (base:=B) frames dQ fl' λh4 rS up4=>wpAny_landsW rS λh5 fl5 up5'=>?_;have up5:=up4.trans up5';have I5:=f.inv I hb big fl5.1 up5;obtain⟨oe5,e5,c5,n5,m5,d5⟩:=pC fl5;have I5s:=I5.suite e5 f.new n5 m5 d5;refine wpAny_handleBy_cons (codeAny_handlers_test (HX (X:=sx X a oe5) I5s hD hmD ?_ gv)) (by intro q;cases q);refine Zz I5.kIn S e5 c5 (codeAny_handlers_suite_as ?_);refine lands_againW fl5 λh6 fl6 up6=>?_;have I6:=f.inv I hb big fl6.1 (up5.trans up6);obtain⟨rB,e6,c6,n6,m6,d6⟩:=pC fl6;have I6s:=I6.suite e6 f.new n6 m6 d6;refine Ko (X:=sx X a rB) I6s hN hj (IT hk) (v:=.ref a) rfl (λs7 I7=>?_) (.inr hk);refine C5 (hs rB c6 aS s7 _ H2 (goneD DD j) I7 hth) (λfl s8 h8=>?_) λ_ _ z=>z.elim;cases fl with
 | next =>
  obtain⟨σ',H',I8,q⟩:=h8;exact(I8.kept_x I.ok).gone hN hj hk λs9 I9=>ig rB .next s9 c6 ⟨_,H',I9,q⟩
 | brk =>
  obtain⟨σ',H',I8,q⟩:=h8;exact(I8.kept_x I.ok).gone hN hj hk λs9 I9=>ig rB .brk s9 c6 ⟨_,H',I9,q⟩
 | cont =>
  obtain⟨σ',H',I8,q⟩:=h8;exact(I8.kept_x I.ok).gone hN hj hk λs9 I9=>ig rB .cont s9 c6 ⟨_,H',I9,q⟩
 | ret u =>
  obtain⟨v,σ',H',I8,rv,q⟩:=h8;exact(I8.kept_x I.ok).gone hN hj hk λs9 I9=>ig rB (.ret u) s9 c6 ⟨v,_,H',I9,rv,q⟩
variable{E:XK}{G:Addr->Prop}{tt:Addr->Addr->TS}{more:List Stmt}{t1:TS}{t2:Addr->Addr->TS}
def AGz(te:TE)(E:XK)(j:Nat)(tt:Addr->Addr->TS)(t1:TS)(t2:Addr->Addr->TS):TS:=λDD σ H =>
 te σ H (λ_ H1=>t1 DD σ H1)/\∀a C H2,E (.ref C) uB H2->tt a C (goneD {DD with nx:=t2 a C DD} j) (σ.set j (uA (.ref a))) H2
theorem RL(cr:X.stack=X.env::X.outer)(dQ:X.env.frame=uA X.env.locals)(hN:X.N.Nodup)(hD:Gl X d)(hmD:X.mg d=uA (.ref D))(hj:X.N[j]?=uA n)(hk:X.env.scope.names.lookup n=uA .local)
  (he:PEX X e E te) (hE:∀cls H',E cls uB H'->∃C,cls=.ref C/\XSub X.K C D/\G C) (hs:∀(a C:Addr) (oe:Obj),G C->oe.cls=.ref C->PSs (sx X a oe) (b0::suite) (tt a C))
  (h1:PSs X more t1) (h2:∀(a C:Addr) (oe:Obj),G C->oe.cls=.ref C->PSs (px X a oe) more (t2 a C))
  (hsw:autoParam (K2 e uB kT.line X.env=pure false) zA0._auto_1) (gv:autoParam ((d==("__debug__" : Str))=false) zA1._auto_1) :
  PSs X (.Try [.Expr e kT] [.ExceptHandler (uA (.Name d np)) (uA n) (b0::suite) sX] [] [] pos::more) (AGz te E j tt t1 t2):=by
 intro aS s σ H DD I ⟨q1,q2⟩;refine Kb ?_;refine wpAny_Try_except (Kb (V7 (C5 (he aS s σ H _ I q1) (λv s1 ⟨y,H1,I1,r1,q⟩=>?_) λz s2 hz=>?_) I.quiet hsw))
 .exact IS (IS (h1 aS s1 σ H1 DD I1 q))
 .obtain⟨H1,s1,I1,a,cls,H2,rfl,fl,hc⟩:=hz
  obtain⟨C,rfl,S,g⟩:=hE _ _ hc;refine SM (DD:={DD with nx:=t2 a C DD}) cr dQ hN hD hmD hj hk I1 fl S (λoe i8=>hs a C oe g i8) (q2 a C H2 hc) (λoe fl s' i8 h=>?_) gv;cases fl with
  | next =>
   obtain⟨σ',H',I',q⟩:=h;refine C5 (h2 a C oe g i8 aS s' σ' H' DD I' q) (λfl s9 h9=>?_) λ_ _ z=>z;cases fl with
   | next=>obtain⟨σ',H',I',q⟩:=h9;exact⟨σ',H',I'.unpx I.ok,q⟩
   | brk=>obtain⟨σ',H',I',q⟩:=h9;exact⟨σ',H',I'.unpx I.ok,q⟩
   | cont=>obtain⟨σ',H',I',q⟩:=h9;exact⟨σ',H',I'.unpx I.ok,q⟩
   | ret u=>obtain⟨v,σ',H',I',rv,q⟩:=h9;exact⟨v,σ',H',I'.unpx I.ok,rv,q⟩
  | brk=>obtain⟨σ',H',I',q⟩:=h;exact⟨σ',H',I'.unpx I.ok,q⟩
  | cont=>obtain⟨σ',H',I',q⟩:=h;exact⟨σ',H',I'.unpx I.ok,q⟩
  | ret u=>obtain⟨v,σ',H',I',rv,q⟩:=h;exact⟨v,σ',H',I'.unpx I.ok,rv,q⟩
end
end L2
namespace L2
open PySem PySem.Spec PySem.W PyProof.Rows
abbrev xo(oe:Obj):HO:=.frz oe (.ext λ_=>True)
end L2
namespace K45
open PySem L2 G
structure Ex(K:Au)(mg:Str->Option As)(x:Str)(c:Addr):Prop where
 m:mg x=uA (.ref c)
 ex:KF K c [.type "ValueError",.type "Exception",.type "BaseException",.type "object"] "ValueError.__new__" = true
def Jz(K:Au)(D br:Addr):Sp:=λvs H Q E=>∃(p dx:Addr) (lo hi:Int),vs=[.ref p,.int lo,.int hi]/\H p=uA (.ins D dx [])/\lo.natAbs.log2<1920/\hi.natAbs.log2<1920 /\
 (1<=lo->lo<=hi->∀(H':Hp),(∀b o,H b=uA o->b≠p->H' b=uA o)->H' p=uA (.ins D dx (crf lo hi))->Q .non H')/\(¬ (1<=lo/\lo<=hi)->E (.ref br) uB H)
theorem ADd:FnScope zl18 zl18 (Ai Wx):=fscp (by decide+kernel)
theorem ABl(F:Fun K "__init__" "Crowds.__init__" Wx f fd)(cD:Crd K D)(X1:Ex K mg "BadRule" br):FnOk P w K mg base (CXF P w) 1 f fd ["self","low","high"] (Jz K D br):=by
 refine F.okF ADd (λvs H Q E h=>?_) (λbE A outer s H vs Q E hr h=>?_)
 .obtain⟨p,dx,lo,hi,rfl,_⟩:=h
  rfl
 obtain⟨p,dx,lo,hi,rfl,hp,sl,sh,q,qx⟩:=h;refine⟨_,Ae (Bv (Ar Lx (pv 1) Ag) (Ak (Sd (E (.ref br) uB) On X1.ex rfl rfl X1.m (Aa (XC (WM 100 (by decide+kernel) (WK (pv 1) ACy)) (by decide)) Ad) ABw)) BP)
  (Ae (Bv (Ar Lx (pv 2) (pv 1)) (Ak (Sd (E (.ref br) uB) On X1.ex rfl rfl X1.m (Aa (XC (WM 100 (by decide+kernel) (WK (pv 1) (WM 100 (by decide+kernel) (WK (pv 2) ACy)))) (by decide)) Ad) ABw)) BP)
  (Ae (DP (pv 0) (pv 1) rfl)
  (Ak (DP (pv 0) (pv 2) rfl)))),?_⟩
 refine⟨_,rfl,_,_,rfl,rfl,_,rfl,?_⟩;by_cases c1:lo<1
 .exact iteP c1 ⟨_,rfl,_,rfl,sl,λz=>⟨(by show 1<=sizeLine;decide),qx λh=>by lia⟩⟩
 refine iteN c1 ?_;refine⟨_,rfl,_,rfl,_,_,rfl,rfl,_,rfl,?_⟩;by_cases c2:hi<lo
 .exact iteP c2 ⟨_,rfl,_,rfl,sl,_,rfl,_,rfl,sh,λz=>⟨(by show 1<=sizeLine;decide),qx λh=>by lia⟩⟩
 refine iteN c2 ?_;refine⟨_,rfl,_,rfl,p,D,dx,[],rfl,hp,cD.cl,cD.nLo,(by decide),?_⟩;refine⟨_,rfl,_,rfl,p,D,dx,_,rfl,Ab,cD.cl,cD.nHi,(by show 1<1000;decide),?_⟩;rw[XH];exact q (wS c1) (wS c2) _ (λb o e h=>by rw[Ah h];exact e) Ab
abbrev Mi:Stmt:=top 58
abbrev QG:Stmt:=top 59
abbrev Ih:Stmt:=top 60
theorem Tq:PE X e (λ_ _ _=>False):=λ_ _ _ _ _ _ h=>h.elim
structure Cs where
 (fe tm ns bk br bt nk nn nu no nr nx ni nw tw un:Addr)
structure XN(mg:Str->Option As)(c:Cs):Prop where
 fe:mg "FrontError" = uA (.ref c.fe)
 tm:mg "TooMany" = uA (.ref c.tm)
 ns:mg "NoSet" = uA (.ref c.ns)
 bk:mg "BadKnots" = uA (.ref c.bk)
 br:mg "BadRule" = uA (.ref c.br)
 bt:mg "BadTie" = uA (.ref c.bt)
 nk:mg "NoKnot" = uA (.ref c.nk)
 nn:mg "NoName" = uA (.ref c.nn)
 nu:mg "NoNumber" = uA (.ref c.nu)
 no:mg "NoOrder" = uA (.ref c.no)
 nr:mg "NoRow" = uA (.ref c.nr)
 nx:mg "NoText" = uA (.ref c.nx)
 ni:mg "NoTie" = uA (.ref c.ni)
 nw:mg "NoWeights" = uA (.ref c.nw)
 tw:mg "Twice" = uA (.ref c.tw)
 un:mg "Unlike" = uA (.ref c.un)
 ve:mg "ValueError" = uB
structure XW(K:Au)(c:Cs):Prop where
 z:XCl K c.br
 s:XSub K c.br c.fe
 k1:NH K (.ref c.br) (.ref c.br)=uA true
 v:NH K (.ref c.br) (.type "ValueError")=uA true
 o1:NI K (.ref c.br) [.ref c.bk,.ref c.bt,.ref c.nk,.ref c.nu,.ref c.no,.ref c.nr,.ref c.ns,.ref c.nx]=uA false
 o2:NI K (.ref c.br) [.ref c.nn,.ref c.ni,.ref c.nw,.ref c.tm,.ref c.tw,.ref c.un]=uA false
theorem Jr:FF "ValueError" = uA (.type "ValueError"):=by decide+kernel
def Og:Sp:=λvs H Q _=>∃(lo hi:Int),vs=[.int lo,.int hi]/\lo.natAbs.log2<1920/\hi.natAbs.log2<1920/\∀H',Same H H'->Q (.bl (decide (¬ (1<=lo/\lo<=hi)))) H'
section
variable{c:Cs}
theorem HN:FnScope ["_law_low","_law_high","_law_told","error"] zl31 (Ai Mi):=fscp (by decide+kernel)
theorem Vw{fN:Addr}{fdN:BA}(F:Fun K "_law_refused" "_law_refused" Mi f fd)(T:Txt K mg C)(N:XN mg c)(W:XW K c)
  (M:Mk K D fN) (mD:mg "Crowds" = uA (.ref D)) (GN:FnOk P w K mg base (CXF P w) 1 fN fdN ["self","low","high"] (Jz K D c.br)) (bN:Binds K fdN zl18 []) :
  FnOk P w K mg base CX0 4 f fd zl31 Og:=by
 refine F.ok HN (λvs H Q E h=>?_) (λbE A outer s H vs Q E hr h=>?_)
 .obtain⟨lo,hi,rfl,_⟩:=h
  rfl
 obtain⟨lo,hi,rfl,sl,sh,q⟩:=h;have gp:Room 2 _:=hr.mono (by decide);refine⟨_,Ae (Am (i:=2) HN.nd Ht)
  (RL (j:=3) (D:=c.fe) (G:=λC=>C=c.br) (E:=λcls _ H'=>Same H H'/\cls=.ref c.br/\¬ (1<=lo/\lo<=hi)) (tt:=λa C=>_) (t2:=λa C=>_) rfl rfl HN.nd rfl N.fe rfl rfl
   (AAz M GN gp rfl mD bN .nil (Aa (pv 0) (Aa (pv 1) Ad)))
   (λcls H' h=>⟨_,h.2.1,W.s,rfl⟩)
   (λa C' oe hG i8=>Ak (Am (i:=2) HN.nd (pv 3)))
   (Ae (Bv (uZ (Ho (Ar ADR (pv 2) Ht) (Ho (Fg (Ei Tq)) (Gn (Fg (Ei Tq)))))) (Ak (Av Em)) BP) (Ae Rj (Ak Rj)))
   (λa C' oe hG i8 =>
    Ae (Bv (uZ (Ho (Ar ADR (pv 2) Ht) (Ho (Fg (Ei (BK (Hy (K:=K) rfl (a:=a) (C:=C') (BS _ (Bi.mpr rfl)) i8 (show XCl K C' by rw[hG];exact W.z)) rfl T.isi Hd (Aa (pv 2) (Aa (CJ (v:=.ref c.br) rfl N.br rfl) Ad)))))
     (Gn (Fg (Ei (BK (Hy (K:=K) rfl (a:=a) (C:=C') (BS _ (Bi.mpr rfl)) i8 (show XCl K C' by rw[hG];exact W.z)) rfl T.isi Hd (Aa (pv 2) (Aa (AEo (v:=.ty "ValueError") rfl N.ve Jr rfl) Ad))))))))) (Ak (Av Em)) BP)
    (Ae (Bv (Ei (BK (Hy (K:=K) rfl (a:=a) (C:=C') (BS _ (Bi.mpr rfl)) i8 (show XCl K C' by rw[hG];exact W.z)) rfl T.isi Hd (Aa (pv 2) (Aa (Bw (Aa (CJ (v:=.ref c.bk) rfl N.bk rfl) (Aa (CJ (v:=.ref c.bt) rfl N.bt rfl) (Aa (CJ (v:=.ref c.nk) rfl N.nk rfl) (Aa (CJ (v:=.ref c.nu) rfl N.nu rfl) (Aa (CJ (v:=.ref c.no) rfl N.no rfl) (Aa (CJ (v:=.ref c.nr) rfl N.nr rfl) (Aa (CJ (v:=.ref c.ns) rfl N.ns rfl) (Aa (CJ (v:=.ref c.nx) rfl N.nx rfl) Ad))))))))) Ad)))) (Ak (Av Em)) BP)
    (Ak (Av (ABf (BK (Hy (K:=K) rfl (a:=a) (C:=C') (BS _ (Bi.mpr rfl)) i8 (show XCl K C' by rw[hG];exact W.z)) rfl T.isi Hd (Aa (pv 2) (Aa (Bw (Aa (CJ (v:=.ref c.nn) rfl N.nn rfl) (Aa (CJ (v:=.ref c.ni) rfl N.ni rfl) (Aa (CJ (v:=.ref c.nw) rfl N.nw rfl) (Aa (CJ (v:=.ref c.tm) rfl N.tm rfl) (Aa (CJ (v:=.ref c.tw) rfl N.tw rfl) (Aa (CJ (v:=.ref c.un) rfl N.un rfl) Ad))))))) Ad))))))))),?_⟩
 refine⟨?_,?_⟩
 .refine⟨_,rfl,_,rfl,λp dx np ndx npd=>?_⟩
  have s3:Same H (upd (upd H dx (.own p)) p (.ins D dx [])):=λb o e=>by
   rw[Ah (Af e np),Ah (Af e ndx)];exact e
  refine⟨p,dx,lo,hi,rfl,Ab,sl,sh,λl1 lh H' kp _=>⟨rfl,?_⟩,λc'=>⟨s3,rfl,c'⟩⟩;have s4:Same H H':=λb o e=>kp b o (s3 b o e) (Af e np);refine⟨_,rfl,rfl,_,rfl,iteP rfl ?_⟩;refine iteT ?_;have:=q H' s4;rw[uG (λh=>h ⟨l1,lh⟩)] at this;exact this
 .rintro a C' H2 ⟨s2,e,bad⟩
  cases e;refine⟨_,rfl,?_⟩;refine⟨_,rfl,rfl,_,rfl,iteN (by intro z;cases z) ?_⟩;refine⟨_,rfl,.inl ⟨c.br,true,rfl,W.k1,true,rfl,iteF ?_⟩⟩;refine⟨_,rfl,.inr (.inl ⟨"ValueError",true,rfl,W.v,true,rfl,iteF ?_⟩)⟩;refine⟨_,rfl,(by show 8<=sizeLine;decide),λT1 fm=>?_⟩;have s3:=u4 fm (.tup [.ref c.bk,.ref c.bt,.ref c.nk,.ref c.nu,.ref c.no,.ref c.nr,.ref c.ns,.ref c.nx]);refine .inr (.inr ⟨T1,[c.bk,c.bt,c.nk,c.nu,c.no,c.nr,c.ns,c.nx],false,rfl,uu Ab,W.o1,false,rfl,iteF ?_⟩);refine⟨_,rfl,(by show 6<=sizeLine;decide),λT2 qj=>?_⟩;have s4:=u4 qj (.tup [.ref c.nn,.ref c.ni,.ref c.nw,.ref c.tm,.ref c.tw,.ref c.un]);refine .inr (.inr ⟨T2,[c.nn,c.ni,c.nw,c.tm,c.tw,c.un],false,rfl,uu Ab,W.o2,false,rfl,?_⟩);have:=q _ (s2.trans (s3.trans s4));rw[uF bad] at this;exact this
end
def TX:Sp:=λvs H Q _=>∃(c:Int),vs=[.int c]/\∀H',Same H H'->Q (.bl true) H'
theorem sm59{k:Int}(h:k.natAbs<2 ^ 300):k.natAbs.log2<1920:=by
 by_cases z:k.natAbs=0
 .rw[z];decide
 .exact Su ((Nat.log2_lt z).mpr h) (by decide)
theorem Uo:FnScope ["_law_cell","_law_low"] zl17 (Ai QG):=fscp (by decide+kernel)
theorem Yz(F:Fun K "_law_all_refused" "_law_all_refused" QG f fd)
  (GR:Cal P w K mg base 4 fR kK "_law_refused" zl31 Og) :
  FnOk P w K mg base CX0 5 f fd zl17 TX:=by
 refine F.ok Uo (λvs H Q E h=>?_) (λbE A outer s H vs Q E hr h=>?_)
 .obtain⟨c,rfl,_⟩:=h
  rfl
 obtain⟨c,rfl,q⟩:=h;have mr:Room 4 _:=hr.mono (by decide);refine⟨_,Ae (Am (i:=1) Uo.nd (Aw Cy (Aw GQ (pv 0) Ag) (Aw Vz Ag Ag)))
  (Ae (Bv (uZ (Ho (Fg (Ei (Az GR mr rfl (Aa (Aw Et Ag (pv 1)) (Aa (Aw Bs (pv 1) Ag) Ad)))))
    (Gn (Fg (Ei (Az GR mr rfl (Aa (Aw Bs (pv 1) Ag) (Aa (Aw Bs (pv 1) Ag) Ad)))))))) (Ak (Av Em)) BP)
  (Ak (Av (Qi (Az GR mr rfl (Aa Ag (Aa Ag Ad)))
   (Qi (Az GR mr rfl (Aa (Aw Et Ag (pv 1)) (Aa (Aw Et (Rt Ke Ag) (pv 1)) Ad)))
   (WY (ABf (Az GR mr rfl (Aa (Aw Bs (pv 1) Ag) (Aa (Aw Bs (pv 1) Ag) Ad)))))))))),?_⟩
 refine⟨_,rfl,_,_,rfl,rfl,⟨by decide,by decide⟩,_,_,rfl,rfl,⟨by decide,by decide,by decide⟩,_,_,rfl,rfl,(by show(0:Int)<10 ^ 59;decide),?_⟩;obtain⟨m,em,ml⟩:∃m:Nat,c / 3%((10:Int) ^ (59:Int).toNat)=(m:Int)/\m<10 ^ 59:=by
  have h0:=EW (c / 3) (show((10:Int) ^ (59:Int).toNat)≠0 by decide);have h1:=Ev (c / 3) (show(0:Int)<(10:Int) ^ (59:Int).toNat by decide);have h2:(10:Int) ^ (59:Int).toNat=((10 ^ 59:Nat):Int):=by decide
  rw[h2] at h0 h1 ⊢;exact⟨(c / 3%((10 ^ 59:Nat):Int)).toNat,ye h0,by lia⟩
 show gName 1 (V.int (c / 3%(10:Int) ^ (59:Int).toNat)) _ _ _;rw[em];refine⟨_,rfl,_,_,rfl,rfl,_,rfl,_,_,rfl,rfl,0-(m:Int),(m:Int)+1,rfl,sm59 (by lia),sm59 (by omega),λH1 s1=>⟨_,rfl,?_⟩⟩;rw[uF (show ¬ (1<=0-(m:Int)/\0-(m:Int)<=(m:Int)+1) from yG)];refine iteF ?_;refine⟨_,rfl,_,_,rfl,rfl,_,rfl,_,_,rfl,rfl,(m:Int)+2,(m:Int)+1,rfl,sm59 (by omega),sm59 (by omega),λH2 s2=>⟨_,rfl,?_⟩⟩;rw[uF (show ¬ (1<=(m:Int)+2/\(m:Int)+2<=(m:Int)+1) by lia)];refine iteF ?_;refine⟨0,0,rfl,by decide,by decide,λH3 s3=>⟨_,rfl,?_⟩⟩;rw[uF (show ¬ ((1:Int)<=0/\(0:Int)<=0) by lia)];refine iteT ?_;refine⟨_,rfl,_,_,rfl,rfl,_,rfl,_,rfl,_,_,rfl,rfl,0-(m:Int),-1-(m:Int),rfl,sm59 (by lia),sm59 (by lia),λH4 s4=>⟨_,rfl,?_⟩⟩;rw[uF (show ¬ (1<=0-(m:Int)/\0-(m:Int)<=-1-(m:Int)) from yG)];refine iteT ?_;refine⟨_,rfl,_,_,rfl,rfl,_,rfl,_,_,rfl,rfl,(m:Int)+1,(m:Int)+1,rfl,sm59 (by omega),sm59 (by omega),λH5 s5=>⟨_,rfl,?_⟩⟩;rw[uG (show ¬ ¬ (1<=(m:Int)+1/\(m:Int)+1<=(m:Int)+1) by lia)];exact q _ (s1.trans (s2.trans (s3.trans (s4.trans s5))))
end K45
namespace G
section
variable{ea eb:Nat->Nat}
theorem ABg:∀(s:uL) (lab:Nat->Int) (x:Nat),x∈s->finL ea eb lab s (ea x)=finL ea eb lab s (eb x)
 | y::s,lab,x,h=>by
  rcases AS.mp h with rfl| h
  .exact Gb s _ _ _ (merge_iff.mpr (.inr ⟨.inl rfl,.inr rfl⟩))
  .exact ABg s _ x h
theorem ACw(v:Int):cntL z lab v<=z:=BY (CH ..) (J3 (A9 ..))
theorem Xx{p:Nat}(h:p<z):1<=cntL z lab (lab p):=JS (B0.mpr ⟨AN.mpr h,uF rfl⟩)
theorem ADX{v:Int}(h:z<=cntL z lab v)(hq:q<z):lab q=v:=by
 have e:(AK z).filter (λq=>decide (lab q=v))=AK z:=Sl.eq_of_length_le (by rw[A9];exact h);exact uH (So.mp e q (AN.mpr hq))
theorem ABp{v:Int}(h:∀q,q<z->lab q=v):cntL z lab v=z:=by
 unfold cntL;rw[So.mpr λq hq=>uF (h q (AN.mp hq)),A9]
theorem AFG{p:Nat}(hp:p<z)(hq:q<z)(ne:p≠q)(e:lab q=lab p):2<=cntL z lab (lab p) :=
 ST.Bk (l₁:=[p,q]) (DE.mpr ⟨λh=>ne (Bi.mp h),DE.mpr ⟨DJ,LD⟩⟩) λx hx=>B0.mpr (by
  rcases AS.mp hx with rfl| hx
  .exact⟨AN.mpr hp,uF rfl⟩
  .rw[Bi.mp hx];exact⟨AN.mpr hq,uF e⟩)
theorem AGJ(p:Nat):cntL z (λp=>(p:Int)) (p:Int)<=1 :=
 ST.Bk (l₂:=[p]) (ED.filter _) λx hx=>Bi.mpr (KI (uH (B0.mp hx).2))
theorem AAb{s:uL}(pw:s.Pairwise (· < ·))(lt:∀x∈s,x<n)(all:∀x,x<n->x∈s):s=AK n:=by
 have im:∀{l:uL},l.Pairwise (· < ·)->(l.map λ(x:Nat)=>(x:Int)).Pairwise (· < ·):=λh=>C9.mpr (h.imp λh=>SA.mpr h);have e:=L2.YF (im pw) (im FI) λx=>⟨λh=>by
  obtain⟨y,hy,rfl⟩:=BD.mp h;exact BD.mpr ⟨y,AN.mpr (lt y hy),rfl⟩,λh=>by
  obtain⟨y,hy,rfl⟩:=BD.mp h;exact BD.mpr ⟨y,all y (AN.mp hy),rfl⟩⟩
 exact List.map_inj_right (λ_ _ h=>KI h)|>.mp e
abbrev Ac(z n:Nat)(ea eb:Nat->Nat)(lo hi:Int)(s:uL):Prop:=Acc z n ea eb lo hi (λp=>(p:Int)) (λ_=>False) 0 s
abbrev fnl(ea eb:Nat->Nat)(s:uL):Nat->Int:=finL ea eb (λp=>(p:Int)) s
theorem AFa(he:∀x,x<n->ea x<z/\eb x<z/\ea x≠eb x){s:uL}(lt:∀x∈s,x<n):Ac z n ea eb 1 1 s↔s=[]:=by
 constructor
 .rintro⟨_,h⟩
  cases s with
  | nil=>rfl
  | cons x s =>
   obtain⟨a,b,ne⟩:=he x (lt x (AI ..));have h2:=AFG (lab:=fnl ea eb (x::s)) a b ne (ABg _ _ x (AI ..)).symm;exact uI (HE.mp (h (ea x) a).2) (Z9.mpr h2)
 .rintro rfl
  refine⟨λu hu=>?_,λp pz=>⟨?_,?_⟩⟩
  .rcases hu with hu| ⟨_,h,_⟩
   .exact hu.elim
   .exact λe=>(he u h).2.2 (KI e)
  .have:=Xx (lab:=λp:Nat=>(p:Int)) pz
   exact HE.mpr this
  .exact HE.mpr (AGJ p)
def Same1(z:Nat)(lab:Nat->Int):Prop:=∀p,p<z->lab p=lab 0
theorem AFv(he:∀x,x<n->ea x<z/\eb x<z/\ea x≠eb x)(z1:1<=z)(hz:(z:Int)<=hi){s:uL}(pw:s.Pairwise (· < ·))(lt:∀x∈s,x<n):Ac z n ea eb z hi s↔s=AK n/\Same1 z (fnl ea eb (AK n)):=by
 constructor
 .rintro⟨h1,h2⟩
  have al:Same1 z (fnl ea eb s):=λp pz=>ADX (HE.mp (h2 0 z1).1) pz;have e:s=AK n:=AAb pw lt λx hx=>by
   apply Bn;intro c;refine h1 x (.inr ⟨A7 _,hx,c⟩) ?_;obtain⟨a,b,_⟩:=he x hx;exact(al _ a).trans (al _ b).symm
  rw[e] at al;exact⟨e,al⟩
 .rintro⟨rfl,al⟩
  refine⟨λu hu=>?_,λp pz=>?_⟩
  .rcases hu with hu| ⟨_,h,c⟩
   .exact hu.elim
   .exact uI (AN.mpr h) c
  .have e:=ABp (z:=z) (lab:=fnl ea eb (AK n)) (v:=fnl ea eb (AK n) p) λq hq=>(al q hq).trans (al p pz).symm
   exact⟨HE.mpr (J3 e.symm),D3 (HE.mpr (J3 e)) hz⟩
theorem ADs(z1:1<=z){s:uL}:¬ Ac z n ea eb ((z:Int)+1) hi s:=by
 rintro⟨_,h⟩;have h2:=ACw (z:=z) (lab:=fnl ea eb s) (fnl ea eb s 0);have h1:((z+1:Nat):Int)<=_:=(h 0 z1).1;exact uI (HE.mp h1) (Z9.mpr (TC h2))
theorem Mp(hz:(z:Int)<=hi){s:uL}:Ac z n ea eb 1 hi s↔∀u,u<n->u∉s->fnl ea eb s (ea u)≠fnl ea eb s (eb u):=by
 constructor
 .rintro⟨h,_⟩ u hu c
  exact h u (.inr ⟨A7 _,hu,c⟩)
 .intro h
  refine⟨λu hu=>?_,λp pz=>⟨HE.mpr (Xx pz),D3 (HE.mpr (ACw _)) hz⟩⟩;rcases hu with hu| ⟨_,h1,c⟩
  .exact hu.elim
  .exact h u h1 c
theorem Vn:∀u,u<n->u∉AK n->fnl ea eb (AK n) (ea u)≠fnl ea eb (AK n) (eb u):=λu h c=>uI (AN.mpr h) c
theorem ZS(he:∀x,x<n->ea x<z/\eb x<z/\ea x≠eb x):∀u,u<n->u∉([]:uL)->fnl ea eb [] (ea u)≠fnl ea eb [] (eb u):=λu h _ e=>(he u h).2.2 (KI e)
noncomputable def butOne(n k:Nat):uL:=(AK n).filter λx=>decide (x≠k)
theorem Jv{k x:Nat}:x∈butOne n k↔x<n/\x≠k:=by
 unfold butOne;rw[B0,AN,decide_eq_true_iff]
theorem AAG{k:Nat}(hk:k<n):(∀u,u<n->u∉butOne n k->fnl ea eb (butOne n k) (ea u)≠fnl ea eb (butOne n k) (eb u))↔fnl ea eb (butOne n k) (ea k)≠fnl ea eb (butOne n k) (eb k):=by
 constructor
 .exact λh=>h k hk λc=>(Jv.mp c).2 rfl
 .intro h u hu c
  by_cases e:u=k
  .rw[e];exact h
  .exact uI (Jv.mpr ⟨hu,e⟩) c
theorem Yx(z1:1<=z)(nd:ms.Nodup)(mem:∀r,r∈ms↔∃p,p<z/\lab p=r):ms.length=1↔Same1 z lab:=by
 constructor
 .intro h p pz
  obtain⟨m,rfl⟩:=P6.mp h;rw[Bi.mp ((mem _).mpr ⟨p,pz,rfl⟩),Bi.mp ((mem _).mpr ⟨0,z1,rfl⟩)]
 .intro h
  have al:∀r∈ms,r=lab 0:=λr hr=>by
   obtain⟨p,pz,rfl⟩:=(mem r).mp hr;exact h p pz
  match ms,nd,mem,al with
  | [],_,mem,_=>exact uI ((mem _).mpr ⟨0,z1,rfl⟩) DJ
  | [_],_,_,_=>rfl
  | a::b::_,nd,_,al=>exact uI ((al a (by simp)).trans (al b (by simp)).symm) λe=>(DE.mp nd).1 (by rw[e];simp)
end
section
variable{k:Nat}
theorem InOrder.one(I:InOrder n aI k L)(h:∀s,led aI k s=true↔s=s0):L=[s0]:=by
 have al:∀s∈L,s=s0:=λs hs=>(h s).mp ((I.mem s).mp hs);have m0:s0∈L:=(I.mem s0).mpr ((h s0).mpr rfl);have od:=I.ord
 match L,al,m0,od with
 | [],_,m,_=>exact uI m DJ
 | [a],al,_,_=>rw[al a (by simp)]
 | a::b::_,al,_,od =>
  have:=(CA.mp od).1 b (by simp);rw[al a (by simp),al b (by simp)] at this;exact uI this (Fh _)
theorem InOrder.none(I:InOrder n aI k L)(h:∀s,¬ led aI k s=true):L=[]:=List.eq_nil_iff_forall_not_mem.mpr λs hs=>h s ((I.mem s).mp hs)
end
end G
namespace K45
open PySem L2 G
structure SvC(K:Au)(S p:Addr)(z:Nat)(as:uK)(lo hi:Int)(hd:Nat)(aT:List Row)(H:Hp):Prop where
 sv:K45s.SvAt K S H p as.length aT hd
 cn:Canon as.length aT hd
 ld:∀s:uL,s.Pairwise (· < ·)->(∀x∈s,x<as.length)->(led aT hd s=true↔Crw z (as.map srt) lo hi s)
theorem SvC.same{aT:List Row}(b:SvC K S p z as lo hi hd aT H)(e:Same H H'):SvC K S p z as lo hi hd aT H':=⟨b.sv.same e,b.cn,b.ld⟩
theorem Kq{aI:List Row}(ok:Ok n aI){k:Nat}(kn:Knot aI k)(s:uL):K45s.meets aI k (up s)=led aI k s:=by
 rw[DV];refine(Mq ok (k+1) k (up s) (E7 k) kn).trans ⟨λ⟨u,e,h⟩=>by rw[QL e];exact h,λh=>⟨s,rfl,h⟩⟩
theorem UG(i j:Nat):(AK (j+1)).filter (λx=>decide (x≠i))=(AK j).filter (λx=>decide (x≠i))++if j=i then [] else [j]:=by
 rw[EV,CD];by_cases e:j=i
 .rw[uE e,D7 (by simpa using e)]
  rfl
 .rw[uD e,EO (by simpa using e)]
  rfl
theorem QF(ok:OkTies (z:Int) as){x:Nat}(h:x<(as.map srt).length):ea (as.map srt) x<z/\eb (as.map srt) x<z/\ea (as.map srt) x≠eb (as.map srt) x:=by
 rw[AB] at h;obtain⟨a,b,e,a0,a1,b0,b1,n⟩:=ok.ok as[x] (ER h);have e1:as[x]?=uA [((a.toNat:Nat):Int),((b.toNat:Nat):Int)]:=by rw[AG h,e,DH a0,DH b0]
 rcases Ky e1 with⟨h1,h2⟩| ⟨h1,h2⟩
 .rw[h1,h2];lia
 .rw[h1,h2];lia
theorem AEh(zh:(z:Int)<=hi)(ci:i<as.length){a b:Nat}(qO:as[i]?=uA [(a:Int),(b:Int)]):Crw z (as.map srt) 1 hi (butOne as.length i)↔finA as (butOne as.length i) a≠finA as (butOne as.length i) b:=by
 have bl:(as.map srt).length=as.length:=AB ..;refine(Mp zh).trans ?_;rw[bl];refine(AAG ci).trans ?_;rcases Ky qO with⟨e1,e2⟩| ⟨e1,e2⟩
 .rw[e1,e2]
 .rw[e1,e2]
  exact⟨CF,CF⟩
def Om(K:Au)(S:Addr):Sp:=λvs H Q _=>∃(p tl:Addr) (z hd:Nat) (as:uK) (aT:List Row) (hi:Int),vs=[.ref p,.int z,.ref tl]/\SvC K S p z as 1 hi hd aT H/\TlAt K H tl as/\OkTies (z:Int) as/\z<=10/\as.length<=12/\(z:Int)<=hi /\
 ∀(H':Hp),Same H H'->Q (.bl true) H'
noncomputable abbrev oneN:uT:=["_law_sieve","_law_many","_law_ties_here","_law_at","_law_some","_law_labels_here","_law_apart"]
theorem FT:FnScope oneN ["_law_sieve","_law_many","_law_ties_here"] (Ai Ih):=fscp (by decide+kernel)
theorem Uz(F:Fun K "_law_one_less" "_law_one_less" Ih f fd)(T:Txt K mg C)
  (GL:Cal P w K mg base 1 fL nE "_law_labels" zl30 (Ka K))
  (GH:Cal P w K mg base 2 fH rY "has_set" zl29 (K45s.ACQ K S)) :
  FnOk P w K mg base CX0 3 f fd zl33 (Om K S):=by
 refine F.ok FT (λvs H Q E h=>?_) (λbE A outer s H vs Q E hr h=>?_)
 .obtain⟨p,tl,z,hd,as,aT,hi,rfl,_⟩:=h
  rfl
 obtain⟨p,tl,z,hd,as,aT,hi,rfl,hV,hT,ok,z10,a12,zh,q⟩:=h;have cS:Room 1 _:=hr.mono (by decide);have gp:Room 2 _:=hr.mono (by decide);refine⟨_,Ae (Dq DZ rfl (DG rfl T.range (Aa (BK Bc rfl T.len DF (Aa (pv 2) Ad)) Ad)) (Bu (i:=3) FT.nd)
   (Ae (Am (i:=4) FT.nd (BL BW rfl T.tuple Cc (Aa (Ce (Ai Ih) ["_law_k"] ["_law_at"] [3] rfl rfl (by decide+kernel) ⟨⟨rfl,by decide+kernel⟩,trivial⟩ (DG rfl T.range (Aa (BK Bc rfl T.len DF (Aa (pv 2) Ad)) Ad))
     (λ_ _ _=>BJ (i:=0))
     (λ_ _ _=>Cq (Ar Oe (pv 0) (pv 1))) (λ_ _ _=>pv 0)) Ad)))
   (Ae (Am (i:=5) FT.nd (Az GL cS rfl (Aa (pv 1) (Aa (pv 2) (Aa (pv 4) Ad)))))
   (Ae (Am (i:=6) FT.nd (Px Oe (Aq Bf (pv 5) (Aq Ay (Aq Bf (pv 2) (pv 3)) Ag)) (Aq Bf (pv 5) (Aq Ay (Aq Bf (pv 2) (pv 3)) Ag))))
   (Ak (Bv (Ar Oe (Az GH gp rfl (Aa (pv 0) (Aa (pv 4) Ad))) (pv 6)) (Ak (Av Em)) BP))))))
  (Ak (Av Em)),?_⟩
 obtain⟨iX,eT0,pT0⟩:=id hT;have lx0:=AZ pT0;have bl:(as.map srt).length=as.length:=AB ..;refine⟨_,rfl,tl,_,rfl,.inl (ut eT0),_,rfl,by lia,by lia,?_⟩;refine Hj (lo:=0) (n:=((iX.length:Nat):Int).toNat) (λi σ HA=>∃(o3 o4 o5 o6:Option V),σ=[uA (.ref p),uA (.int z),uA (.ref tl),o3,o4,o5,o6]/\Same H HA) ⟨uB,uB,uB,uB,rfl,Same.refl _⟩ ?_ ?_
 .rintro i σ HA ci ⟨o3,o4,o5,o6,rfl,sA⟩
  rw[Cf] at ci;have ei:(0:Int)+i=(i:Int):=by lia
  rw[ei];refine⟨_,rfl,tl,_,rfl,.inl (ut (sA _ _ eT0)),_,rfl,by lia,by lia,λZ hZ=>?_⟩;refine Er (lo:=0) (n:=((iX.length:Nat):Int).toNat) (λj τ H2=>∃o:Option V,τ=[o,uA (.int (i:Int))]/\Same HA H2/\H2 Z=uA (.lst (nI ((AK j).filter λx=>decide (x≠i))))) ⟨uB,rfl,u4 hZ _,Ab⟩ ?_ ?_
  .rintro j τ H2 hj ⟨o,rfl,s2,eZ⟩
   rw[Cf] at hj;have ej:(0:Int)+j=(j:Int):=by lia
   rw[ej];have fl:((AK j).filter λx=>decide (x≠i)).length<=12:=BY (CH ..) (by rw[A9];lia);refine⟨_,rfl,_,rfl,rfl,_,rfl,?_⟩;by_cases e:j=i
   .refine iteNP (congrArg V.int (by rw[e])) ⟨_,rfl,s2,?_⟩
    rw[UG,uE e,B3];exact eZ
   .refine iteNN (λz=>e (by injection z with z;lia)) ⟨_,rfl,_,eZ,BZ (by rw[Fx];lia),_,rfl,λb o e'=>?_,?_⟩
    .rw[Ah (Af e' hZ)]
     exact s2 b o e'
    .rw[Ab,UG,uD e,AEt]
  rintro τ H2 ⟨o,rfl,s2,eZ⟩;rw[Cf,<- lx0] at eZ;refine⟨Z,_,rfl,.inl ⟨ut eZ,λt ht=>?_⟩⟩;have s3:=sA.trans (s2.trans (u4 ht (.tup (nI (butOne as.length i)))));have et:SqT K (upd H2 t (.tup (nI (butOne as.length i)))) t (nI (butOne as.length i)):=uu Ab;refine⟨_,rfl,_,rfl,_,rfl,z,tl,t,as,butOne as.length i,rfl,hT.same s3,.inr et,ok,z10,λx hx=>(Jv.mp hx).1,λL H4 s4 nL eL=>?_⟩;have qU:=s3.trans s4;obtain⟨xs,tq,a,b,eT,xl,oP,lP,qO,az,bz⟩:=(hT.same qU).get ok (k:=i) (by lia);have aL:=Qg (z:=z) (finA as (butOne as.length i)) (p:=a) (by lia);have GL.b:=Qg (z:=z) (finA as (butOne as.length i)) (p:=b) (by lia);refine⟨_,rfl,_,rfl,_,rfl,tl,_,_,_,rfl,rfl,ut eT,Bg oP,tq,_,_,_,rfl,rfl,lP,at0,L,_,_,_,rfl,rfl,ut eL,aL,_,rfl,_,rfl,_,rfl,tl,_,_,_,rfl,rfl,ut eT,Bg oP,tq,_,_,_,rfl,rfl,lP,at1,L,_,_,_,rfl,rfl,ut eL,GL.b,rfl,?_⟩;have qT:=hV.same qU;refine⟨_,rfl,_,rfl,p,t,_,hd,aT,up (butOne as.length i),rfl,qT.sv,qT.cn.least.ok,qT.cn.knot,.inr (by rw[AAy];exact s4.ts.seq et),λH5 s5=>?_⟩;rw[Kq qT.cn.least.ok qT.cn.knot];have ef:led aT hd (butOne as.length i)=!decide (V.int (finA as (butOne as.length i) a)=V.int (finA as (butOne as.length i) b)):=by
   rw[DV,qT.ld (butOne as.length i) (FI.filter _) λx hx=>(Jv.mp hx).1,AEh zh (by lia) qO,TN,decide_eq_false_iff_not];exact⟨λh e=>h (V.int.inj e),λh e=>h (congrArg V.int e)⟩
  rw[ef];exact⟨_,rfl,rfl,_,rfl,iteNP rfl ⟨_,_,_,_,rfl,qU.trans s5⟩⟩
 .rintro σ HA ⟨o3,o4,o5,o6,rfl,sA⟩
  exact q _ sA
theorem pe_ex{ι:Type}{t:ι->TE}(h:∀i,PE X e (t i)):PE X e (λσ H Q=>∃i,t i σ H Q):=λaS s σ H Q I ⟨i,q⟩=>h i aS s σ H Q I q
structure Wb(K:Au)(C W:Addr)(z:Nat)(as:uK)(H:Hp):Prop where
 web:WebAt K C H W z (as.map srt)
 ok:OkTies (z:Int) as
 z1:1<=z
 z10:z<=10
 a12:as.length<=12
theorem Wb.same{W:Addr}(b:Wb K C W z as H)(e:Same H H'):Wb K C W z as H':=⟨b.web.same e,b.ok,b.z1,b.z10,b.a12⟩
def tGr(K:Au)(C S:Addr)(i:Nat)(t1 t2:TE):TE:=λσ H Q=>∃(W:Addr) (z:Nat) (as:uK) (lo hi:Int),σ[i]?=uA (uA (.ref W))/\(∀R:V->Hp->Prop,R (.int lo) H->t1 σ H R)/\(∀R:V->Hp->Prop,R (.int hi) H->t2 σ H R)/\Wb K C W z as H/\1<=lo/\lo<=hi/\hi<10 ^ 60 /\
 ∀(p:Addr) (aT:List Row) (hd:Nat) (H':Hp),Same H H'->SvC K S p z as lo hi hd aT H'->aT.length<=4000->Q (.ref p) H'
theorem Xf{t1 t2:TE}(h:PE X e (λσ H Q=>∃x:Int×Int,AAt (Pr K C D S x.1 x.2) [] E0 (Ua (AFq i) (Ua (ACN D (Jz K D br) [] E0 (Ua t1 (Ua t2 ADr))) ADr)) σ H Q)):PE X e (tGr K C S i t1 t2):=by
 intro aS s σ H Q I ⟨W,z,as,lo,hi,hW,h1,h2,B,l1,lh,hs,q⟩;refine h aS s σ H Q I ⟨(lo,hi),_,hW,h1 _ (h2 _ λr d nr nd nrd=>?_)⟩;have sp:Same H (upd (upd H d (.own r)) r (.ins D d [])):=λb o e=>by
  rw[Ah (Af e nr),Ah (Af e nd)];exact e
 have bl:(as.map srt).length=as.length:=AB ..;refine⟨r,d,lo,hi,rfl,Ab,sm59 (by lia),sm59 (by lia),λ_ _ H2 k2 hr=>⟨rfl,?_⟩,λc=>uI ⟨l1,lh⟩ c⟩;have s2:Same H H2:=λb o e=>k2 b o (sp b o e) (Af e nr);refine⟨W,r,d,z,as.map srt,rfl,B.web.same s2,hr,B.z1,B.z10,by rw[bl];exact B.a12,AEc B.ok,by lia,λp aT hd H4 s4 hV cn ld r4=>?_⟩;rw[bl] at hV cn ld;exact q p aT hd H4 (s2.trans s4) ⟨hV,cn,ld⟩ r4
theorem La{K:Au}{H:Hp}:∀{ss:List uL}{ys:List V},A1 (K45s.rTies K H) ss ys->A1 (rTup K rInt H) (ss.map up) ys
 | _,_,.nil=>.nil
 | _,_,.cons ⟨p,e,h⟩ t=>.cons ⟨p,_,e,uu h,paired_ints _⟩ (La t)
theorem SvC.one{aT:List Row}(b:SvC K S p z as lo hi hd aT H)(p0:s0.Pairwise (· < ·))(l0:∀x∈s0,x<as.length)(h:∀s:uL,s.Pairwise (· < ·)->(∀x∈s,x<as.length)->(Crw z (as.map srt) lo hi s↔s=s0)):setsOf aT hd=[s0]:=by
 have I:=Ge _ _ rfl b.cn.least.ok _ b.cn.knot;refine I.one λs=>⟨λe=>?_,λe=>?_⟩
 .obtain⟨pw,lt⟩:=I.way s ((I.mem s).mpr e)
  have lt:=λx hx=>(lt x hx).2;exact(h s pw lt).mp ((b.ld s pw lt).mp e)
 .rw[e]
  exact(b.ld s0 p0 l0).mpr ((h s0 p0 l0).mpr rfl)
theorem SvC.no{aT:List Row}(b:SvC K S p z as lo hi hd aT H)(h:∀s:uL,s.Pairwise (· < ·)->(∀x∈s,x<as.length)->¬ Crw z (as.map srt) lo hi s):setsOf aT hd=[]:=by
 have I:=Ge _ _ rfl b.cn.least.ok _ b.cn.knot;refine I.none λs e=>?_;obtain⟨pw,lt⟩:=I.way s ((I.mem s).mpr e);have lt:=λx hx=>(lt x hx).2;exact h s pw lt ((b.ld s pw lt).mp e)
noncomputable abbrev lawN:uT:=["_law_script","_law_many","_law_ties_here","_law_web","_law_cell","_law_full","_law_due","_law_loose"]
structure Bl(K:Au)(C W tl fu:Addr)(z:Nat)(as:uK)(H:Hp):Prop where
 wb:Wb K C W z as H
 tl:TlAt K H tl as
 fu:SqT K H fu (nI (AK as.length))
theorem Bl.same{W tl fu:Addr}(b:Bl K C W tl fu z as H)(e:Same H H'):Bl K C W tl fu z as H':=⟨b.wb.same e,b.tl.same e,e.ts.seq b.fu⟩
theorem mod59(c:Int):∃m:Nat,c%((10:Int) ^ (59:Int).toNat)=(m:Int)/\m<10 ^ 59:=by
 have h0:=EW c (show((10:Int) ^ (59:Int).toNat)≠0 by decide);have h1:=Ev c (show(0:Int)<(10:Int) ^ (59:Int).toNat by decide);have h2:(10:Int) ^ (59:Int).toNat=((10 ^ 59:Nat):Int):=by decide
 rw[h2] at h0 h1 ⊢;exact⟨(c%((10 ^ 59:Nat):Int)).toNat,by lia,by lia⟩
theorem Ly:∀x∈AK n,x<n:=λx hx=>AN.mp hx
theorem Il:FnScope lawN ["_law_script"] (Ai Rm):=fscp (by decide+kernel)
theorem AGY{fE fZ:Addr}{fdE fdZ:BA}(F:Fun K "law" "law" Rm f fd)(T:Txt K mg C)(mS:mg "set" = uB)
  (M:Mk K C fI) (MR:Mk K D fR) (mgR:mg "Crowds" = uA (.ref D))
  (GI:FnOk P w K mg base CX0 3 fI qA zl2 (LR K C)) (bI:Binds K qA zl2 [])
  (GR:FnOk P w K mg base (CXF P w) 1 fR kK ["self","low","high"] (Jz K D br)) (bR:Binds K kK zl18 [])
  (GG:∀lo hi,FnOk P w K mg base CX0 19 fG fdG zl27 (Pr K C D S lo hi)) (bG:Binds K fdG zl27 []) (kG:DU K (.ref fG)=true) (mG:mg "grown" = uA (.ref fG))
  (GE:Cal P w K mg base 2 fE fdE "sets_of" ["sieve"] (K45s.ABH K S))
  (GC:Cal P w K mg base 1 fC tO "_law_cell_at" zl16 (Va K))
  (GZ:Cal P w K mg base 1 fZ fdZ "_law_size" zl17 YC)
  (GT:Cal P w K mg base 2 fT eK "_law_ties" zl32 (Xq K))
  (GL:Cal P w K mg base 1 fL nE "_law_labels" zl30 (Ka K))
  (GH:Cal P w K mg base 2 fH rY "has_set" zl29 (K45s.ACQ K S))
  (GO:Cal P w K mg base 3 fO rX "_law_one_less" zl33 (Om K S))
  (GA:Cal P w K mg base 5 fA pG "_law_all_refused" zl17 TX) :
  FnOk P w K mg base CX0 20 f fd ["_law_script"] (Tc K):=by
 refine F.ok Il (λvs H Q E h=>?_) (λbE A outer s H vs Q E hr h=>?_)
 .obtain⟨a,ns,rfl,_⟩:=h
  rfl
 obtain⟨a,ns,rfl,hS,n63,q⟩:=h;have cS:Room 1 _:=hr.mono (by decide);have gp:Room 2 _:=hr.mono (by decide);have hr3:Room 3 _:=hr.mono (by decide);have mr:Room (3+1) _:=hr.mono (by decide);have hr5:Room 5 _:=hr.mono (by decide);have hrR:Room (1+1) _:=hr.mono (by decide);have n9:Room 19 _:=hr.mono (by decide);obtain⟨t4,h4,q4⟩:∃t,PSs (cxOf CX0 P w K mg base lawN "law" (Ai Rm) f bE A outer s H E).nox ((CP Rm).drop 10) t/\∀(σ:St) (H0:Hp),(∃(a tl W fu:Addr) (dv:V) (z:Nat) (as:uK) (c:Int),σ=[uA (.ref a),uA (.int z),uA (.ref tl),uA (.ref W),uA (.int c),uA (.ref fu),uA dv,uB]/\Bl K C W tl fu z as H0)->t {nx:=λ_ H'=>Q .non H',rt:=Q} σ H0:=by
  refine⟨_,Ae (Am (i:=7) Il.nd (Xf (K:=K) (pe_ex λx:Int×Int=>Ie (GG x.1 x.2) n9 rfl mG kG bG .nil pass0 (Aa (pv 3) (Aa (GF MR GR hrR rfl mgR bR .nil passN (Aa Ag (Aa (Aw Bs (pv 1) (Aw Cy (pv 4) (Aw Vz Ag Ag))) Ad))) Ad)))))
   (Ae (Bv (uZ (Ho (Fg (Ei (Az GH gp rfl (Aa (pv 7) (Aa (pv 5) Ad))))) (Gn (Fg (Ei (Az GH gp rfl (Aa (pv 7) (Aa (Bw Ad) Ad)))))))) (Ak (Av Em)) BP)
   (Ak (Av (Qi (Az GO hr3 rfl (Aa (pv 7) (Aa (pv 1) (Aa (pv 2) Ad)))) (WY (Az GA hr5 rfl (Aa (Aw GQ (pv 4) Ag) Ad))))))),?_⟩
  rintro σ H0 ⟨a,tl,W,fu,dv,z,as,c,rfl,B⟩;obtain⟨m,em,ml⟩:=mod59 c;have z10:=B.wb.z10;refine⟨W,z,as,1,(z:Int)+m,rfl,λR h=>h,λR h=>?_,B.wb,by decide,by have:=B.wb.z1;lia,by lia,λp aT hd H1 s1 Vs r4=>?_⟩
  .refine⟨_,rfl,_,rfl,_,_,rfl,rfl,⟨by decide,by decide,by decide⟩,_,_,rfl,rfl,(by show(0:Int)<10 ^ 59;decide),_,_,rfl,rfl,?_⟩
   show R (V.int ((z:Int)+c%(10:Int) ^ (59:Int).toNat)) H0;rw[em];exact h
  have zh:(z:Int)<=(z:Int)+m:=by lia
  have B1:=B.same s1;refine⟨_,rfl,_,rfl,p,fu,_,hd,aT,up (AK as.length),rfl,Vs.sv,Vs.cn.least.ok,Vs.cn.knot,.inr (by rw[AAy];exact B1.fu),λH2 s2=>?_⟩;rw[Kq Vs.cn.least.ok Vs.cn.knot,(Vs.ld _ FI Ly).mpr ((Mp zh).mpr (by rw[AB];exact Vn))];refine⟨true,rfl,iteF ?_⟩;refine⟨_,rfl,A7 _,λe0 sU=>?_⟩;have s3:=s2.trans (u4 sU (.tup []));have V3:=Vs.same s3;refine⟨p,e0,_,hd,aT,up [],rfl,V3.sv,Vs.cn.least.ok,Vs.cn.knot,.inr (uu Ab),λH4 s4=>?_⟩;rw[Kq Vs.cn.least.ok Vs.cn.knot,(Vs.ld [] .nil (λx hx=>by cases hx)).mpr ((Mp zh).mpr (ZS λx hx=>QF B.wb.ok hx))];refine⟨true,rfl,iteF ?_⟩;have qU:=s3.trans s4;have B4:=B1.same qU;refine⟨_,rfl,_,rfl,_,rfl,p,tl,z,hd,as,aT,(z:Int)+m,rfl,Vs.same qU,B4.tl,B.wb.ok,B.wb.z10,B.wb.a12,zh,λH5 s5=>⟨_,rfl,iteT ?_⟩⟩;exact⟨_,rfl,_,_,rfl,rfl,⟨by decide,by decide⟩,c / 7,rfl,λH6 s6=>q _⟩
 obtain⟨t5,h5,q5⟩:∃t,PSs (cxOf CX0 P w K mg base lawN "law" (Ai Rm) f bE A outer s H E).nox ((CP Rm).drop 6) t/\∀(σ:St) (H0:Hp),(∃(a tl W fu:Addr) (z:Nat) (as:uK) (c:Int),σ=[uA (.ref a),uA (.int z),uA (.ref tl),uA (.ref W),uA (.int c),uA (.ref fu),uB,uB]/\Bl K C W tl fu z as H0)->t {nx:=λ_ H'=>Q .non H',rt:=Q} σ H0:=by
  refine⟨_,Ae (Am (i:=6) Il.nd (Cv Ad))
   (Hx (Bv (Ar Du (Wo rfl rfl T.len rfl mS (Az GL cS rfl (Aa (pv 1) (Aa (pv 2) (Aa (pv 5) Ad))))) Ag) (Ak (Am (i:=6) Il.nd (Cv (Aa (pv 5) Ad)))) BP)
   (Ae (Bv (Ar (Vk (JD Fi) (Cg hr)) (Az GE gp rfl (Aa (Xf (K:=K) (pe_ex λx:Int×Int=>Ie (GG x.1 x.2) n9 rfl mG kG bG .nil pass0 (Aa (pv 3) (Aa (GF MR GR hrR rfl mgR bR .nil passN (Aa (pv 1) (Aa (Aw Bs (pv 1) (Aw Cy (pv 4) (Aw Vz Ag Ag))) Ad))) Ad)))) Ad)) (pv 6)) (Ak (Av Em)) BP)
   (Ae (Bv (Ar (Vk (JD Fi) (Cg hr)) (Az GE gp rfl (Aa (Xf (K:=K) (pe_ex λx:Int×Int=>Ie (GG x.1 x.2) n9 rfl mG kG bG .nil pass0 (Aa (pv 3) (Aa (GF MR GR hrR rfl mgR bR .nil passN (Aa (Aw Bs (pv 1) Ag) (Aa (Aw Bs (Aw Bs (pv 1) Ag) (Aw Cy (pv 4) Ag)) Ad))) Ad)))) Ad)) (Cv Ad)) (Ak (Av Em)) BP)
   h4))),?_⟩
  rintro σ H0 ⟨a,tl,W,fu,z,as,c,rfl,B⟩;obtain⟨m,em,ml⟩:=mod59 c;have z10:=B.wb.z10;have z1:=B.wb.z1;have bl:(as.map srt).length=as.length:=AB ..;have he:∀x,x<(as.map srt).length->_:=λx hx=>QF B.wb.ok hx;refine⟨A7 _,λL0 ky=>?_⟩;have s0:=u4 ky (.lst []);have e0:(upd H0 L0 (.lst [])) L0=uA (.lst []):=Ab;generalize upd H0 L0 (.lst [])=H1 at s0 e0;have B1:=B.same s0;refine⟨λσ' H'=>∃(du:uK) (dv:V),σ'=[uA (.ref a),uA (.int z),uA (.ref tl),uA (.ref W),uA (.int c),uA (.ref fu),uA dv,uB]/\Same H1 H'/\rLst K (rTup K rInt) H' du dv/\((Same1 z (finA as (AK as.length))/\du=[up (AK as.length)])\/(¬ Same1 z (finA as (AK as.length))/\du=[])),?_,?_⟩
  .refine⟨_,rfl,_,rfl,_,rfl,z,tl,fu,as,AK as.length,rfl,B1.tl,.inr B1.fu,B.wb.ok,z10,Ly,λL H2 s2 nL eL=>?_⟩
   refine⟨L,(AK z).map (finA as (AK as.length)),rfl,ut (by rw[eL];unfold lbV;rw[DL];rfl),by rw[AB,A9];lia,λms nd mem=>⟨rfl,_,rfl,?_⟩⟩;have rG:ms.length=1↔Same1 z (finA as (AK as.length)):=Yx z1 nd λr=>by
    rw[mem r,BD];exact⟨λ⟨p,hp,e⟩=>⟨p,AN.mp hp,e⟩,λ⟨p,hp,e⟩=>⟨p,AN.mpr hp,e⟩⟩
   by_cases e1:ms.length=1
   .refine iteP (by rw[e1];rfl) ?_
    refine⟨_,rfl,(by show 1<=sizeLine;decide),λN hN=>?_⟩;have sN:=u4 hN (.lst [V.ref fu]);exact⟨_,_,rfl,s2.trans sN,⟨N,_,rfl,ut Ab,.cons ⟨fu,_,rfl,(s2.trans sN).ts.seq B1.fu,by rw[<- AAy];exact paired_ints _⟩ .nil⟩,.inl ⟨rG.mp e1,rfl⟩⟩
   .refine iteN (λh=>e1 (by injection h with h;lia)) ?_
    exact⟨[],_,rfl,s2,⟨L0,[],rfl,ut (s2 _ _ e0),.nil⟩,.inr ⟨λh=>e1 (rG.mpr h),rfl⟩⟩
  rintro σ' H2 ⟨du,dv,rfl,s2,rd,hdu⟩;have B2:=B1.same s2;refine⟨W,z,as,(z:Int),(z:Int)+m,rfl,λR h=>⟨_,rfl,h⟩,λR h=>?_,B2.wb,by lia,by lia,by lia,λp aT hd H3 s3 Vs r4=>?_⟩
  .refine⟨_,rfl,_,rfl,_,_,rfl,rfl,⟨by decide,by decide,by decide⟩,_,_,rfl,rfl,(by show(0:Int)<10 ^ 59;decide),_,_,rfl,rfl,?_⟩
   show R (V.int ((z:Int)+c%(10:Int) ^ (59:Int).toNat)) H2;rw[em];exact h
  refine⟨p,_,hd,aT,rfl,Vs.sv,Vs.cn.least.ok,Vs.cn.knot,B.wb.a12,r4,λL ys H4 s4 nL eL pL=>?_⟩;have all:∀s:uL,s.Pairwise (· < ·)->(∀x∈s,x<as.length)->(Crw z (as.map srt) (z:Int) ((z:Int)+m) s↔s=AK as.length/\Same1 z (finA as (AK as.length))):=λs pw lt=>by
   refine(AFv he z1 (by lia) pw (by rw[bl];exact lt)).trans ?_;rw[bl]
  have ed:(setsOf aT hd).map up=du:=by
   rcases hdu with⟨h1,h2⟩| ⟨h1,h2⟩
   .rw[h2,Vs.one FI Ly λs pw lt=>(all s pw lt).trans ⟨λh=>h.1,λh=>⟨h,h1⟩⟩]
    rfl
   .rw[h2,Vs.no λs pw lt h=>h1 ((all s pw lt).mp h).2]
    rfl
  have s24:=s3.trans s4;obtain⟨pd,xd,rfl,hpd,prd⟩:=rd;refine⟨_,rfl,_,du,⟨L,ys,rfl,ut eL,La pL⟩,⟨pd,xd,rfl,s24.seq hpd,Paired.imp (λa b r=>Ao Ax _ _ a b s24.ts r) prd⟩,_,rfl,?_⟩;rw[ed,uF (rfl:du=du)];refine iteF ?_;have B4:=B2.same s24;have m3:=EW c (show(3:Int)≠0 by decide);have m4:=Ev c (show(0:Int)<3 by decide);refine⟨W,z,as,(z:Int)+1,(z:Int)+1+c%3,rfl,λR h=>⟨_,rfl,_,_,rfl,rfl,h⟩,λR h=>⟨_,rfl,_,_,rfl,rfl,_,rfl,_,_,rfl,rfl,(by show(0:Int)<3;decide),_,_,rfl,rfl,h⟩,B4.wb,by lia,by lia,by lia,λp2 pQ gE H5 s5 V2 r5=>?_⟩;refine⟨p2,_,gE,pQ,rfl,V2.sv,V2.cn.least.ok,V2.cn.knot,B.wb.a12,r5,λL2 ys2 H6 s6 nL2 eL2 pL2=>?_⟩;have eno:setsOf pQ gE=[]:=V2.no λs _ _=>ADs z1;rw[eno] at pL2;refine⟨A7 _,λN hN=>?_⟩;have sN:=u4 hN (.lst []);have y0:ys2=[]:=by
   cases pL2;rfl
  subst y0;refine⟨[],[],⟨L2,[],rfl,ut (sN _ _ eL2),.nil⟩,⟨N,[],rfl,ut Ab,.nil⟩,_,rfl,?_⟩;refine iteF ?_;exact q4 _ _ ⟨a,tl,W,fu,_,z,as,c,rfl,B4.same (s5.trans (s6.trans sN))⟩
 refine⟨_,Ae (Am (i:=1) Il.nd (Az GZ cS rfl (Aa (Az GC cS rfl (Aa (pv 0) (Aa Ag Ad))) Ad)))
   (Ae (Am (i:=2) Il.nd (Az GT gp rfl (Aa (pv 0) (Aa Ag (Aa (pv 1) Ad)))))
   (Ae (Am (i:=3) Il.nd (GF M GI mr rfl T.mgC bI .nil pass0 (Aa (pv 1) (Aa (pv 2) Ad))))
   (Ae (Am (i:=4) Il.nd (Az GC cS rfl (Aa (pv 0) (Aa Ag Ad))))
   (Ae (Bv (uZ (Ho (Fg (Ei (Az GA hr5 rfl (Aa (pv 4) Ad)))) (Gn (Ar (Vk (JD Fi) (Cg hr)) (Az GE gp rfl (Aa (Xf (K:=K) (pe_ex λx:Int×Int=>Ie (GG x.1 x.2) n9 rfl mG kG bG .nil pass0 (Aa (pv 3) (Aa (GF MR GR hrR rfl mgR bR .nil passN (Aa Ag (Aa Ag Ad))) Ad)))) Ad)) (Cv (Aa (Bw Ad) Ad)))))) (Ak (Av Em)) BP)
   (Ae (Am (i:=5) Il.nd (BL (Gq rfl) rfl T.tuple Cc (Aa (BL Gs rfl T.range LM (Aa (BK Bc rfl T.len DF (Aa (pv 2) Ad)) Ad)) Ad)))
   h5))))),?_⟩
 refine⟨_,rfl,a,ns,0,rfl,hS,by lia,λc0=>⟨c0,rfl,λz z1 z10=>?_⟩⟩;refine⟨_,rfl,_,rfl,a,ns,0,z,rfl,hS,by lia,z1,z10,λtl ts as H1 s1 ntl el pl ok a12=>?_⟩;have lx:=AZ pl;have bl:(as.map srt).length=as.length:=AB ..;refine⟨_,rfl,_,rfl,λW dW nW ndW nWd=>?_⟩;have spW:Same H1 (upd (upd H1 dW (.own W)) W (.ins C dW [])):=λb o e=>by
  rw[Ah (Af e nW),Ah (Af e ndW)];exact e
 refine⟨W,dW,tl,(z:Int),ts,as,rfl,Ab,spW.seq (ut el),Paired.imp (λt x h=>.inr (Ao Ax _ _ _ _ spW.ts h)) pl,ok,a12,by lia,by lia,λH2 k2 hW=>⟨rfl,?_⟩⟩;have s2:Same H1 H2:=λb o e=>k2 b o (spW b o e) (Af e nW);have rR:=(s1.trans s2).seq hS;have qj:TlAt K H2 tl as:=TlAt.same ⟨ts,el,pl⟩ s2;have B2:Wb K C W z as H2:=⟨hW,ok,z1,z10,a12⟩;refine⟨_,rfl,a,ns,2,rfl,rR,by lia,λc=>?_⟩;refine⟨_,rfl,c,rfl,λH3 s3=>⟨true,rfl,iteF ?_⟩⟩;refine⟨W,z,as,1,1,rfl,λR h=>h,λR h=>h,B2.same s3,by decide,by decide,by decide,λp aT hd H4 s4 Vs r4=>?_⟩;refine⟨p,_,hd,aT,rfl,Vs.sv,Vs.cn.least.ok,Vs.cn.knot,a12,r4,λL ys H5 s5 nL eL pL=>?_⟩;have eone:setsOf aT hd=[[]]:=Vs.one .nil (λx hx=>by cases hx) λs _ lt=>AFa (λx hx=>QF ok hx) (by rw[bl];exact lt);rw[eone] at pL;refine⟨A7 _,λT0 hT0=>⟨(by show 1<=sizeLine;decide),λN hN=>?_⟩⟩;have sT:=u4 hT0 (.tup []);have sN:=sT.trans (u4 hN (.lst [V.ref T0]));refine⟨[[]],[[]],⟨L,ys,rfl,ut (sN _ _ eL),Paired.imp (λa b r=>Ao Ax _ _ a b sN.ts r) (La pL)⟩,⟨N,_,rfl,ut Ab,.cons ⟨T0,[],rfl,uu (u4 hN _ _ _ Ab),.nil⟩ .nil⟩,_,rfl,?_⟩;refine iteF ?_;have sA:=s2.trans (s3.trans (s4.trans (s5.trans sN)));refine⟨_,rfl,tl,_,rfl,.inl (ut (sA _ _ el)),_,rfl,λR hR=>⟨R,_,rfl,Ab,by lia,by lia,λt ht=>?_⟩⟩;have s8:=(u4 hR (.rng 0 (ts.length:Nat))).trans (u4 ht (.tup (O2 V.int (below ((ts.length:Nat):Int).toNat))));refine q5 _ _ ⟨a,tl,W,t,z,as,c,rfl,B2.same ((s3.trans (s4.trans (s5.trans sN))).trans s8),qj.same ((s3.trans (s4.trans (s5.trans sN))).trans s8),uu ?_⟩;rw[Ab,Cf,<- lx];unfold below nI;rw[DL];rfl
end K45
namespace L2
open PySem PySem.Spec PyProof.Rows
section
variable{B:As->As->As->Option Addr->As->As->List As->Sem (List (Str×As))}{p q r s:Str}
theorem bn1(h:∀kV ck pm an bE ct a,B kV ck pm an bE ct [a]=pure [(p,a)])(kV ck pm:As)(an:Option Addr)(bE ct:As)(us:List As)(hl:us.length=([p]:uT).length):B kV ck pm an bE ct us=pure (([p]:uT).zip us):=by
 match us,hl with
 | [a],_=>exact h ..
theorem bn2(h:∀kV ck pm an bE ct a b,B kV ck pm an bE ct [a,b]=pure [(p,a),(q,b)])(kV ck pm:As)(an:Option Addr)(bE ct:As)(us:List As)(hl:us.length=([p,q]:uT).length):B kV ck pm an bE ct us=pure (([p,q]:uT).zip us):=by
 match us,hl with
 | [a,b],_=>exact h ..
theorem bn3(h:∀kV ck pm an bE ct a b c,B kV ck pm an bE ct [a,b,c]=pure [(p,a),(q,b),(r,c)])(kV ck pm:As)(an:Option Addr)(bE ct:As)(us:List As)(hl:us.length=([p,q,r]:uT).length):B kV ck pm an bE ct us=pure (([p,q,r]:uT).zip us):=by
 match us,hl with
 | [a,b,c],_=>exact h ..
theorem bn4(h:∀kV ck pm an bE ct a b c d,B kV ck pm an bE ct [a,b,c,d]=pure [(p,a),(q,b),(r,c),(s,d)])(kV ck pm:As)(an:Option Addr)(bE ct:As)(us:List As)(hl:us.length=([p,q,r,s]:uT).length):B kV ck pm an bE ct us=pure (([p,q,r,s]:uT).zip us):=by
 match us,hl with
 | [a,b,c,d],_=>exact h ..
end
section
variable{q:Str}{st:Stmt}
inductive Df (K:Au) (x:Str) (st:Stmt):Prop
 | mk (f:Addr) (od an:Option Addr) (sl:Array (Option As)) (oc kV dc pm cd ct:As) (a:CI K B6 x=uA (uA (.ref f))) (l:K.lookup f=uA ⟨oc,od,.func (E9 x x (Dj st) (CP st) (Ai st) .none kV dc pm an cd ct),sl⟩) (c:Iy K cd x=true) (k:DU K (.ref f)=true):Df K x st
inductive Md (K:Au) (C:Addr) (x q:Str) (st:Stmt):Prop
 | mk (f:Addr) (od an:Option Addr) (sl:Array (Option As)) (oc kV dc pm cd ct:As) (a:C7 K (.ref C) x=uA (uA (.ref f))) (i:ML K (.ref f)=true) (l:K.lookup f=uA ⟨oc,od,.func (E9 x q (Dj st) (CP st) (Ai st) .none kV dc pm an cd ct),sl⟩) (c:Iy K cd q=true) (k:DU K (.ref f)=true):Md K C x q st
inductive DfO (K:Au) (mg:Str->Option As) (x:Str) (st:Stmt) (ps:uT):Prop
 | mk (f:Addr) (fd:BA) (F:Fun K x x st f fd) (b:Binds K fd ps []) (m:mg x=uA (.ref f)) (k:DU K (.ref f)=true):DfO K mg x st ps
inductive MdO (K:Au) (C:Addr) (x q:Str) (st:Stmt) (ps:uT):Prop
 | mk (f:Addr) (fd:BA) (F:Fun K x q st f fd) (b:Binds K fd ps []) (m:Meth K C x f):MdO K C x q st ps
theorem Df.get(D:Df K x st)(X:K.In h)(G:h.Ns B6 mg)(hb:∀(kV ck pm:As) (an:Option Addr) (bE ct:As) (us:List As),us.length=ps.length->UH (E9 x x (Dj st) (CP st) (Ai st) .none kV ck pm an bE ct) ⟨us,[]⟩=pure (ps.zip us)):DfO K mg x st ps:=by
 cases D with
 | mk f od an sl oc kV dc pm cd ct a l c k=>exact⟨f,_,LC l c k,(LC l c k).binds hb,Co X G a,k⟩
theorem Md.get(D:Md K C x q st)(hb:∀(kV ck pm:As) (an:Option Addr) (bE ct:As) (us:List As),us.length=ps.length->UH (E9 x q (Dj st) (CP st) (Ai st) .none kV ck pm an bE ct) ⟨us,[]⟩=pure (ps.zip us)):MdO K C x q st ps:=by
 cases D with
 | mk f od an sl oc kV dc pm cd ct a i l c k=>exact⟨f,_,LC l c k,(LC l c k).binds hb,⟨a,i,k⟩⟩
theorem Df.of{kV:As}(a:CI K B6 x=uA (uA (.ref f)))(l:K.lookup f=uA ⟨oc,od,.func (E9 x x (Dj st) (CP st) (Ai st) .none kV dc pm an cd ct),sl⟩)(c:Iy K cd x=true)(k:DU K (.ref f)=true):Df K x st:=⟨f,od,an,sl,oc,kV,dc,pm,cd,ct,a,l,c,k⟩
theorem Md.of{kV:As}(a:C7 K (.ref C) x=uA (uA (.ref f)))(i:ML K (.ref f)=true)(l:K.lookup f=uA ⟨oc,od,.func (E9 x q (Dj st) (CP st) (Ai st) .none kV dc pm an cd ct),sl⟩)(c:Iy K cd q=true)(k:DU K (.ref f)=true):Md K C x q st:=⟨f,od,an,sl,oc,kV,dc,pm,cd,ct,a,i,l,c,k⟩
structure Kl(K:Au)(n:Str)(D:Addr):Prop where
 y:CI K B6 n=uA (uA (.ref D))
 c:Cls K D
 mk_:MM K D=true
 kp:DU K (.ref D)=true
theorem Kl.of(y:CI K B6 x=uA (uA (.ref C)))(a:Kj K C SR=true)(b:LN K C=true)(c:Oy K C=true)(d:C7 K (.ref C) "__setattr__" = uA (uA (.builtin "object.__setattr__")))(m:MM K C=true)(k:DU K (.ref C)=true):Kl K x C:=⟨y,⟨a,b,c,d⟩,m,k⟩
def Nn(K:Au):uT->Prop
 | []=>True
 | x::l=>CI K B6 x=uA uB/\Nn K l
def Na(K:Au)(C:Addr):uT->Prop
 | []=>True
 | x::l=>C7 K (.ref C) x=uA uB/\Na K C l
theorem Nn.one{l:uT}(a:CI K B6 x=uA uB)(b:Nn K l):Nn K (x::l):=⟨a,b⟩
theorem Na.one{l:uT}(a:C7 K (.ref C) x=uA uB)(b:Na K C l):Na K C (x::l):=⟨a,b⟩
end
end L2
namespace PySem.W.Fast
def tw222802429254088614:=True
def tw3151051939308217338:=True
def tw12781122721380921246:=True
def tw17568392117683923291:=True
def tw5455484304288087674:=True
def tw15907799523166668127:=True
def tw11586114909502859624:=True
def tw13965049239625584115:=True
def tw18305270886025303427:=True
def tw17685726957264904714:=True
def tw6034777896171619722:=True
def tw11207593165277578004:=True
def tw6860782106806900419:=True
def tw13866876962249603120:=True
def tw15345785053572794352:=True
def tw10673303536413307174:=True
def tw3006305935041904729:=True
def tw9514012808173398771:=True
def tw1977986545719573035:=True
def tw17378633267052607806:=True
def tw4011263516205649813:=True
def tw11131178054324438896:=True
def tw9044977751501830283:=True
def tw13728488508402370271:=True
def tw7487045466092525138:=True
def tw5180924854714125656:=True
def tw16771875456446072684:=True
def tw3663354854195926871:=True
def tw6049841389752577795:=True
def tw9691240277963879632:=True
def tw6268989833317192040:=True
def tw14952609438626510874:=True
def tw927572714085864428:=True
def tw8590489324000869478:=True
def tw4743318495681590021:=True
def tw115007488827998167:=True
def tw17689888758115920974:=True
def tw5193083786769125735:=True
def tw16567621619190894138:=True
def tw1590475826934694177:=True
def tw10293229291037234207:=True
def tw8140154390759667045:=True
def tw4738002716811260459:=True
def tw11298783247454260667:=True
def tw15764426315453547648:=True
def tw8576184710925088953:=True
def tw9987846140720368466:=True
def tw10849957697706977739:=True
def tw3503405918103131604:=True
def tw3169659983543246494:=True
def tw18385556420088988671:=True
def tw7833853849482862775:=True
def tw17315029735642920531:=True
def tw9156787914323561208:=True
def tw16009158558688759202:=True
def tw11169873533318982157:=True
def tw8685560450188172545:=True
def tw3219186237597462460:=True
def tw7121094676041805492:=True
def tw15337404328971298317:=True
def tw10050225848723165332:=True
def tw10078344572573368144:=True
def tw10098388377651843685:=True
def tw10122756232131814193:=True
def tw10129119953948350581:=True
def tw10142480478605652148:=True
def tw10184512161877626093:=True
def tw1022809359282671353:=True
def tw1042494022695110720:=True
def tw10535079888016558335:=True
def tw10571914704419338509:=True
def tw10732258402714389126:=True
def tw10752902025420851172:=True
def tw1080283046400522649:=True
def tw10995553442858273114:=True
def tw1109920114025055591:=True
def tw11112123231842401580:=True
def tw11138746299539043732:=True
def tw11169050051717912263:=True
def tw11187513964759054457:=True
def tw11199019522498609782:=True
def tw11219182357695410862:=True
def tw11241355372792946617:=True
def tw11273443028026851342:=True
def tw11274084818048130065:=True
def tw11356664943053743776:=True
def tw11416629717079924219:=True
def tw1154249325271920124:=True
def tw11600939429889733663:=True
def tw11666399268526857739:=True
def tw1172315589517007527:=True
def tw11760296346026610239:=True
def tw11785936299215401378:=True
def tw11832057407275074257:=True
def tw11942344552870490675:=True
def tw11988128567440566545:=True
def tw12035309087021971135:=True
def tw1204371656507127066:=True
def tw12085206818310526405:=True
def tw12091585983560645966:=True
def tw12133456830770386258:=True
def tw12135718719424265289:=True
def tw1214877875762393067:=True
def tw12158290132865109892:=True
def tw12205336377288948244:=True
def tw12467647763883590957:=True
def tw12523807376184604314:=True
def tw12584556664332811650:=True
def tw12613108406687694496:=True
def tw12648331614659867099:=True
def tw12699465648613663235:=True
def tw12704604989032798707:=True
def tw12984680694912403369:=True
def tw12999544230334574446:=True
def tw13020822242568370494:=True
def tw13044982016095295167:=True
def tw13099377771094695443:=True
def tw13146412613807727385:=True
def tw13187998068007991674:=True
def tw13279810055264186386:=True
def tw13311164524682036734:=True
def tw13452252675289416182:=True
def tw13477591053021482995:=True
def tw13617466901046674772:=True
def tw13688208851066363492:=True
def tw13696819226635266057:=True
def tw13837917785551400236:=True
def tw13849803842199369934:=True
def tw13864766498589149148:=True
def tw13942269390385332045:=True
def tw14087008451733474696:=True
def tw14143957442946475911:=True
def tw14160615258726679912:=True
def tw14281687964042933033:=True
def tw14292906721439661337:=True
def tw14501522936033688471:=True
def tw14507976731117766602:=True
def tw14656633852340050933:=True
def tw14864581210340970182:=True
def tw14972808555504104719:=True
def tw1499323559882996137:=True
def tw15025089898917058825:=True
def tw15124762385378945404:=True
def tw15201449278918441912:=True
def tw15300666252067276202:=True
def tw15505375748090233498:=True
def tw15520443765868844157:=True
def tw15560853751045256488:=True
def tw15567575920970769257:=True
def tw15660230730979859304:=True
def tw15663207665443974896:=True
def tw15725004825971441386:=True
def tw15740663075814196842:=True
def tw15800306471218321288:=True
def tw15811364206859936504:=True
def tw15827404656189878678:=True
def tw15835656540119225764:=True
def tw16035986351907420731:=True
def tw16080592069499766917:=True
def tw16155254533204328322:=True
def tw1617409036454666005:=True
def tw16257432919758089101:=True
def tw16269529241089507002:=True
def tw1630967888448114037:=True
def tw16384482902878766935:=True
def tw16487374215007066930:=True
def tw16509292595270424795:=True
def tw16517211613283254584:=True
def tw16654160317257396976:=True
def tw16738114691495444615:=True
def tw16752782000961216890:=True
def tw16782713093543279277:=True
def tw16818496536047837250:=True
def tw16922896643746996031:=True
def tw17005419006929634167:=True
def tw17050834433941393031:=True
def tw17073574427702631228:=True
def tw17227939571246246550:=True
def tw17505242101531309533:=True
def tw17534254055350731548:=True
def tw17598291567489328646:=True
def tw176029933368431199:=True
def tw17620938628993901600:=True
def tw17661753967536164951:=True
def tw17731127071923523213:=True
def tw17748272687514008247:=True
def tw18131413030865368164:=True
def tw18140452214133934710:=True
def tw18162619299413451235:=True
def tw18237928356873774480:=True
def tw18264577774654464008:=True
def tw18324881856627810547:=True
def tw18407982124132158153:=True
def tw18413163353487561271:=True
def tw18423293650134096249:=True
def tw1951258353341415346:=True
def tw217507844065771026:=True
def tw2198329585672083072:=True
def tw2257413740823173818:=True
def tw2307402940654529292:=True
def tw2396617028757367449:=True
def tw2411167043154553990:=True
def tw2417330438451682828:=True
def tw24747166554333807:=True
def tw2496290203450168769:=True
def tw253731832745459711:=True
def tw2561636208616395632:=True
def tw260697425772930547:=True
def tw2622468047431641473:=True
def tw266263863350229230:=True
def tw2694840584714274991:=True
def tw2739371442733938355:=True
def tw2744041119203542758:=True
def tw2807494452020213162:=True
def tw3082159605176593696:=True
def tw3197230824514704499:=True
def tw3216676497184311568:=True
def tw323192575647726776:=True
def tw3232002588179326023:=True
def tw3306893762483197595:=True
def tw331003793687946451:=True
def tw3323627681199418197:=True
def tw377569436620015769:=True
def tw3846724268623022061:=True
def tw3886706282910328618:=True
def tw3945389496509481448:=True
def tw4154426378704268840:=True
def tw4178700552082159210:=True
def tw4187849073125978384:=True
def tw4209338513183822047:=True
def tw425075590552111191:=True
def tw4265416153010614518:=True
def tw4330314475980170692:=True
def tw4396328052310521328:=True
def tw4424693220413834821:=True
def tw4571069609580740228:=True
def tw4586783433132693614:=True
def tw4661738245373068602:=True
def tw4712563304068708093:=True
def tw4738563046567277443:=True
def tw4789796751282805007:=True
def tw4812385949815508442:=True
def tw4958073535204458975:=True
def tw5067767346992824475:=True
def tw5069458759154119378:=True
def tw5073571079805541374:=True
def tw5128122830012765084:=True
def tw5247926956746550166:=True
def tw534828414139705210:=True
def tw543630814193082713:=True
def tw5438240033024446462:=True
def tw5491955358674145140:=True
def tw5578166601311692831:=True
def tw5629684450660619722:=True
def tw5670107776491796554:=True
def tw5683987569054376969:=True
def tw606640056607562657:=True
def tw613474024457941333:=True
def tw6144226059059259468:=True
def tw616436075818779307:=True
def tw6169795240516479213:=True
def tw6196597691529191828:=True
def tw6207813228522396432:=True
def tw6276400532452706505:=True
def tw6350879134443755997:=True
def tw6394611381536892645:=True
def tw640334517639370848:=True
def tw6420421703094038846:=True
def tw6487351093185943985:=True
def tw6496624626994579270:=True
def tw6624384504033586013:=True
def tw6639977047614059469:=True
def tw6656821488949513753:=True
def tw667761942258492140:=True
def tw6688670800002077064:=True
def tw6761390855971860171:=True
def tw6822144767762584657:=True
def tw6884795041524973361:=True
def tw6907609002408463327:=True
def tw6955965503415693533:=True
def tw6957019958974043355:=True
def tw6981400080025527411:=True
def tw69888778211057612:=True
def tw7021701046836507302:=True
def tw7039189412409410289:=True
def tw7047446946459868364:=True
def tw7295229315729968503:=True
def tw7413005043375797322:=True
def tw7521321984530016926:=True
def tw7541526295221118816:=True
def tw7566282709818750416:=True
def tw7602249264950092500:=True
def tw7638986612677957097:=True
def tw7647196572015070671:=True
def tw7743453597642314424:=True
def tw7749065358941521263:=True
def tw7770990493799712707:=True
def tw7873465132682921677:=True
def tw8109290768303823450:=True
def tw8257791380908403225:=True
def tw846996361458478805:=True
def tw8498045770473914754:=True
def tw8503597084788076338:=True
def tw8522106896937194587:=True
def tw8542731417207664966:=True
def tw8607235804555164516:=True
def tw8783309684869774687:=True
def tw8791624382726490881:=True
def tw8868642343868584350:=True
def tw9217130403529383728:=True
def tw9218747801809986471:=True
def tw9567772052333516504:=True
def tw9591505392102777988:=True
def tw9685362821866706663:=True
def tw9752942848534607465:=True
def tw9755135033989660346:=True
def tw9769880450965737815:=True
def tw9831770400414258442:=True
def tw9887572994970751780:=True
def tw9942691013474474986:=True
end PySem.W.Fast
namespace K45
open PySem L2 G
theorem all_mk{l:Pm}{Sv Gw:Addr}(X:K.In h)(G:h.Ns B6 mg)(hfa:mg "law" = uA (.ref fa))
  (U_C:Kl K "Web" C) (U_D:Kl K "Crowds" D) (U_Sv:Kl K "Sieve" Sv) (U_Gw:Kl K "Growth" Gw) (h_init:Md K C "__init__" "Web.__init__" Lb) (h_size:Md K C "size" "Web.size" ABZ) (h_ties:Md K C "ties" "Web.ties" ADG) (h_at:Md K C "at" "Web.at" sAt) (h_amt:Df K "refuse_amounts" AGV) (h_chk:Df K "checked_ties" AGD) (h_pts:Df K "refuse_points" AFe) (h_cell:Df K "_law_cell_at" ABt) (h_mix:Df K "_law_mixed" AFf) (h_under:Df K "points_under" Pn) (h_heads:Df K "heads_without" Kp) (h_asone:Df K "parts_as_one" Py) (h_headsof:Df K "heads_of" Ip) (h_pairr:Df K "pair_renamed" Qc) (h_ren:Df K "renamed" Hw) (h_apart:Df K "apart_without" QD) (h_graph:Df K "least_graph" K45s.Lh) (h_reach:Df K "reached_knots" K45s.QW) (h_in:Df K "row_in_places" K45s.sIn) (h_sets:Df K "sets_of" K45s.XM) (h_has:Df K "has_set" K45s.AGZ) (h_grown:Df K "grown" Vf) (h_behp:Df K "points_behind" KR) (h_sizel:Df K "_law_size" Uw) (h_tiesl:Df K "_law_ties" Hs) (h_lab:Df K "_law_labels" Ju) (h_ref:Df K "_law_refused" Mi) (h_allr:Df K "_law_all_refused" QG) (h_one:Df K "_law_one_less" Ih) (h_law:Df K "law" Rm) (h_cinit:Md K D "__init__" "Crowds.__init__" Wx) (h_begun:Md K D "begun" "Crowds.begun" Ve) (h_taken:Md K D "taken" "Crowds.taken" Pu) (h_passed:Md K D "passed" "Crowds.passed" Iv) (h_ful:Md K D "fulfilled" "Crowds.fulfilled" AGg) (h_left:Md K D "left" "Crowds.left" ACS) (h_sinit:Md K Sv "__init__" "Sieve.__init__" K45s.Lb) (h_knots:Md K Sv "knots" "Sieve.knots" K45s.Vh) (h_stop:Md K Sv "top" "Sieve.top" K45s.AFo) (h_ginit:Md K Gw "__init__" "Growth.__init__" Qy) (h_knotat:Md K Gw "knot_at" "Growth.knot_at" KD) (h_past:Md K Gw "past_points" "Growth.past_points" ACT) (N_C:Na K C ["amount","joints"]) (N_Sv:Na K Sv ["amount","rows","head"]) (N_D:Na K D ["low","high"]) (N_Gw:Na K Gw ["web","rule","amount","behind","rows","known"]) (N_N:Nn K ["len","range","int","max","min","sorted","tuple","list","bool","enumerate","isinstance","all","set","reversed","zip","ValueError"]) {t0:Tok} (v0:CI K B6 "MOST_POINTS" = uA (uA (.int 10 t0))) {t1:Tok} (v1:CI K B6 "MOST_TIES" = uA (uA (.int 12 t1))) {ak:Addr} (lW:CI K B6 "FrontError" = uA (uA (.ref ak))) {aB:Addr} (lX:CI K B6 "TooMany" = uA (uA (.ref aB))) {aC:Addr} (lY:CI K B6 "NoSet" = uA (uA (.ref aC))) {aD:Addr} (lZ:CI K B6 "BadKnots" = uA (uA (.ref aD))) {aj:Addr} (gY:CI K B6 "BadRule" = uA (uA (.ref aj))) {aF:Addr} (mj:CI K B6 "BadTie" = uA (uA (.ref aF))) {aG:Addr} (mq:CI K B6 "NoKnot" = uA (uA (.ref aG))) {aH:Addr} (mz:CI K B6 "NoName" = uA (uA (.ref aH))) {aJ:Addr} (mC:CI K B6 "NoNumber" = uA (uA (.ref aJ))) {aK:Addr} (mF:CI K B6 "NoOrder" = uA (uA (.ref aK))) {aM:Addr} (mH:CI K B6 "NoRow" = uA (uA (.ref aM))) {aN:Addr} (mJ:CI K B6 "NoText" = uA (uA (.ref aN))) {aO:Addr} (mO:CI K B6 "NoTie" = uA (uA (.ref aO))) {aP:Addr} (mQ:CI K B6 "NoWeights" = uA (uA (.ref aP))) {aQ:Addr} (mR:CI K B6 "Twice" = uA (uA (.ref aQ))) {aR:Addr} (mV:CI K B6 "Unlike" = uA (uA (.ref aR))) (mW:QH K (.ref ak)=uA (.type "type")) (mX:V4 K ak=true) (mY:N5 K (.ref ak) (.type "BaseException")=uA true) (mZ:C7 K (.ref aj) "__getattribute__" = uA (uA (.builtin "BaseException.__getattribute__"))) (m7:C7 K (.ref aj) "__getattr__" = (uA uB)) (m8:C7 K (.ref aj) "__class__" = uA (uA (.builtin "object.__class__"))) (m9:Xs K aj (.type "object")=uA true) (nC:Xs K aj (.type "BaseException")=uA true) (nF:V4 K aj=true) (nG:N5 K (.ref aj) (.ref ak)=uA true) (nM:NH K (.ref aj) (.ref aj)=uA true) (oX:NH K (.ref aj) (.type "ValueError")=uA true) (nO:NI K (.ref aj) [.ref aD,.ref aF,.ref aG,.ref aJ,.ref aK,.ref aM,.ref aC,.ref aN]=uA false) (nQ:NI K (.ref aj) [.ref aH,.ref aO,.ref aP,.ref aB,.ref aQ,.ref aR]=uA false) (nZ:KF K aj [.type "ValueError",.type "Exception",.type "BaseException",.type "object"] "ValueError.__new__" = true) :
  ∃fd:BA,(∀(s:AA) (v:As),QI s fd ⟨[v],[]⟩ [("_law_script",v)])/\∀base:Heap,K.In base->base.Ns B6 mg->FnOk l.prog w K mg base CX0 20 fa fd ["_law_script"] (Tc K):=by
 obtain⟨_,_,gZ,g8,bO⟩:=h_init.get (ps:=["self","many","ties"]) (bn3 (by intros;rfl));obtain⟨_,_,iu,bQ,m_size⟩:=h_size.get (ps:=["self"]) (bn1 (by intros;rfl));obtain⟨_,_,iw,aU,aV⟩:=h_ties.get (ps:=["self"]) (bn1 (by intros;rfl));obtain⟨_,_,oh,ou,oA⟩:=h_at.get (ps:=["self","point"]) (bn2 (by intros;rfl));obtain⟨_,_,jN,jO,jP,jQ⟩:=h_amt.get X G (ps:=["points","ties"]) (bn2 (by intros;rfl));obtain⟨_,_,jR,jT,jU,jV⟩:=h_chk.get X G (ps:=["many","ties"]) (bn2 (by intros;rfl));obtain⟨_,_,jW,jX,jY,jZ⟩:=h_pts.get X G (ps:=["many","tie"]) (bn2 (by intros;rfl));obtain⟨_,_,iB,bV,bW,bY⟩:=h_cell.get X G (ps:=["_law_script","_law_k"]) (bn2 (by intros;rfl));obtain⟨_,_,j4,j5,j6,j7⟩:=h_mix.get X G (ps:=["_law_cell","_law_k"]) (bn2 (by intros;rfl));obtain⟨_,_,dj,aZ,bf,bw⟩:=h_under.get X G (ps:=["heads","head"]) (bn2 (by intros;rfl));obtain⟨_,_,dz,dB,dD,dF⟩:=h_heads.get X G (ps:=["state","point"]) (bn2 (by intros;rfl));obtain⟨_,_,dG,dH,dI,dJ⟩:=h_asone.get X G (ps:=["heads","one","other"]) (bn3 (by intros;rfl));obtain⟨_,_,bZ,aq,au,aA⟩:=h_headsof.get X G (ps:=["heads","tie"]) (bn2 (by intros;rfl));obtain⟨_,_,dM,dN,dO,dR⟩:=h_pairr.get X G (ps:=["pair","old","new"]) (bn3 (by intros;rfl));obtain⟨_,_,j8,cN,cO,cP⟩:=h_ren.get X G (ps:=["apart","old","new"]) (bn3 (by intros;rfl));obtain⟨_,_,dU,dX,dZ,d8⟩:=h_apart.get X G (ps:=["apart","point","rest"]) (bn3 (by intros;rfl));obtain⟨_,_,d9,eE,eF,eG⟩:=h_graph.get X G (ps:=["n","rows","top"]) (bn3 (by intros;rfl));obtain⟨_,_,eN,eO,eU,eV⟩:=h_reach.get X G (ps:=["rows","top"]) (bn2 (by intros;rfl));obtain⟨_,_,oE,oF,oG,k_in⟩:=h_in.get X G (ps:=["places","row"]) (bn2 (by intros;rfl));obtain⟨_,_,iC,iD,iG,iH⟩:=h_sets.get X G (ps:=["sieve"]) (bn1 (by intros;rfl));obtain⟨_,_,j9,cQ,cR,cU⟩:=h_has.get X G (ps:=["sieve","some"]) (bn2 (by intros;rfl));obtain⟨_,_,eX,fj,fD,fQ⟩:=h_grown.get X G (ps:=["web","rule"]) (bn2 (by intros;rfl));obtain⟨_,_,iI,iJ,iK,iM⟩:=h_behp.get X G (ps:=["web","number"]) (bn2 (by intros;rfl));obtain⟨_,_,fV,fW,fX,fY⟩:=h_sizel.get X G (ps:=["_law_cell"]) (bn1 (by intros;rfl));obtain⟨_,_,f9,gj,gk,gn⟩:=h_tiesl.get X G (ps:=["_law_script","_law_at","_law_many"]) (bn3 (by intros;rfl));obtain⟨_,_,kj,cV,cW,cX⟩:=h_lab.get X G (ps:=["_law_many","_law_ties_here","_law_some"]) (bn3 (by intros;rfl));obtain⟨_,_,kE,kI,kJ,kO⟩:=h_ref.get X G (ps:=["_law_low","_law_high"]) (bn2 (by intros;rfl));obtain⟨_,_,iQ,iR,iT,iU⟩:=h_allr.get X G (ps:=["_law_cell"]) (bn1 (by intros;rfl));obtain⟨_,_,kW,kY,kZ,k_one⟩:=h_one.get X G (ps:=["_law_sieve","_law_many","_law_ties_here"]) (bn3 (by intros;rfl));obtain⟨_,_,gq,bx,ao⟩:=h_cinit.get (ps:=["self","low","high"]) (bn3 (by intros;rfl));obtain⟨_,_,gw,gA,gC⟩:=h_begun.get (ps:=["self","web"]) (bn2 (by intros;rfl));obtain⟨_,_,gF,gG,gH⟩:=h_taken.get (ps:=["self","web","state","number"]) (bn4 (by intros;rfl));obtain⟨_,_,cF,cG,cH⟩:=h_passed.get (ps:=["self","web","state","point"]) (bn4 (by intros;rfl));obtain⟨_,_,lg,lu,lA⟩:=h_ful.get (ps:=["self","web","state"]) (bn3 (by intros;rfl));obtain⟨_,_,iV,iW,iY⟩:=h_left.get (ps:=["self","web","state","number"]) (bn4 (by intros;rfl));obtain⟨_,_,gJ,gK,bC⟩:=h_sinit.get (ps:=["self","n","rows","head"]) (bn4 (by intros;rfl));obtain⟨_,_,gM,bD,bF⟩:=h_knots.get (ps:=["self"]) (bn1 (by intros;rfl));obtain⟨_,_,iZ,cj,cu⟩:=h_stop.get (ps:=["self"]) (bn1 (by intros;rfl));obtain⟨_,_,gO,gP,bH⟩:=h_ginit.get (ps:=["self","web","rule"]) (bn3 (by intros;rfl));obtain⟨_,_,cI,aW,aX⟩:=h_knotat.get (ps:=["self","number","reached"]) (bn3 (by intros;rfl));obtain⟨_,_,jc,jd,je⟩:=h_past.get (ps:=["self","number","reached"]) (bn3 (by intros;rfl));obtain⟨n0,n1,_⟩:=N_C;obtain⟨cJ,jf,jg,_⟩:=N_Sv;obtain⟨lC,jk,_⟩:=N_D;obtain⟨lD,jo,cL,cM,jq,gQ,_⟩:=N_Gw;obtain⟨z0,z1,z2,z3,z4,z5,z6,z7,z8,z9,z10,lE,cY,bJ,lF,oH,_⟩:=N_N;obtain⟨_,_,_,_,_,_,_,_,_,_,lG,lH,lJ,lK⟩:=h_law;have e:=hfa.symm.trans (Co X G lG);cases e;have lM:=LC (st:=Rm) lH lJ lK;have law_all:∀base:Heap,FnOk l.prog w K mg base CX0 20 _ _ ["_law_script"] (Tc K):=λbase=>by
  have T:Txt K mg C:=⟨U_C.c,n0,n1,Co X G U_C.y,⟨_,Co X G v0⟩,⟨_,Co X G v1⟩,BG X G z0,BG X G z1,BG X G z2,BG X G z3,BG X G z4,BG X G z5,BG X G z6,BG X G z7,BG X G z8,BG X G z9,BG X G z10⟩;have cZ:=AEX (P:=l.prog) (w:=w) (base:=base) iB T;have oJ:=AFu (P:=l.prog) (w:=w) (mg:=mg) (base:=base) j4;have oK:=AGQ (P:=l.prog) (w:=w) (base:=base) jN T;have oM:=AGf (P:=l.prog) (w:=w) (mg:=mg) (base:=base) jW;have oN:=AFh jR T ⟨oM,jX,jZ,jY⟩;have lN:=IV gZ T ⟨oK,jO,jQ,jP⟩ ⟨oN,jT,jV,jU⟩;have c7:=AEm (P:=l.prog) (w:=w) (base:=base) iu T;have bM:=AEw (P:=l.prog) (w:=w) (base:=base) iw T;have oY:=AGq (P:=l.prog) (w:=w) (base:=base) oh T;have TS:K45s.Txt K mg Sv:=⟨U_Sv.c,cJ,jf,jg,Co X G U_Sv.y,BG X G z0,BG X G z1,BG X G z2,BG X G z5,BG X G cY,BG X G z6,BG X G z7,BG X G z8,BG X G z9,BG X G lE,BG X G z10,BG X G z4,BG X G bJ⟩;have N:XN mg (Cs.mk ak aB aC aD aj aF aG aH aJ aK aM aN aO aP aQ aR):=⟨Co X G lW,Co X G lX,Co X G lY,Co X G lZ,Co X G gY,Co X G mj,Co X G mq,Co X G mz,Co X G mC,Co X G mF,Co X G mH,Co X G mJ,Co X G mO,Co X G mQ,Co X G mR,Co X G mV,BG X G oH⟩;have W:XW K (Cs.mk ak aB aC aD aj aF aG aH aJ aK aM aN aO aP aQ aR):=⟨⟨mZ,m7,m8,m9,nC,nF⟩,⟨mW,mX,mY,nG⟩,nM,oX,nO,nQ⟩;have cD:Crd K D:=⟨U_D.c,lC,jk⟩;have hJ:=BG X G cY;have O:Gro K mg Gw:=⟨U_Gw.c,Co X G U_Gw.y,lD,jo,cL,cM,jq,gQ⟩;have cA:=ACu (P:=l.prog) (w:=w) (base:=base) dj T;have jr:=ABS dz T ⟨cA,aZ,bw,bf⟩;have ju:=ACn (P:=l.prog) (w:=w) (base:=base) dG T;have aY:=VL (P:=l.prog) (w:=w) (base:=base) bZ T;have jx:=ACs (P:=l.prog) (w:=w) (base:=base) dM T;have jy:=Wd j8 T hJ ⟨jx,dN,dR,dO⟩;have jA:=ACv dU T ⟨jy,cN,cP,cO⟩;have jB:=ADL gw T c7 bQ m_size;have jC:=λlo hi=>ACm (lo:=lo) (hi:=hi) gF T cD (BG X G lF) ⟨aY,aq,aA,au⟩ bM aU aV ⟨ju,dH,dJ,dI⟩ ⟨jy,cN,cP,cO⟩;have gU:=λlo hi=>Yt (lo:=lo) (hi:=hi) cF T cD ⟨cA,aZ,bw,bf⟩ ⟨jr,dB,dF,dD⟩ ⟨jA,dX,d8,dZ⟩;have oO:=λlo hi=>AFm (lo:=lo) (hi:=hi) (P:=l.prog) (w:=w) (mg:=mg) (base:=base) lg;have lQ:=λlo hi=>AEZ (D:=D) (lo:=lo) (hi:=hi) iV T hJ ⟨aY,aq,aA,au⟩ bM aU aV;have cB:=ABl (P:=l.prog) (w:=w) (base:=base) (br:=aj) gq cD ⟨Co X G gY,nZ⟩;have jD:=K45s.IV (P:=l.prog) (w:=w) (base:=base) gJ TS;have cC:=K45s.ACV (P:=l.prog) (w:=w) (base:=base) gM TS;have dh:=K45s.AGF (P:=l.prog) (w:=w) (base:=base) iZ TS;have oZ:=K45s.AHC (P:=l.prog) (w:=w) (mg:=mg) (base:=base) oE;have jE:=K45s.ABb (P:=l.prog) (w:=w) (base:=base) eN TS;have jF:=K45s.ACa d9 TS ⟨U_Sv.mk_,bC.at_,bC.fn,U_Sv.kp⟩ ⟨jE,eO,eV,eU⟩ ⟨oZ,oF,k_in,oG⟩ jD gK;have lR:=K45s.AEa iC TS cC bD bF dh cj cu;have jG:=K45s.AFg j9 TS cC bD bF dh cj cu;have lU:=AFI iI T c7 bQ m_size oY ou oA;have jH:=λlo hi=>ACR (u:=uC lo hi) (D:=D) gO T O bM aU aV ⟨lU,iJ,iM,iK⟩;have lV:=λlo hi=>ADx (C:=C) jc cD.cl O (gU lo hi) cG cH;have gW:=λlo hi=>Ox cI T cD.cl O (lV lo hi) jd je (lQ lo hi) iW iY (jC lo hi) gG gH (oO lo hi) lu lA aW aX;have jJ:=λlo hi=>ABT eX cD.cl O ⟨U_Gw.mk_,bH.at_,bH.fn,U_Gw.kp⟩ (jH lo hi) gP (gW lo hi) aW aX jB gA gC ⟨jF,eE,eG,eF⟩;have jK:=AAw (P:=l.prog) (w:=w) (mg:=mg) (base:=base) fV;have jL:=ACh f9 T ⟨cZ,bV,bY,bW⟩ ⟨oJ,j5,j7,j6⟩;have jM:=Zv (P:=l.prog) (w:=w) (base:=base) kj T;have oR:=Vw (c:=(Cs.mk ak aB aC aD aj aF aG aH aJ aK aM aN aO aP aQ aR)) kE T N W ⟨U_D.mk_,ao.at_,ao.fn,U_D.kp⟩ (Co X G U_D.y) cB bx;have oU:=Yz iQ ⟨oR,kI,kO,kJ⟩;have oW:=Uz kW T ⟨jM,cV,cX,cW⟩ ⟨jG,cQ,cU,cR⟩;exact AGY lM T hJ ⟨U_C.mk_,bO.at_,bO.fn,U_C.kp⟩ ⟨U_D.mk_,ao.at_,ao.fn,U_D.kp⟩ (Co X G U_D.y) lN g8 cB bx jJ fj fQ fD ⟨lR,iD,iH,iG⟩ ⟨cZ,bV,bY,bW⟩ ⟨jK,fW,fY,fX⟩ ⟨jL,gj,gn,gk⟩ ⟨jM,cV,cX,cW⟩ ⟨jG,cQ,cU,cR⟩ ⟨oW,kY,k_one,kZ⟩ ⟨oU,iR,iU,iT⟩
 exact⟨_,λs v=>.of_eq rfl,λbase _ _=>law_all base⟩
theorem walk{l:Pm}{q:AJ}{XP:(Str->Option As)->Heap->Prop}{d:DefRec}{K:YU->Au}(hn:l.most=uA 63)(rQ:d.params.defaults=[])
  (hY:∀(w:AQ) (h:Heap),YP w h->(K w.params).In h)
  (F:∀(w:AQ) (mg:Str->Option As) (fa:Addr) (h:Heap),(K w.params).In h->h.Ns B6 mg->mg d.name=uA (.ref fa) ->
   ∃fd:BA,(∀(s:AA) (u:As),QI s fd ⟨[u],[]⟩ [("_law_script",u)])/\∀base:Heap,(K w.params).In base->base.Ns B6 mg->FnOk l.prog w (K w.params) mg base CX0 20 fa fd ["_law_script"] (Tc (K w.params))) :
  WZ q fh XP YP l.row.toRowW d [] (λf vs=>U7 f vs) :=
 L2.ADq (n:=63) (k:=20) (x:="_law_script") (CX:=λ_=>CX0) (sp:=λw=>Tc (K w.params)) hn (by decide) rQ ⟨rfl,by decide,by decide,rfl⟩ hY F (λ_ _ a ns hl _ hS=>⟨a,ns,rfl,hS,hl,λ_=>rfl⟩) λ_ _ _ _ _ z=>z
end K45
open PySem PySem.W PyProof.Rows
set_option maxRecDepth 100000 in
set_option maxHeartbeats 0 in
theorem PySem.Challenge.cw_frontways_k45_crowds_at_the_edges_holds : PySem.Challenge.rw_frontways_k45_crowds_at_the_edges.Holds := by
 w_on;o_law;k_head;(case hw=>w_witness2)
 k_fill
 refine K45.walk (l:=PySem.Challenge.rw_frontways_k45_crowds_at_the_edges) rfl rfl (λw h Y=>PySem.W.kIn_of Y) ?F
 case F =>
  intro w mg fa h KX G hmg;apply K45.all_mk KX G hmg
  all_goals first
   | (refine' L2.Df.of ?a ?l ?c ?k;(case a=>k_is);(case l=>k_is);(case c=>k_is);(case k=>k_is))
   | (refine' L2.Md.of ?a ?i ?l ?c ?k;(case a=>k_is);(case i=>k_is);(case l=>k_is);(case c=>k_is);(case k=>k_is))
   | (refine' L2.Kl.of ?y ?a ?b ?c ?d ?m ?k;(case y=>k_is);(case a=>k_is);(case b=>k_is);(case c=>k_is);(case d=>k_is);(case m=>k_is);(case k=>k_is))
   | ((first| refine L2.Nn.one ?_ ?_| refine L2.Na.one ?_ ?_);(repeat' first| exact True.intro| refine L2.Nn.one ?_ ?_| refine L2.Na.one ?_ ?_);all_goals k_is)
   | k_is| k_exc| kit_is
