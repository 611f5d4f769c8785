import PyProof.Rows.All
import Wide.All
import OpenK.AllK
import Wide.FinOn
import PyProof.EqAt
import PyProof.EqKinds
import PyProof.NeKinds
import PyProof.TupleCall
import KE.KIsAll
import KE.KIsNot
import KE.RegKIsAll
import OpenK.KOwn
import PyProof.NsDelKeeps
import PyProof.ReprRoads
import PyProof.ExcArgsOwn
import PyProof.IsiH_list
import Lean
import PyProof.StationsW
import PyProof.Rows.Catch
import PyProof.DictIter
import KE.KDictList
import PyProof.Rows.Range3
import PyProof.CallType
import PyProof.EnumMake
import PyProof.Rows.CallKwBuiltin
import KE.LcSums
import PyProof.DictItems
import PyProof.DictWalks
import PyProof.TupleOfSeq
import PySem.SetTable
import PyProof.SetKind
import PyProof.IsRules
import PyProof.Rows.SetFrom
import PyProof.FactsAll.set
import KE.KSortTup
import KE.KRevIter
import PyProof.Rows.SortLt
import PyProof.Meets
import PyProof.AutoListH
import OpenK.KMake
import PyProof.ListMulRoad
import PyProof.FactsAll.tuple_2
import Wide.Seal
import PyProof.DefCall
import PyProof.CompMap
import PySem.Challenge.RW_frontways_k34_whole_in_any_order
set_option linter.all false
set_option autoImplicit false
set_option Elab.async false
set_option maxRecDepth 100000
set_option maxHeartbeats 4000000
set_option maxHeartbeats 8000000
set_option tactic.hygienic false
universe u
set_option genSizeOf false
noncomputable section
set_option compiler.extract_closed false
theorem ψ{p:Prop}(h:p:=by decide+kernel):p:=h
theorem ζ{p:Prop}(h:p:=by decide):p:=h
theorem δ{p:Prop}(h:p:=by lia):p:=h
theorem θ{p:Prop}(h:p:=by simp):p:=h
theorem ξ{α:Sort _}{a:α}:a=a:=rfl
theorem zA0(h:True:=by rfl):True:=h
theorem zA1(h:True:=by decide):True:=h
theorem zA2(h:True:=by intro _;rfl):True:=h
theorem zA3(h:True:=by decide+kernel):True:=h
open Option renaming some->u8,none->u9
def vA{c:Prop}{h:Decidable c}(n:¬c){α:Sort u}{t e:α}:ite c t e=e:=if_neg n
def vB{c:Prop}{h:Decidable c}(n:c){α:Sort u}{t e:α}:ite c t e=t:=if_pos n
def vC{p:Prop}[Decidable p](h:p):decide p=true:=decide_eq_true h
def vD{p:Prop}[Decidable p](h:¬p):decide p=false:=decide_eq_false h
def vE{p:Prop}[Decidable p](h:decide p=true):p:=of_decide_eq_true h
def vF{a b:Prop}(h:a)(k:¬a):b:=(k h).elim
abbrev vG:=List Int
abbrev vH:=List vG
abbrev vI:=List Nat
abbrev vJ:=PySem.Value->PySem.Shared->Prop
abbrev vK:=Bool->PySem.Shared->Prop
abbrev vL:=Unit->PySem.Shared->Prop
abbrev vM:=PySem.Str->Option PySem.Value
abbrev vN:=List (PySem.Addr×PySem.Obj)
abbrev vO:=List PySem.Value
abbrev vP:=Array PySem.Value
abbrev vQ:=List PySem.Str
abbrev vR:=List PySem.Expr
abbrev vS:=Option PySem.Value
abbrev vT:=Option Nat
abbrev vU:=List PySem.Addr
open PySem renaming wpAny_bind->Ap,Value->Au,Shared->AA,wpAny_pure->AC,Program->AL,model->AN,World->AR,Paired->A9,FuncData->BA,Around->BM,starEach->B3,cLine->Cs,boot_len->CC,wpAny_newObj_type->C0,SetTable->C7,wpAny_holding->Dx,mainGlobals->DB,wpAny_call_entry->DM,compareOp->DS,codeAny_builtin->D5,wpAny_mono->D9,sysModules->EA,wpAny_Call_Name_kw->EB,codeAny_mono->EU,sizeLine_eq->EW,rawInt->EZ,wpAny_pyIter_tuple->E3,keywordEach->Fn,backTo->FB,wpAny_truthy_bool->FE,wpAny_setState_of->FG,wpAny_specialOf->FK,wpAny_ite_split->FL,wpAny_forIn_list->FV,Scope->F7,wpAny_pyIter_list->Ha,wpAny_typeNameOfWhole_keyiter->Hb,mem_of_lookup->Hc,binaryOp->Hk,wpAny_isInstance->Hm,bootBuiltins->HI,wpAny_passesOwn->HQ,behindInMarks->HZ,backToKw->Ic,plainId_quiet->Iy,wpAny_rule->IH,wpAny_seqItems->IQ,wpAny_setField->IR,NameKind->IT,wpAny_typeNameOf_keyiter->IX,atKey->J4,wpAny_pyIter_enum->Kn,wpAny_typeOf->KA,firstArgMember->KF,builtinLookup_eq_fast->KG,assignEach->KU,codeAny_call_builtin->K2,wpAny_askSetting->K3,attributeBase->K6,IsEnum->K7,Keyword->K9,wpAny_field->Lc,sliceBounds->Ll,wpAny_of_eq->Lm,tupleKind_room_in1->LM,intKind->LO,wpAny_dictEntries->L4,pyNext->L9,wpAny_standAt->Mm,wpAny_newList->Mn,swapsWith->MA,getItem->MC,isSubtype_tuple_tuple->MG,wpAny_execs_nil->ML,letOwnedTupleGo->MO,call_meets->MS,typeLookup_type->MV,wpAny_updateSeq->MX,tupleKeyHash->M3,holding->Nl,wpAny_runValue->NA,isSubtype_type->NC,tupleKind->NL,DictEntry->NS,wpAny_tupleItemsOf->N2,wpAny_attempt->N8,setSearchFrom->Op,foldedSetIterable->Oy,wpAny_pyIter_slot->OB,wpAny_call->OH,typeLookup->OI,callerA->OR,valueAt->OS,wpAny_execs_cons->OX,Result->OY,concat_meets->O0,noFill_tuple_add->O1,IsPart->O3,wpAny_comprehension_free->O4,wpAny_stack_any->PQ,wpAny_dictEpoch->PV,codeAny_of_tree->PY,wpAny_pyNext_range_end->P7,wpAny_pyIter_rangeiter->P8,subscripted->QA,wpAny_Assign_Subscript->QN,wpAny_isTrue_Compare1->QR,pyIter->QU,BindsTo->QY,collect->Q1,wpAny_fieldsOf->Q6,wpAny_isOneOf_keyiter->Q7,argsOk->Q9,weight_type_call_type->Rc,wpAny_eqIsQuiet_tuple->Re,wpAny_load->RF,bindL->RI,bindC->RO,numAt->R6,entryFor->R7,codeAny_extend_loopS->R8,isInstance->Sb,reduceHash->Sc,rangeSize_one->Sf,seq_tuple_add->Sj,wpAny_handled->Sk,sub_enumerate->Sm,wpAny_setEntries_of->SC,Within->SO,assign->SU,wpAny_pyIter_range->SV,getMethod->SW,wpAny_getItem_heap->S7,wpAny_setItem_heap->S8,call_meetsIn->S9,wpAny_eqBool_tuple->Tl,wpAny_pyHash_tuple->To,pickOrder->Ts,eqIsQuiet->Tx,CmpOp->TC,standAt->TD,storedH->TH,wpAny_assign_Name->TL,slot_list_getitem->TR,ofAClassStatement->TW,searchCouldBeSeen->TZ,wpAny_storeSet_of->T5,eqIsQuiet_byValue->T7,seqIndex_of->UC,wpAny_throw->UE,wpAny_pyHash_int->UO,wpAny_eqBool_int->UP,GenState->UQ,bindArgs->UV,numAt_eq->U1,checkBuiltinCall->U4,beq_builtin_none->U8,builtinsNs->VA,Model->VC,isTrue->VE,wpAny_Name->VI,call->VQ,checkCount->VS,wpAny_ret_mkInt->VT,IsTupleKey->VW,setsByText->V0,spliced->V6,wpAny_Compare1->V7,setItem->V8,recursionLimit->We,isSubtype_stop->WE,carriedByValue->WF,small_one->WN,cellsFrom->WO,seqIndex?->WS,data2->XW,Draws->XY,table->X0,Params->YU,compEnvC->YV,setRelay->Y4
open PySem.W renaming Frag->As,mg_none_of->BN,findIn->C2,keepIn->C8,emptyDict->EI,mg_of->EV,fnOf->E6,instObj->FI,nsIn->G8,makesIn->HR,codeIn->IP,plainGet->KW,hasDictIn->LW,isFn->MQ,plainGet_of->M5,lookIn->No,callWith_K->NO,plainOver->OA,takerIn->PF,OpenLaw->PM,cellsFrom_some->Qb,methodCall_KW->Q0,looks_findIn->RH,callWith_K0->Sz,make_core->TN,handedIn->US,InitBack->UT,makes_of->UU,WalkO->W3,kas_item->Zl
open List renaming length_map->AB,getD_eq_getElem?_getD->AD,mem_cons_self->AF,getElem?_eq_some_iff->AG,mem_cons_of_mem->AJ,getElem?_eq_getElem->AK,size_toArray->AO,mem_range->AU,getElem?_map->AV,range->AX,mem_cons->AY,mem_map->A1,length_append->A2,mem_of_getElem?->By,getElem?_append_left->BB,mem_filter->BG,map_append->BI,map_cons->BO,length_take->BV,pairwise_cons->B0,append_nil->B5,length_range->B6,pairwise_iff_getElem->B7,mem_singleton->B8,pairwise_map->Cb,getElem?_append_right->Cc,mem_append->Cf,mem_append_right->Co,take_length->CD,append_assoc->CH,filter_append->CI,mem_iff_getElem->CS,length_eq_zero_iff->CU,length_filter_le->CY,pairwise_append->C4,length_cons->C5,filter_cons->C6,take_add_one->DA,length_singleton->DC,mem_iff_getElem?->DD,nodup_cons->DV,getElem?_eq_none->DZ,map_map->ED,lookup_cons->EE,length_set->EO,getElem?_range->EX,all_eq_true->E8,getElem_mem->Fa,length->Fu,ext_getElem?->FF,map_congr_left->FM,lookup->FR,drop_eq_nil_of_le->FS,getElem_map->FX,mem_reverse->FY,take_append_drop->F6,mem_append_left->F9,getElem?_take_of_lt->G1,range_succ->G2,find?_cons->G3,length_erase_of_mem->G4,reverse_reverse->G7,mem_map_of_mem->Hd,reverse_append->He,pairwise_lt_range->Hn,length_pos_of_mem->HE,filter_eq_nil_iff->HG,length_nil->HU,perm_append_comm->HV,drop_sublist->ID,mem_erase_of_ne->IL,length_drop->IU,nodup_range->Jn,filterMap_cons->JI,pairwise_singleton->JU,filter_cons_of_neg->JY,any_cons->J3,filter_nil->J5,Nodup->J6,getElem?_set_self->Kb,take_sublist->Kk,getElem_take->Kt,toArray->KI,getElem?_set_ne->KS,not_mem_nil->K1,length_eraseIdx->K5,drop_eq_getElem_cons->LF,map_nil->LJ,filter_cons_of_pos->LV,getElem?_inj->L5,take_of_length_le->Mc,mem_of_mem_take->M0,length_reverse->M8,take_succ_cons->M9,length_pos_iff->Nc,mem_filterMap->NN,map_singleton->NX,getElem_drop->OC,reverse_perm->OE,nodup_append->OG,getLast?_eq_none_iff->OO,getLast?_eq_some_iff->OP,cons_append->O8,map_set->Pf,getElem?_replicate->Pm,of_mem_zip->PH,tail->P0,filter_map->P3,foldl_cons->P4,nodup_nil->Q4,drop_drop->Rs,take_zero->RA,pairwise_reverse->RC,getElem_toArray->RY,mem_of_mem_drop->R9,map_take->Sn,map_drop->So,zip_cons_cons->SZ,getElem?_drop->Tk,extract->Tu,mapM_toArray->T6,reverse_cons->Uf,getElem_inj->UR,nil_append->V3,replicate->Wl,take->WV,all_cons->W0,map_id'->Y7,all_map->Y9
open PySem.Heap renaming get?_push_of_some->AE,get?_push_size->AQ,lt_size->Be,size_push->DL,get?_update_other->D4,get?_update_self->Ev,SameBut->ET,ExtBut->UD,size_update->U0,IsTuple->YY
open PyProof.Rows renaming Keyed->AH,wpS_bind->AS,arrOf->AW,wpS_pure->A8,SortSt->BD,pendingOf->BH,boot_tuple->DE,seqObj->DH,callWith_type1->DT,wpS_forRange->D0,elem'->D3,boot_list->EF,wpS_mono->EG,SortKind->EM,boot_sorted->Fh,IntsAre->F4,failedOf->G5,wpS_modify->IN,slot_tuple_getitem->JP,boot_range->J1,wpS_get->KL,AllBare->My,callWith_builtin1->MR,wpS_lift->NH,envOfC->NR,listUpdate_at->N7,reverseSlice'->Os,listItems_at->O6,entry_list_sort->PU,ltAt'->P5,subscriptTail_builtinR->QE,slot_list_sort->Q2,args_list_sort->Q3,IsTup->RE,gallopOf->Sa,Constant_none->Se,plain_sorted->S3,entry_sorted->S4,args_sorted1->S5,kind_sorted->UH,seqEpoch_at->UK,general'->U6,Subscript_->VM,setArr->V2,keyLt'->V4,wpAny_notIn_heap->V5,slicePart_none->WA,boot_enumerate->WC,keyLt'_oneType->WG,sortedHeap_old->WI,evalArgs_kwB->X1,boot_min->ZU,boot_max->ZY,boot_all->Z0,lt_int->Z8
open Nat renaming le_refl->AI,zero_le->Bz,ne_of_lt->BF,le_trans->BQ,lt_of_lt_of_le->Cn,add_sub_cancel->CF,lt_or_ge->C9,le_of_lt->D7,lt_irrefl->Ex,lt_of_le_of_lt->EQ,lt_succ_self->ER,lt_succ_of_lt->FH,zero_add->F8,pow_le_pow_right->IM,sub_self->IZ,le_succ->Ki,lt_trichotomy->L6,add_le_add_right->MH,pow_succ->MY,mod_lt->MZ,le_succ_of_le->OF,le_add_right->OT,le_of_eq->OU,zero_lt_succ->OW,succ_ne_self->O5,le_add_left->Pw,not_lt_zero->PD,lt_of_lt_of_eq->SE,lt_of_le_of_ne->SH,add_zero->Ta,eq_zero_or_pos->Th,one_le_two_pow->TB,le_of_lt_succ->TJ,add_sub_of_le->TK,le_of_not_lt->UM,sub_sub_self->UN,succ_le_succ->UZ,div_eq_of_lt->U5,lt_trans->X3,ne_of_gt->X4,succ_pos->Y0,mul_add->ZO,not_lt->Z3
open Option.some renaming inj->AM
open PySem.Paired renaming length->AT,snoc->UI
open Array renaming length_toList->AZ,getElem?_eq_getElem->BC,getElem?_toList->B4,getElem?_eq_some_iff->CL,toList_append->DI,getD->Eg,toList_extract->G6,getElem?_eq_none->HC,getD_eq_getD_getElem?->HM,perm_iff_toList_perm->IA,size_setIfInBounds->JA,forIn_toList->J7,toList_push->Kx,toList_reverse->K4,getElem_mem_toList->O9,eraseIdxIfInBounds->Pc,toList_map->Pd,toArray_toList->RU,toList_modify->SD,toList->SS,getElem_mem->T8,toList_inj->U7,replicate->VU
open PySem.Value renaming ref->A7,type->CM,none->Db,isInt_shape->G9,bool->KP,isInt->NI,int->NJ,isStrOf->WZ,str->aa
open Bool renaming false_ne_true->BE,false_eq_true->BY,and_eq_true->ES,not_true->FU,eq_iff_iff->Go,beq_eq_decide_eq->MD,or_false->On,noConfusion->Pe,false_and->V9,and_false->WB,not_false->WJ,false_or->W5
open ForInStep renaming done->BS,yield->C1
open Ne renaming symm->BU
open Int renaming toNat_natCast->B9,emod_lt_of_pos->Da,toNat_of_nonneg->De,emod_nonneg->D6,le_trans->EN,le_of_lt->FO,toNat->HH,eq_ofNat_of_zero_le->J2,not_lt->J8,le_refl->Kj,fdiv_eq_ediv_of_nonneg->N4,ofNat_lt->OV,lt_irrefl->Su,natCast_nonneg->SF,zero_add->SG,emod_eq_of_lt->UA,mul_one->UB
open Classical renaming byContradiction->Ct,choose->Ff,choose_spec->F5,propDecidable->Pp
open PySem.Obj renaming mapSeq->CO,data_mapFields->E9,isFreed_of_fields->KB,cls_mapFields->LY,mapFields->N9,putSet->VX
open PySem.NameKind renaming free->C3,cell->Iq
open PySem.F renaming plainAttrs_list->DF,called_enumerate->Fc,slot_list_append->Fk,type_list_append->Fm,slot_dict_keyiterator_next->FA,slot_tuple_iterator_next->Ix,called_set->JE,plain_list_iadd->JS,slot_tuple_hash->J0,slot_tuple_eq->KM,args_tuple_add_2->LI,entry_tuple_add->LU,slot_tuple_add->Mb,slot_tuple_lt->MB,slot_dict_get->ME,args_dict_keyiterator_next_1->MU,entry_dict_keyiterator_next->M4,args_tuple_iterator_next_1->Nw,entry_tuple_iterator_next->NU,entry_enumerate_new->NY,entry_proto_collect->N0,plain_proto_collect->N1,slot_dict_getitem->OK,entry_object_init->OL,args_tuple_lt_2->Po,args_dict_get_3->Ps,entry_list_iadd->Pt,entry_tuple_lt->Qr,entry_dict_get->QO,slot_dict_len->Q8,slot_set_iter->Rl,plain_extend_loop->SA,entry_type_call->TU,slot_dict_iter->U3,plain_set_new->VZ
open PySem.PassesOwn renaming never->DJ
open PySem.Builtin.List renaming listExtendWith->DU,listLengthHint->HL,listSameRef->IY,listTooLong->LL,listItems->QP,listUpdate->Zs
open List.Pairwise renaming imp_of_mem->D8,nil->LX,cons->S6,filter->Z7
open PySem.Heap.SameBut renaming update->Ee,refl->ar
open PySem.Around renaming under_plainId->EC,under->OZ,under_plain->Tb
open False renaming elim->EH
open PySem.Builtin.SmallTypes renaming fitsIndex->EJ,nextOf->IG
open PySem.SetTable renaming insertAt->EK,runEnd->FD,Probe->JJ,turns->OM,grown->VY
open List.Perm renaming append_left->EL,refl->IS,nodup_iff->JO,append_right->Me,cons->NF,swap->NG,eq_of_pairwise->Pl,trans->P6,map->Xs
open PySem.Builtin.Tuple renaming tupleExact->E7,tupleHashOf->LG,tupleItemsOf->N6,tupleCompareSizes->U9
open PySem.Builtin.Range renaming rangeSize->FC,small->Lu,rangeFitsLong->WU
open Sum renaming inl->F0,inr->OQ
open PySem.Calls renaming spliced_cons->F3,spliced_nil->IB,call_function_entry->IJ,Name_function_global->N3,callWith_builtin->QH,evalArgs_plain->RR
open Option renaming isSome_iff_exists->G0,isSome_map->L3,map_some->MT,isSome_iff_ne_none->ON,map_eq_some_iff->QI,getD_none->UX,none->ZI
open PySem.Str renaming ofString->HK
open PyProof.Rows.F renaming plain_set_update_loop->HP,entry_set_update_loop->LN
open PySem.Challenge renaming pw_frontways_k34_whole_in_any_order->IC
open True renaming intro->IE
open PySem.Builtin.Slice renaming slicePlaces->IF,sliceAdjust->Lv,sliceApplied->N5,slicePartIndex->Wp,sliceFields->XX
open PyProof.Rows.SortSt renaming mk'->J9
open Prod renaming ext->K0
open PySem.SetTable.layClean renaming free->K8
open PySem.SeqAt.EqAt renaming same->LD,int_int->LH,none_int->M6,int_none->M7,int_str->SK,str_int->SL
open PySem.SeqAt renaming EqAt->LP,in_tupleAt->UY,eq_tupleAt->U2,in_listAt->VO
open PySem.WalksT renaming enumerateD->LZ
open PySem.MeetsSeq renaming plain_remove_loop->L7,entry_remove_loop->T9
open Int.ofNat renaming inj->Mo
open Or renaming inl->MM,inr->NM
open PySem.Builtin.Dict_items renaming ownsTuple->NB
open PySem.SetTable.probe renaming go->NE
open PySem.Code renaming quiet_builtin->NV,isFrame->SY,frames->ZH
open PySem.Builtin renaming sorted->O7
open PyProof renaming noPylong_small->P9
open Eq renaming symm->QQ
open PySem.Builtin.Dict renaming showsAll->Q5,dictSlotNone->XZ
open List.cons renaming inj->Sr
open PySem.Shared renaming heap->UF,TypeIs->W6
open Array.Perm renaming refl->V1
open PySem.Builtin.Frozenset renaming updateFrom->WH,newClass->W8,sizeOf->Y6
open PyProof.Rows.IsTup renaming new->WP
open PySem.SeqAt.RcNeAt renaming lists_lengths->W4,tuples->Z9,lists->ag
open PySem.Moved renaming eq_with->W7,trans->ZT
open PySem.W.Looks renaming of_pure->W9,ld->Y8,here->Z6
open PySem.EqNone renaming eq_none_none->Xt,eq_none_bool->XA,eq_bool_none->XB,ne_none_none->XI,ne_none_bool->XN,ne_bool_none->XO,eq_none_int->X5,eq_none_str->X6,eq_int_none->X7,eq_str_none->X9,ne_none_int->Yf,ne_none_str->YA,ne_int_none->YE,ne_str_none->YO
open PySem.EqMixed renaming eq_bool_str->XE,eq_str_bool->XG,ne_bool_str->XT,ne_str_bool->XU,eq_int_str->X8,eq_str_int->Ya,ne_int_str->YI,ne_str_int->YR
open PySem.pickOrder renaming go->Y5
open String.Pos.Raw renaming mk_le_mk->Zp
open PySem.CmpOp renaming NotIn->ZA,In->av
open PySem.Walks renaming range->ZB,list->Z5
open PySem.IsRange renaming new->ZE
open PySem.ItemsOf renaming nil->ZN
open Iff renaming rfl->ZZ
open PySem.W.WShape renaming has->Z4
open PySem.Heap.IsSliceOf renaming new->ae
open PySem.W.WData renaming int->af
open PySem.Within renaming cons->ah
open PySem.Heap.DictOfH renaming new->aw
open PySem.Heap.DictOf renaming new->ay
def dl{a b c:Nat}(h0:a<c)(h1:b=c):a<b:=SE h0 h1.symm
def vw{a b c:Nat}:a<c->c<b->a<b:=X3
def vx{a b:Nat}:(↑a:Int)=(↑b:Int)->a=b:=Int.ofNat_inj.mp
def fv{a b:Nat}  : a<=b+a:=Pw a b
def vy{a b c:Nat}:a<c->c<=b->a<b:=Cn
def vp{a b c:Nat}:a+c<b->a<b:=Nat.lt_of_add_right_lt
def vo{a b:Nat}:¬b<a->a<=b:=UM
def v5{a b c:Nat}(h0:c=a)(h1:c<=b):a<=b:=le_of_eq_of_le h0.symm h1
def wP{a b c:Nat}:a<c->c=b->a<b:=SE
def yk{a b c:Nat}:a+(c+1)=b->a<b:=δ
def v9{a b:Nat}:b<=a->¬a<b:=Z3.mpr
def wa{a:Nat}  : ¬a<0:=PD a
def vq{a b:Nat}  : a<=a+b:=OT a b
def vt{a:Nat}  : (0:Int)<=(↑a:Int):=SF a
def wb{a b c:Nat}(h0:a<b):a<b+c:=Nat.lt_add_right c h0
def we{a b c:Nat}:a<b-c+c->c<=b->a<b:=δ
def wg{a b:Nat}(h0:b=a):a<=b:=OU h0.symm
def wQ{a b c:Nat}:b<=c->min a b<=c:=δ
def wc{a b c:Nat}:a+c<=b->a<=b:=Nat.le_of_add_right_le
def wR{a:Nat}  : a<a+1:=Nat.lt_add_one a
def wq{a:Int}  : (0:Int)+a=a:=SG a
def wj{a b:Nat}:a<b->a=b->False:=δ
def v6{a b c:Nat}:a<=c->c<b->a<b:=EQ
def v7{a b:Nat}:a<b->(↑a:Int)<(↑b:Int):=OV.mpr
def wS{a b:Nat}:(↑a:Int)<(↑b:Int)->a<b:=OV.mp
def wt{a b c:Nat}:a=c->c<=b->a<=b:=le_of_eq_of_le
def wu{a b:Nat}:a<b+1->a<=b:=TJ
def ww{a b:Nat}:a<=b->a+(b-a)=b:=TK
def w6{a b:Nat}:a<b->a<=b:=Nat.le_of_succ_le
def wk{a b:Nat}  : a-b<=a:=Nat.sub_le a b
def xI{a b c d:Nat}:a+(c+b)=d->a+b+c=d:=δ
def wT{a b:Int}:b<=a->¬a<b:=Int.not_lt_of_ge
def xJ{a b:Nat}:a<b+1->¬a=b->a<b:=δ
def wx{a b c d:Nat}:a+(c+b)<d->a+b+c<d:=δ
def wF{a:Int}{b:Nat}(h0:(0:Int)<=a)(h1:a<(↑b:Int)):HH a<b:=(Int.toNat_lt h0).mpr h1
def wz{a b c:Nat}:a+b+c=a+(c+b):=δ
def wG{a b c:Nat}:a<=b->a<=b+c:=Nat.le_add_right_of_le
def w9{a b:Int}:a<b->a<=b:=FO
def v8{a b:Nat}:1<=a->a<=b->a-1<b:=Nat.sub_one_lt_of_le
def wd{a:Nat}:¬a<=1->2<=a:=δ
def wm{a:Nat}  : ¬(↑a:Int)<(0:Int):=Int.not_ofNat_neg a
def wH{a b:Nat}:a=b->a<=b:=δ
def wA{a:Nat}:a<2->a<=1:=TJ
def wB{a b:Nat}:a<=b->¬a<b->a=b:=δ
def xc{a:Nat}  : 0<a+1:=OW a
def ym{a b c:Nat}:b-a=c+1->a<b:=δ
def yp{a b c d:Nat}:a-b=d+c->a-(b+c)=d:=δ
def xf{a:Nat}:1<=a->a-1<a:=Nat.sub_one_lt_of_lt
def xg{a b:Nat}:a+2<b->a+1+1<b:=δ
def wC{a:Nat}  : a<=a:=AI a
def xK{a b c:Nat}:a<c->a-b<c:=Nat.sub_lt_of_lt
def wI{a b:Nat}:a<=b->¬b=a->a+1<=b:=δ
def xh{a b:Nat}:¬b<=a->a<b:=Nat.lt_of_not_le
def xi{a:Nat}  : 0<a+2:=OW (a+1)
def wU{a:Nat}  : 0<=a:=Bz a
def yq{a b:Int}(h0:b<a):a≠b:=BU (Int.ne_of_lt h0)
def wJ{a b c:Nat}:a<=c->c<=b->a<=b:=BQ
def wV{a:Nat}  : ¬a<a:=Ex a
def yr{a b:Nat}:a<=b->b-a=0->a=b:=δ
def wD{a b:Nat}:a<b->a<=b-1:=Nat.le_sub_one_of_lt
def wK{a:Nat}:¬a=0->1<=a:=Nat.one_le_iff_ne_zero.mpr
def wE{a b:Nat}:a<b->¬a+1=b->a+1<b:=SH
def wo{a b c:Nat}(h0:a<c):a+b<c+b:=Nat.add_lt_add_right h0 b
def wL{a b:Nat}(h0:b<a):a-(b+1)<a-b:=Nat.sub_succ_lt_self a b h0
def xL{a b c:Nat}:a-(b+c)=a-c-b:=δ
def xM{a:Nat}:a<=4100->a<=100000:=δ
def xj{a b c:Nat}:a<min b c->a<b:=δ
def xp{a:Nat}:2<=a->¬a<=1:=Nat.not_le_of_lt
def wM{a b c d:Nat}:a+d<=c->b<d->a+b<c:=δ
def xN{a b c:Nat}(h0:a<=c):a+b<=c+b:=MH h0 b
def yt{a b c:Nat}:a=c->c<b->a<b:=lt_of_eq_of_lt
def xq{a b c:Nat}(h0:a<c+b)(h1:b<=a):a-b<c:=Nat.sub_lt_right_of_lt_add h1 h0
def xr{a:Nat}  : 1<a+2:=Nat.one_lt_succ_succ a
def wW{a b:Nat}:a >= b->¬a<b:=Z3.mpr
def yu{a:Nat}:a<=61->a<=1000:=δ
def xt{a b c:Nat}(h0:c<b)(h1:c=a):a<b:=lt_of_eq_of_lt h1.symm h0
def xu{a:Nat}:a<=1->a=0\/a=1:=Nat.le_one_iff_eq_zero_or_eq_one.mp
def xO{a b:Nat}:a<=b->a<b+1:=Nat.lt_succ_of_le
def xv{a:Nat}:a<2->a=0\/a=1:=δ
def wN{a b:Int}:¬b<=a->a<b:=Int.lt_of_not_ge
def xP{a b c:Nat}:a<=c->a-b<=c:=δ
def xQ{a b c:Nat}:a<b+1-c->a<=b-c:=δ
def xw{a b:Nat}:a<=b->¬a=b->a<b:=SH
def xR{a b:Nat}:a<=b->a >= b->a=b:=Nat.le_antisymm
def wX{a b c:Nat}:b<=a/\a<b+c->a-b<c:=δ
def wY{a:Nat}:a >= 2->¬a<=1:=δ
def yv{a b c:Nat}:a<min c b->a<b:=δ
def yw{a b c d:Nat}:a=c-d->c<=b+d->a<=b:=δ
def yy{a b:Nat}:a<=b->b<=a->a=b:=δ
def yA{a b:Nat}:a≠0->a<=b->a-1<b:=δ
def yB{a b c:Nat}:a<=b->c<a->a-1<b:=δ
def xS{a:Nat}  : a*2=a+a:=Nat.mul_two a
def xx{a b c:Nat}:a<c-2+2->c<b+1->¬c<=1->a<b:=δ
def yC{a b c d e:Nat}:c<d->c=e->d=e->a=b:=δ
def yD{a b c:Nat}:b<=a->¬b+c<a->¬b+c=a->a-b<c:=δ
def yE{a:Nat}:a<=10->(↑a:Int)<=(1000:Int):=δ
def yF{a b c d e:Nat}:d+e<=c->d=a->e=b->a+b<=c:=δ
def yG{a b:Nat}:b<=a->a-(a-b)=b:=UN
def xT{a b:Nat}:b<=a->a-b+b=a:=Nat.sub_add_cancel
def xA{a b:Nat}:2<=a->a<=b->a-1<b:=δ
def xB{a b:Nat}(h0:a<b):0+a<b:=(Nat.add_lt_of_lt_sub' h0)
def yH{a b:Nat}:a<b+1->a≠0->a-1<b:=δ
def yI{a b:Nat}:a+1<=b->a<b:=Nat.lt_of_succ_le
def xC{a b c:Nat}(h0:a<b+c)(h1:b<=a):a-b<c:=Nat.sub_lt_left_of_lt_add h1 h0
def xD{a b c:Nat}:c+a<=b->a<=b-c:=Nat.le_sub_of_add_le'
def xE{a b c:Nat}:a+c<=b->a+(b-a)=b:=δ
def yJ{a:Nat}  : 0+a=a:=F8 a
def yK{a:Nat}  : ¬a>a:=Ex a
def xU{a b:Int}:b<a->¬a<b:=Int.lt_asymm
def yL{a:Nat}:2<=a->(↑a:Int)-(2:Int)=(↑(a-(2:Nat)):Int):=δ
def yM{a b c d:Nat}:(↑a:Int)-(↑c:Int)=(↑d:Int)->a<b+(c+1)->¬b=d->a<b+c:=δ
def yN{a b c d e:Nat}:(↑b:Int)-(↑c:Int)=(↑d:Int)->a=e->e<d->a<=b:=δ
def yO{a b:Nat}:a<=b->a<HH ((↑b:Int)+(1:Int)-(2:Int))+(2:Nat):=δ
def yP{a b c d:Nat}:a<c-d+d->c<=b->d<=c->a<=b:=δ
def yQ{a b:Nat}:2<=b->a<b+HH ((↑a:Int)-(1:Int)):=δ
def xV{a:Int}{b:Nat}{c:Int}:(0:Int)<=c->a<(↑b:Int)->c<(↑b:Int)->HH a<b:=δ
def xW{a b c:Nat}  : a+(b+c)=a+b+c:=QQ (Nat.add_assoc a b c)
def yR{a:Nat}  : a+1≠0:=BU (Nat.zero_ne_add_one a)
def yS{a b c d:Nat}:a+(c+b)=d->a+b+(c+b-b)=d:=δ
def xX{a b c:Nat}:a<c->c<=b->a<=b:=δ
def yT{a:Nat}:(↑a:Int)=(0:Int)->a=0:=δ
def xY{a:Int}:a<=(1000:Int)->HH a<=(1000:Nat):=Int.toNat_le.mpr
def xZ{a b c:Nat}:a<=c+1->c<b->a<=b:=δ
def x5{a b c d e:Nat}:a+e<=d->b<e->a+b-c<d:=δ
def yU{a b:Nat}:a<b->min a b=a:=δ
def yV{a b:Nat}:a+b=b+a:=δ
def yW{a:Int}:(0:Int)<=a->(↑(HH a):Int)=a:=δ
def xF{a b:Nat}:a<b->(0:Int)<=(↑a:Int)/\(↑a:Int)<(↑b:Int):=δ
def yX{a b c d e:Nat}:a+3*(c+b)+d<e->a+b+3*c+d<e:=δ
def yY{a b c:Nat}:c<b->c=a->a<=b:=δ
def x6{a b:Int}:b<=a->-a<=-b:=Int.neg_le_neg
def wO{a:Nat}:2<=a->1<=a:=δ
def x8{a:Nat}:2<=a->¬a-1=1->2<=a-1:=δ
def yZ{a b:Nat}(h0:a<b+1)(h1:b<=a):a=b:=Nat.eq_of_le_of_lt_succ h1 h0
def x9{a b c d:Nat}:a<=b+d->a<=b+c+d:=δ
def ya{a b c:Nat}:a=c->¬b<c->a<=b:=δ
def yb{a b c d:Nat}:a<b+d->d<=c->a<b+c:=δ
def yc{a b c d:Nat}:a<c-d+d->c<b+1->c >= d->a<b:=δ
def y4{a b:Nat}:¬a<=b->¬a<b:=δ
def y6{a b:Nat}:¬a<=b->¬a=b:=δ
def yd{a b c d:Nat}:a<=c->c=b-1->d<b->a+1<=b:=δ
def ye{a b c d:Nat}:b=min (c-a) d->¬a >= c->a+b<=c:=δ
def yf{a b c:Nat}:a<b-c+c->c<=b->a+1+(b-a-1)=b:=δ
def y8{a b c:Nat}:c=a->c=b->a=b:=δ
def yg{a:Int}(h0:(0:Int)<=a):a=(↑(HH a):Int):=QQ (De h0)
def y9{a:Nat}:(1:Int)<(↑a:Int)->2<=a:=δ
def za{a b c:Nat}:b<a->¬(a<=b/\b<c):=δ
def zb{a b c:Nat}:a<b+(c+1)->¬a<b+c->a=b+c:=Nat.eq_of_lt_succ_of_not_lt
def zc{a b c:Nat}(h0:c<=b):a-b<=a-c:=Nat.sub_le_sub_left h0 a
def zd{a b:Nat}:¬a+b<b:=δ
def ze{a b c:Nat}(h0:b<c):a+b<a+c:=Nat.add_lt_add_left h0 a
def zf{a:Int}{b c:Nat}(h0:a=(↑c:Int))(h1:c=b):a=(↑b:Int):=QQ (Nat.ToInt.of_eq rfl h0.symm h1.symm)
def zg{a b:Nat}:a<=b->(↑a:Int)-(↑b:Int)<=(0:Int):=δ
def zh{a b:Int}:a<(0:Int)->max (0:Int) (min (a+b) b)=(↑(HH (a+b)):Int):=δ
def zi{a:Int}{b:Nat}:max (0:Int) (min a (↑b:Int))=(↑(min (HH a) b):Int):=δ
def zk{a b c:Nat}:b<=a->c<=b->a-(b-c)=a-b+c:=δ
def zn{a b:Nat}(h0:a<=b):a=b-(b-a):=QQ (UN h0)
def zo{a b:Nat}:a<b-1+(b-(b-1))->b-1<=a->a=b-1:=δ
def zq{a b c:Nat}(h0:b<=c)(h1:c<=a):a-b=a-c+(c-b):=QQ (Nat.sub_add_sub_cancel h1 h0)
def zr{a b c:Nat}:a<c+(b-c)->c<=b->a<b:=δ
def zt{a b c d e:Nat}:a+c+d<=e->b<=a->a-b+c+(d+b)<=e:=δ
def zu{a b c d:Nat}:2<=b->a+b+c<=d->a+(b-1)+(c+1)<=d:=δ
def zv{a b c d e:Nat}:a+c+d<=e->a-b+c+d<=e:=δ
def zw{a b:Nat}:a<b->0+a<=b:=δ
def zx{a b c:Nat}:a<c->¬c-b>0->a<b:=δ
def zy{a b:Nat}:a<=b->0+a<=b:=δ
def zA{a b c d:Nat}:a<=c+d->a+b<=c+(d+b):=δ
def zB{a b c d:Nat}:a<=c+d->a+b<=c+b+d:=δ
def zC{a b:Nat}:a<b->a+1+(b-(a+1))<=b:=δ
def zD{a b c:Nat}:a<=b->b<c->a+(b-a)<c:=δ
def zE{a b c d:Nat}:a<c->b+d<=a->a-b<c-b:=δ
def zF{a b c d:Nat}:a+d<=b->b<c->a+(b-a)<c:=δ
def zG{a:Nat}:¬a>0->a=0:=Nat.eq_zero_of_not_pos
def zH{a b c:Nat}:a+c<b->a+(b-a)<=b:=δ
def zI{a b:Nat}:a<=b->a+0<=b:=Zp.mp
def zJ{a b c d:Nat}:a<b+c->b+d<=a->a-b<c:=δ
def zK{a b c d:Nat}:a<c->d<b->d=c->a<b:=δ
def zL{a b c d e:Nat}:a+d<=e->b<=d->c=e->a+b<=c:=δ
def zM{a b c d:Nat}:b<d->d=c->a+b<a+c:=δ
def zN{a b c d e:Nat}:c=a+d-e->¬(e<=b/\b<e+c)->¬b<e->a<=b:=δ
def zO{a b:Nat}:a=b->¬b=0->1<=a:=δ
def zP{a b:Int}:a<=b->b<=a->a=b:=δ
def zQ{a:Nat}:2<=a->a<=1->False:=δ
def zR{a b c:Nat}:b<=c->c<a->a≠b:=δ
def zS{a b:Nat}(h0:b+1<=a):a≠b:=BU (BF h0)
def zT{a b c d:Nat}:a-d<=c+1->d<b->a-b<=c:=δ
def zU{a b c:Nat}:c<b->c=a->a+1<=b:=δ
def zV{a b c d e:Nat}:a<=d+(c+1)->d=e->e<b->a<=b+c:=δ
def zW{a b c d e:Nat}:a<=d+c->d=e->e<=b->a<=b+c:=δ
def zX{a b c:Nat}:a+c<b->a+0<b:=δ
def zY{a b c:Nat}:a<=b-1->c<b->a<b:=δ
def zZ{a b c:Nat}:b<=c->¬a >= b->a+(b-a) / 2<c:=δ
def An{a b c d:Nat}:a<=b->b-a<=c-max d c->a=b:=δ
def BT:(0:Nat)<(1:Nat):=δ
def Cl{a:Nat}:0+a<=a:=δ
def Fr{a b c:Nat}:¬b >= c-a->a+b<c:=δ
def KK{a:Nat}:a<2*a+1:=δ
def NW{a b c:Nat}:a<=c->a+b<=2*c+b:=δ
def Pi{a b:Nat}:a+b<a+1+b:=δ
def Tm{a:Int}{b c:Nat}:(0:Int)<=a/\a<(↑c:Int)->b=c->HH a<b:=δ
def Ty{a b c:Int}:a<c->c<=b->a<=b:=δ
def XL{a b c d:Nat}:a<=c->c+d<=b->a<=b:=δ
def XV{a b c d e:Nat}:a<=e+(d+c)->e<=b->a<=b+c+d:=δ
def ar478{a b c d e f g:Nat}:a<=c->b<=e->e<=f->e<g->d=min f g->a+b<=c+d:=δ
def ar479{a b:Nat}:a>b->a-2<a:=δ
def ar480{a:Nat}:a>1->a-2+1<a:=δ
def ar481{a b c d:Nat}:a<=c->b<=d->a+b<=c+d:=Nat.add_le_add
def ar482{a b c:Nat}:b<=c-a->¬a >= c->a+b<=c:=δ
def ar484{a b c:Nat}(h0:c >= a):a+b<=c+b:=MH h0 b
def ar485{a b:Nat}(h0:b<=a):a=b+(a-b):=QQ (TK h0)
def ar486{a b c d:Nat}:b<min d (c-a)->a+b<c:=δ
def ar500{a b c d:Nat}:a+d<=c->b>1->b<=d->a+b-1<c:=δ
def ar501{a b:Nat}:1+1<=b->a+b-1<a+b:=δ
def ar504{a:Nat}:a<=60->a<=1000:=δ
def ar505{a:Nat}:a<=60->a<=300:=δ
def ar507{a:Nat}:a<=4096->a<=10000:=δ
def xG{a b:Nat}:b<a->¬a<b+1:=δ
def wZ{a:Nat}:a<=10->(↑a:Int)<=(10:Int):=δ
def ar514{a:Nat}{b:Int}:a<HH b->(↑a:Int)<b:=δ
def ar515{a:Nat}{b:Int}{c:Nat}:a<c->c<HH b->(↑a:Int)<b:=δ
def ar516{a b c:Nat}:b<=a/\a<c->¬a<b:=δ
def ar517{a b c d:Nat}:c=b->d<=a/\a<c->a<b:=δ
def ar518{a b c d:Nat}:a<b->b=c->c<=a/\a<d->False:=δ
def ar519{a:Int}:(3:Int)+a%(5:Int)<=(10:Int):=δ
def ar520{a:Int}:(2:Int)+a%(9:Int)<=(10:Int):=δ
def ar521{a:Nat}:2<=a->(↑a:Int)≠(0:Int):=δ
def ar522{a:Nat}:2<=a->(0:Int)<(↑a:Int):=δ
def ar523{a:Nat}:2<=a->(0:Int)<(↑a:Int)-(1:Int):=δ
def ar524{a b:Nat}:a=b->b<=10->a<=11:=δ
def ar525{a b:Nat}:a=b->b<=10000->a<=16777216:=δ
def xH{a:Nat}:2<=a->(1:Int)<=(↑a:Int):=δ
def yh{a b:Nat}:b<a->¬(↑a:Int)<=(↑b:Int):=δ
def yj:(0:Int)<=(3:Int):=δ
def ar564{a b c d:Nat}:b+a=c->b=d->d<c->(0:Int)<(↑a:Int):=δ
variable{a b d f it D l p C dx fa S I fR fI fS fK fT fA fB fG fL fP fC Gc fU da fX fM fE D':PySem.Addr}{c e tg bn gI:PySem.Expr}{us vs a5 its':vO}{x name qual q:PySem.Str}{u cd b9 pm bt ct oc vl vu dc:Au}{o ob:PySem.Obj}{P prog:AL}{w:AR}{h h' base:PySem.Heap}{α β:Type}{aI:List (PySem.Addr×PySem.Obj)}{s s':AA}{g':Array UQ}{t' i j M n lo hi tk k' m z ep k1 k2 hd kl kr i' bu ia ib ac bc na nb sa l':Nat}{ch fp wr:List PySem.Addr}{A:BM}{E Q Q₁:vJ}{pos bX ut cf p2 bq tp p1 eI:PySem.Pos}{op:TC}{bg body:List PySem.Stmt}{K:As}{st a6 cm:BD}{es fz cw:List PySem.Expr}{R:OY->AA->Prop}{pl i5:Nat->vT}{mA mg:PySem.Str->vS}{ns ms hs:vG}{kw:List (PySem.Str×Au)}{fd pE k8 e8 f6 df dE oP ng nv lL fdC q5 fdX tm fdE:BA}{ps eJ own fr:List PySem.Str}{ks:List (vG×PySem.Addr)}{kM:List K9}{sc scope:F7}{an od:Option PySem.Addr}{qk sl:Array vS}{T eW:String}{items:vP}{vals:Nat->vG×PySem.Addr}{XP:(PySem.Str->vS)->PySem.Heap->Prop}{YP:AR->PySem.Heap->Prop}{B:Au->Au->Au->Option PySem.Addr->Au->Au->vO->PySem.Sem (List (PySem.Str×Au))}{ix rc ly:vI}{tn St0:Nat->PySem.Heap->Prop}{as dk:vH}{κ:EM}{ss L:List vI}{owner:Array vT}{hashes:Array Int}{a₀ arr kP:Array AH}{left rd:Bool}{E':List (Nat×Nat)}{π:Nat->Nat}
namespace L2
inductive E2 {α0 α1:Type} (p:α0->α1->Prop):Prop
 | mk (a0:α0) (a1:α1) (h:p a0 a1):E2 p
inductive E4 {α0 α1 α2 α3:Type} (p:α0->α1->α2->α3->Prop):Prop
 | mk (a0:α0) (a1:α1) (a2:α2) (a3:α3) (h:p a0 a1 a2 a3):E4 p
inductive E5 {α0 α1 α2 α3 α4:Type} (p:α0->α1->α2->α3->α4->Prop):Prop
 | mk (a0:α0) (a1:α1) (a2:α2) (a3:α3) (a4:α4) (h:p a0 a1 a2 a3 a4):E5 p
inductive A3 (p0 p1 p2:Prop):Prop
 | mk (h0:p0) (h1:p1) (h2:p2):A3 p0 p1 p2
inductive A4 (p0 p1 p2 p3:Prop):Prop
 | mk (h0:p0) (h1:p1) (h2:p2) (h3:p3):A4 p0 p1 p2 p3
inductive A5 (p0 p1 p2 p3 p4:Prop):Prop
 | mk (h0:p0) (h1:p1) (h2:p2) (h3:p3) (h4:p4):A5 p0 p1 p2 p3 p4
inductive A6 (p0 p1 p2 p3 p4 p5:Prop):Prop
 | mk (h0:p0) (h1:p1) (h2:p2) (h3:p3) (h4:p4) (h5:p5):A6 p0 p1 p2 p3 p4 p5
end L2
namespace L2
open PySem PySem.Spec PyProof.Rows
abbrev Key:=Sum Int Str
noncomputable def keyIs:Key->Au->Bool
 | .inl k,v=>NI k v
 | .inr x,v=>WZ x v
noncomputable def keyH(w:AR):Key->Int
 | .inl k=>hashInt k
 | .inr x=>hashStr w x
theorem CG:∀{k:Key}{v:Au},keyIs k v=true->(∃i t,k=F0 i/\v=NJ i t)\/(∃x t,k=OQ x/\v=aa x t)
 | .inl i,v,h=>by
  obtain⟨t,e⟩:=G9 (k:=i) (v:=v) h;exact .inl ⟨i,t,ξ,e⟩
 | .inr x,v,h=>by
  obtain⟨t,e⟩:=Value.isStrOf_shape (x:=x) (v:=v) h;exact .inr ⟨x,t,ξ,e⟩
def Zh(i:Int)(t:Tok):keyIs (.inl i) (.int i t)=true:=by simp[keyIs,NI]
def AAf(x:Str)(t:Tok):keyIs (.inr x) (.str x t)=true:=by simp[keyIs,WZ]
def AGz(a b:Int):decide ((F0 a:Key)=F0 b)=(a==b):=by
 by_cases e:a=b
 .subst e;simp
 .have h:¬ (F0 a:Key)=F0 b:=λq=>e (Sum.inl.inj q)
  rw[vD h];exact(beq_eq_false_iff_ne.mpr e).symm
def AHU(a b:Str):decide ((OQ a:Key)=OQ b)=decide (a=b):=by
 by_cases e:a=b
 .subst e;simp
 .have h:¬ (OQ a:Key)=OQ b:=λq=>e (Sum.inr.inj q)
  rw[vD h,vD e]
def AGu(a:Int)(b:Str):decide ((F0 a:Key)=OQ b)=false:=vD (λq=>nomatch q)
def AHN(a:Str)(b:Int):decide ((OQ a:Key)=F0 b)=false:=vD (λq=>nomatch q)
noncomputable def CJ(prog:AL)(w:AR):PySem.KeyKind prog w Key where
 is:=keyIs
 hash:=keyH w
 inj:=λv a b ha hb=>by
  rcases CG ha with⟨i,t,rfl,rfl⟩| ⟨x,t,rfl,rfl⟩
  .rcases CG hb with⟨j,u,rfl,e⟩| ⟨y,u,rfl,e⟩
   .injection e with e1 _;rw[e1]
   .exact nomatch e
  .rcases CG hb with⟨j,u,rfl,e⟩| ⟨y,u,rfl,e⟩
   .exact nomatch e
   .injection e with e1 _;rw[e1]
 byValue:=λk v h=>by
  rcases CG h with⟨i,t,rfl,rfl⟩| ⟨x,t,rfl,rfl⟩<;>rfl
 pyHash:=λhv h=>by
  rcases CG hv with⟨i,t,rfl,rfl⟩| ⟨x,t,rfl,rfl⟩
  .exact UO h
  .exact wpAny_pyHash_str h
 eqBool:=λhu hv h=>by
  rcases CG hu with⟨i,t,rfl,rfl⟩| ⟨x,t,rfl,rfl⟩
  .rcases CG hv with⟨j,u,rfl,rfl⟩| ⟨y,u,rfl,rfl⟩
   .rw[AGz] at h;exact UP h
   .rw[AGu] at h;exact SK i t y u _ _ _ _ h
  .rcases CG hv with⟨j,u,rfl,rfl⟩| ⟨y,u,rfl,rfl⟩
   .rw[AHN] at h;exact SL x t j u _ _ _ _ h
   .rw[AHU] at h;exact wpAny_eqBool_str h
 «strs»:=λk x t v h=>by
  rcases CG h with⟨i,u,rfl,e⟩| ⟨y,u,rfl,e⟩
  .exact nomatch e
  .injection e with e1 _
   subst e1;cases v<;>rfl
def Vb(prog:AL)(w:AR)(i:Int)(t:Tok):(CJ prog w).is (.inl i) (.int i t)=true:=Zh i t
def Ve(prog:AL)(w:AR)(x:Str)(t:Tok):(CJ prog w).is (.inr x) (.str x t)=true:=AAf x t
inductive V where
 | non| bl (b:Bool)| int (i:Int)| str (x:Str)| byt (b:Array UInt8)| flt (b:UInt64)| ref (a:Addr)| ty (n:String)
 deriving DecidableEq
variable{xs:List L2.V}{v y:L2.V}
def RelV:V->Au->Prop
 | .non,u=>u=Db
 | .bl b,u=>u=KP b
 | .int i,u=>∃t,u=NJ i t
 | .str x,u=>∃t,u=aa x t
 | .byt b,u=>∃t,u=Value.bytes b t
 | .flt b,u=>∃t,u=Value.float b t
 | .ref a,u=>u=A7 a
 | .ty n,u=>u=CM n
abbrev Vals:List V->vO->Prop:=A9 RelV
def Vals.length(r:Vals xs us):xs.length=us.length:=AT r
theorem Vals.get:∀{xs:List V}{us:vO}{i:Nat}{x:V},Vals xs us->xs[i]?=u8 x->∃u,us[i]?=u8 u/\RelV x u
 | _,_,_,_,.nil,e=>by simp at e
 | _,_,0,_,.cons r _,e=>by simp at e;subst e;exact⟨_,ξ,r⟩
 | _,_,i+1,x,.cons _ t,e=>by
  obtain⟨u,h1,h2⟩:=Vals.get (i:=i) (x:=x) t (by simpa using e);exact⟨u,by simpa using h1,h2⟩
theorem Vals.set{x:V}(r:RelV x u):∀{xs:List V}{us:vO} (i:Nat),Vals xs us->Vals (xs.set i x) (us.set i u)
 | _,_,_,.nil=>.nil
 | _,_,0,.cons _ t=>.cons r t
 | _,_,i+1,.cons q t=>.cons q (Vals.set r i t)
def Vals.append:∀{xs ys:List V}{us ws:vO},Vals xs us->Vals ys ws->Vals (xs++ys) (us++ws):=by
 intro xs ys us ws h s
 induction h with
 | nil=>exact s
 | cons r t ih=>exact .cons r ih
theorem Vals.take:∀{xs:List V}{us:vO} (n:Nat),Vals xs us->Vals (xs.take n) (us.take n)
 | _,_,0,_=>.nil
 | _,_,_+1,.nil=>.nil
 | _,_,n+1,.cons r t=>.cons r (Vals.take n t)
theorem Vals.drop:∀{xs:List V}{us:vO} (n:Nat),Vals xs us->Vals (xs.drop n) (us.drop n)
 | _,_,0,r=>r
 | _,_,_+1,.nil=>.nil
 | _,_,n+1,.cons _ t=>Vals.drop n t
def RelO:Option V->vS->Prop
 | some v,u8 u=>RelV v u
 | none,u9=>True
 | _,_=>False
def KV{κ:Type}:List (κ×V)->List (κ×Au)->Prop:=A9 λ(p:κ×V) (q:κ×Au)=>p.1=q.1/\RelV p.2 q.2
noncomputable def kV:Key->V
 | .inl i=>.int i
 | .inr x=>.str x
inductive HO where
 | lst (xs:List V)
 | tup (xs:List V)
 | dK (aT:List (Key×V))| dT (aT:List (List Key×V))
 | set (S:Int->Bool) (n:Nat)
 | ins (C dx:Addr) (fs:List (Str×V))
 | own (x:Addr)
 | xd (fs:List (Str×V))
 | met (f x:Addr)
 | rng (lo hi:Int)
 | frz (o:Obj) (u:HO)
 | tbl (ps:vP)
 | ext (φ:Heap->Prop)
abbrev Hp:=Addr->Option HO
variable{H H':L2.Hp}
noncomputable def upd(H:Hp)(a:Addr)(o:HO):Hp:=λb=>if b=a then u8 o else H b
def Ab{o:HO}:upd H a o a=u8 o:=by unfold upd;rw[vB rfl]
def Ag{o:HO}(h:b≠a):upd H a o b=H b:=by unfold upd;rw[vA h]
def HW{o u:HO}:upd (upd H a o) a u=upd H a u:=by
 funext b;unfold upd;split<;>rfl
def Cu{o u:HO}(h:H a=u8 o)(h':H b=u8 u)(d:o≠u):a≠b:=by
 intro e;subst e;rw[h] at h';exact d (AM h')
def Ai{o:HO}(h:H a=u8 o)(h':H b=u9):a≠b:=by
 intro e;subst e;rw[h] at h';cases h'
section
variable (P:AL)(w:AR)
def ObjOk(H:Hp)(h:Heap)(a:Addr):HO->Prop
 | .lst xs=>xs.length<=sizeLine/\∃(a5:vO) (n:Nat),Vals xs a5/\h.get? a=u8 {cls:=.type "list",data:=.seq a5.toArray n}
 | .tup xs=>xs.length<=sizeLine/\∃a5:vO,Vals xs a5/\RE h a a5.toArray
 | .dK aT=>aT.length<=sizeLine/\(a==EA)=false/\∃vs,KV aT vs/\h.DictOf (CJ P w) a vs
 | .dT aT=>aT.length<=sizeLine/\(a==EA)=false/\∃xs:List (List Key×Addr×Au),
   A9 (λ(p:List Key×V) (q:List Key×Addr×Au)=>p.1=q.1/\H q.2.1=u8 (.tup (p.1.map kV))/\RelV p.2 q.2.2) aT xs /\
   ∃o es ep,h.get? a=u8 o/\o.ExactDict/\o.data=.dict es ep/\es.toList=xs.map (entryOfKey (NL (CJ P w)))/\(xs.map (·.1)).Nodup
 | .set S n=>h.SetOf (LO P w) a S n
 | .ins C dx fs=>H dx=u8 (.own a)/\fs.length<=1000/\dx≠a/\h.get? a=u8 (FI C dx) /\
   ∃mA,h.Ns1 dx mA/\(∀f,RelO (fs.lookup f) (mA f))/\SO mA (fs.map (·.1))
 | .own _=>∃o,h.get? a=u8 o
 | .xd fs=>∃mA,h.Ns1 a mA/\∀f,RelO (fs.lookup f) (mA f)
 | .rng lo hi=>∃t u v,h.get? a=u8 {cls:=.type "range",data:=.fields #[.int lo t,.int hi u,.int 1 v]}
 | .frz o u=>h.get? a=u8 o/\ObjOk H h a u
 | .tbl ps=>h.get? a=u8 {cls:=.none,data:=.fields ps}
 | .met f x=>h.get? a=u8 (PySem.W.methodObj (.ref f) (.ref x))
 | .ext φ=>φ h/\(∃o,h.get? a=u8 o)/\∀h1 h2:Heap,φ h1->(∀o,h1.get? a=u8 o->h2.get? a=u8 o)->φ h2
def HOk(H:Hp)(h:Heap):Prop:=∀a o,H a=u8 o->ObjOk P w H h a o
end
section
variable{o:HO}
def ObjOk.lt(x:ObjOk P w H h a o):a<h.objs.size:=by
 cases o with
 | lst xs=>obtain⟨_,_,_,_,e⟩:=x;exact Be e
 | tup xs=>obtain⟨_,_,_,p⟩:=x;exact p.lt
 | dK aT=>obtain⟨_,_,_,_,o,_,_,e,_⟩:=x;exact Be e
 | dT aT=>obtain⟨_,_,_,_,o,_,_,e,_⟩:=x;exact Be e
 | set S n=>obtain⟨o,_,_,_,e,_⟩:=x;exact Be e
 | ins C dx fs=>obtain⟨_,_,_,e,_⟩:=x;exact Be e
 | own y=>obtain⟨_,e⟩:=x;exact Be e
 | xd fs=>obtain⟨_,⟨_,_,_,e,_⟩,_⟩:=x;exact Be e
 | rng lo hi=>obtain⟨_,_,_,e⟩:=x;exact Be e
 | frz ob u=>obtain⟨e,_⟩:=x;exact Be e
 | tbl ps=>exact Be x
 | met f y=>exact Be x
 | ext φ=>obtain⟨_,⟨_,e⟩,_⟩:=x;exact Be e
def vV{F G:α->β->Prop}:∀{l₁:List α}{l₂:List β},A9 F l₁ l₂->(∀a b,F a b->G a b)->A9 G l₁ l₂:=by
 intro l m h f
 induction h with
 | nil=>exact .nil
 | cons r t ih=>exact .cons (f _ _ r) ih
def ObjOk.stay(x:ObjOk P w H h a o)(k:∀b u,(b=a\/H b=u8 (.own a))->h.get? b=u8 u->h'.get? b=u8 u)
  (ho:∀b,H b=u8 (.own a)->H' b=u8 (.own a)) (ht:∀b xs,H b=u8 (.tup xs)->H' b=u8 (.tup xs)):ObjOk P w H' h' a o:=by
 induction o with
 | lst xs=>obtain⟨z,a5,n,r,e⟩:=x;exact⟨z,a5,n,r,k _ _ (.inl rfl) e⟩
 | tup xs=>obtain⟨z,a5,r,ob,e,c⟩:=x;exact⟨z,a5,r,ob,k _ _ (.inl rfl) e,c⟩
 | dK aT=>obtain⟨z,y,vs,r,ob,es,ep,e,c⟩:=x;exact⟨z,y,vs,r,ob,es,ep,k _ _ (.inl rfl) e,c⟩
 | dT aT =>
  obtain⟨z,y,xs,r,ob,es,ep,e,c⟩:=x;exact⟨z,y,xs,vV r λp q z=>⟨z.1,ht _ _ z.2.1,z.2.2⟩,ob,es,ep,k _ _ (.inl rfl) e,c⟩
 | set S n=>obtain⟨ob,es,ep,t,e,c⟩:=x;exact⟨ob,es,ep,t,k _ _ (.inl rfl) e,c⟩
 | ins C dx fs =>
  obtain⟨d,z,ne,e,mA,⟨od,es,ep,e2,c⟩,r⟩:=x;exact⟨ho _ d,z,ne,k _ _ (.inl rfl) e,mA,⟨od,es,ep,k _ _ (.inr d) e2,c⟩,r⟩
 | own y=>obtain⟨ob,e⟩:=x;exact⟨ob,k _ _ (.inl rfl) e⟩
 | xd fs=>obtain⟨mA,⟨od,es,ep,e,c⟩,r⟩:=x;exact⟨mA,⟨od,es,ep,k _ _ (.inl rfl) e,c⟩,r⟩
 | rng lo hi=>obtain⟨t,u,v,e⟩:=x;exact⟨t,u,v,k _ _ (.inl rfl) e⟩
 | frz ob u ih=>obtain⟨e,q⟩:=x;exact⟨k _ _ (.inl rfl) e,ih q⟩
 | tbl ps =>
  have e:=x;exact k a _ (.inl rfl) e
 | met f y =>
  have e:=x;exact k a _ (.inl rfl) e
 | ext φ=>obtain⟨p,⟨o,e⟩,st⟩:=x;exact⟨st _ _ p λo q=>k _ _ (.inl rfl) q,⟨o,k _ _ (.inl rfl) e⟩,st⟩
def HOk.lt(x:HOk P w H h)(e:H a=u8 o):a<h.objs.size:=(x a o e).lt
def HOk.fresh(x:HOk P w H h)(e:h.objs.size<=a):H a=u9:=by
 cases q:H a with
 | none=>rfl
 | some u=>exact vF (Cn (x.lt q) e) (Ex _)
def HOk.kept(x:HOk P w H h)(k:∀b u,h.get? b=u8 u->h'.get? b=u8 u):HOk P w H h':=λa o e =>
 (x a o e).stay (λb u _ q=>k b u q) (λ_ q=>q) λ_ _ q=>q
def HOk.laid(x:HOk P w H h)(k:∀b u,h.get? b=u8 u->h'.get? b=u8 u)(hp:h.objs.size<=a)(new:ObjOk P w (upd H a o) h' a o):HOk P w (upd H a o) h':=λb u e=>by
 have hn:=x.fresh hp;by_cases hb:b=a
 .subst hb;rw[Ab] at e;cases e;exact new
 .rw[Ag hb] at e
  exact(x b u e).stay (λc v _ q=>k c v q) (λc q=>by rw[Ag (Ai q hn)];exact q) λc xs q=>by rw[Ag (Ai q hn)];exact q
end
def Rd(H:Hp)(a:Addr)(u:HO):Prop:=H a=u8 u\/∃o,H a=u8 (.frz o u)
def Rd.ok{u:HO}(r:Rd H a u)(x:HOk P w H h):ObjOk P w H h a u:=by
 rcases r with r| ⟨o,r⟩
 .exact x a u r
 .obtain⟨_,q⟩:=x a _ r
  exact q
def Mut:Option HO->Prop
 | some (.lst _)=>True
 | some (.dK _)=>True
 | some (.dT _)=>True
 | some (.set _ _)=>True
 | some (.ins _ _ _)=>True
 | some (.ext _)=>True
 | _=>False
section
variable{x e:Addr}{o':HO}
def HOk.write(ok:HOk P w H h)(mu:Mut (H x))(he:e=x\/H e=u8 (.own x))(k:∀b u,b≠e->h.get? b=u8 u->h'.get? b=u8 u)(tz:∃u,h'.get? e=u8 u)
  (new:ObjOk P w (upd H x o') h' x o'):HOk P w (upd H x o') h':=λb u q=>by
 have tP:∀c y,H c=u8 (.own y)->c≠x:=λc y r z=>by subst z;rw[r] at mu;exact mu
 have ntup:∀c xs,H c=u8 (.tup xs)->c≠x:=λc xs r z=>by subst z;rw[r] at mu;exact mu
 by_cases hb:b=x
 .subst hb;rw[Ab] at q;cases q;exact new
 .rw[Ag hb] at q
  by_cases hbe:b=e
  .have q':H b=u8 (.own x):=by
    rcases he with z| z
    .exact vF (hbe.trans z) hb
    .rw[hbe];exact z
   rw[q] at q';cases q';obtain⟨v,hv⟩:=tz;exact⟨v,by rw[hbe];exact hv⟩
  .refine(ok b u q).stay (λc v hc r=>k c v ?_ r) (λc r=>by rw[Ag (tP c b r)];exact r) λc xs r=>by rw[Ag (ntup c xs r)];exact r
   rcases hc with rfl| hc
   .exact hbe
   .rintro rfl
    rcases he with z| z
    .exact tP c b hc z
    .rw[hc] at z;cases z;exact hb rfl
end
structure Un(fs ex:vU)(H H':Hp)(h h':Heap):Prop where
 keep:∀b o,h.get? b=u8 o->H b=none->b∉fs->b∉ex->h'.get? b=u8 o
 slot:∀b o,h.get? b=u8 o->H b=none->b∈fs->b∉ex->∃sl,h'.get? b=u8 {o with slots:=sl}
 free:∀b o,h.get? b=u8 o->H b=none->b∉ex->H' b=u9
 there:∀b o,h.get? b=u8 o->b∉ex->∃o',h'.get? b=u8 o'
 tups:∀b xs,H b=u8 (.tup xs)->H' b=u8 (.tup xs)
 frzs:∀b o u,H b=u8 (.frz o u)->H' b=u8 (.frz o u)
 tbls:∀b ps,H b=u8 (.tbl ps)->∃more,H' b=u8 (.tbl (ps++more))
section
variable{fs fs' ex ex':vU}{H1 H2:Hp}{h1 h2:Heap}{x e:Addr}{o:HO}
def Un.any(u:Un fs ex H H1 h h1)(q:h.get? b=u8 ob)(n:H b=u9)(hx:b∉ex):∃sl,h1.get? b=u8 {ob with slots:=sl}:=by
 by_cases hb:b∈fs
 .exact u.slot b ob q n hb hx
 .exact⟨ob.slots,u.keep b ob q n hb hx⟩
def Un.kept(k:∀b u,h.get? b=u8 u->h'.get? b=u8 u):Un fs ex H H h h' :=
 ⟨λb ob q _ _ _=>k b ob q,λb ob q _ _ _=>⟨ob.slots,k b ob q⟩,λ_ _ _ n _=>n,λb ob q _=>⟨ob,k b ob q⟩,λ_ _ q=>q,λ_ _ _ q=>q,λ_ ps q=>⟨#[],by rw[q];simp⟩⟩
def Un.refl:Un fs ex H H h h:=Un.kept λ_ _ q=>q
def Un.laid(k:∀b u,h.get? b=u8 u->h'.get? b=u8 u)(hp:h.objs.size<=a)(hn:H a=u9):Un fs ex H (upd H a o) h h' where
 keep:=λb u q _ _ _=>k b u q
 slot:=λb u q _ _ _=>⟨u.slots,k b u q⟩
 free:=λb u q n _=>by rw[Ag (BF (Cn (Be q) hp))];exact n
 there:=λb u q _=>⟨u,k b u q⟩
 tups:=λb xs q=>by rw[Ag (Ai q hn)];exact q
 frzs:=λb u xs q=>by rw[Ag (Ai q hn)];exact q
 tbls:=λb ps q=>⟨#[],by rw[Ag (Ai q hn),q];simp⟩
def Un.write(mu:Mut (H x))(he:e=x\/H e=u8 (.own x))(k:∀b u,b≠e->h.get? b=u8 u->h'.get? b=u8 u)(tz:∃u,h'.get? e=u8 u):Un fs ex H (upd H x o) h h':=by
 have hx:∀b,H b=none->b≠x:=λb n z=>by subst z;rw[n] at mu;exact mu
 have hb:∀b,H b=none->b≠e:=λb n z=>by
  subst z;rcases he with r| r
  .exact hx b n r
  .rw[n] at r;cases r
 have hm:∀b u,H b=u8 u->¬ Mut (u8 u)->b≠x:=λb u q nm z=>by subst z;rw[q] at mu;exact nm mu
 refine⟨λb u q n _ _=>k b u (hb b n) q,λb u q n _ _=>⟨u.slots,k b u (hb b n) q⟩,λb u q n _=>by rw[Ag (hx b n)];exact n,λb u q _=>?_,
  λb xs q=>by rw[Ag (hm b _ q λz=>z)];exact q,λb u xs q=>by rw[Ag (hm b _ q λz=>z)];exact q,λb ps q=>⟨#[],by rw[Ag (hm b _ q λz=>z),q];simp⟩⟩
 by_cases hbe:b=e
 .subst hbe;exact tz
 .exact⟨u,k b u hbe q⟩
end
noncomputable def trk(h:Heap)(H:Hp):vU:=(AX h.objs.size).filter λa=>(H a).isSome
def hidT(h:Heap)(H:Hp):Heap:=PySem.W.hideAll h (trk h H)
def AAT(h:Heap)(H:Hp):(hidT h H).objs.size=h.objs.size:=PySem.W.hideAll_size _ _
def ACN(e:h.get? b=u8 o)(n:H b=u9):(hidT h H).get? b=u8 o :=
 PySem.W.hideAll_get _ e λhm=>by
  have q:=(BG.mp hm).2;rw[n] at q;simp at q
def AFG(e:(hidT h H).get? b=u8 o):h.get? b=u8 o/\H b=u9:=by
 have e':=PySem.W.of_hideAll (trk h H) e;refine⟨e',?_⟩;cases q:H b with
 | none=>rfl
 | some x =>
  have hm:b∈trk h H:=BG.mpr ⟨AU.mpr (Be e'),by simp[q]⟩;have z:(hidT h H).get? b=u9:=PySem.W.hideAll_none (trk h H) hm;rw[z] at e;cases e
structure Mod(K:As)(mg:vM)(base:Heap):Prop where
 kin:K.In base
 glob:base.Ns DB mg
 blt:∃mb,base.Ns VA mb/\∀x:Str,x≠"__name__"->mb x=HI x
 nolimit:base.NoLimit
structure Cx where
 prog:AL
 w:AR
 K:As
 mg:vM
 base:Heap
 A:BM
 N:vQ
 s₀:AA
 H₀:Hp
 env:Env
 outer:List Env
 stack:List Env
 ex:vU
 fn:Str->Bool
 calm:Bool
 pn:vN
 xe:Au->AA->Prop
variable{X:L2.Cx}
noncomputable def frs(l:List Env):vU:=l.filterMap (·.frame)
abbrev Cx.fs(X:Cx):vU:=frs X.outer
def Vis(sc:F7)(x:Str):Prop:=sc.names.lookup x=u8 .local\/sc.names.lookup x=u8 .cell\/sc.names.lookup x=u8 .free
def Loc(sc:F7)(x:Str):Prop:=sc.names.lookup x=u8 .local\/sc.names.lookup x=u8 .cell
def Look(env:Env)(h:Heap)(m:vM)(x:Str)(u:Au):Prop :=
 (env.kindOf x=u8 .local/\m x=u8 u)\/((env.kindOf x=u8 .cell\/env.kindOf x=u8 .free)/\∃c,env.cells.lookup x=u8 c/\h.IsCell c (u8 u))
structure Cx.Ok(X:Cx):Prop where
 mod:Mod X.K X.mg X.base
 kind:X.env.scope.kind=.function
 glob:X.env.globals=DB
 blt:X.env.builtins=VA
 above:X.s₀.heap.objs.size<=X.env.locals
 inj:∀x y c,X.env.cells.lookup x=u8 c->X.env.cells.lookup y=u8 c->x=y
 has:∀x,(X.env.kindOf x=u8 .cell\/X.env.kindOf x=u8 .free)->∃c,X.env.cells.lookup x=u8 c
 cab:∀x c,X.fn x=true->X.env.cells.lookup x=u8 c->X.s₀.heap.objs.size<=c
 hd:X.calm=true->X.A.handled=u9
 frames:X.A.frames=u8 X.stack
 stk:X.stack=X.outer\/(X.stack=X.env::X.outer/\X.env.frame=u8 X.env.locals)
 exf:∀b∈X.ex,b≠X.env.locals/\∀x c,X.env.cells.lookup x=u8 c->c≠b
 bs:∀b o,X.base.get? b=u8 o->X.s₀.heap.get? b=u8 o/\X.H₀ b=u9
 bsz:X.base.objs.size<=X.s₀.heap.objs.size
 noex:∀b o,X.base.get? b=u8 o->b∉X.ex
 exfs:∀b∈X.ex,b∉X.fs
 funs:X.s₀.heap.FunFrames X.base X.outer
 frf:∀b∈X.fs,X.H₀ b=u9
structure Inv(X:Cx)(aI:vN)(σ:List (Option V))(H:Hp)(s:AA):Prop where
 ok:X.Ok
 os:s.os=X.s₀.os
 bare:My s.gens
 base:Un X.fs X.ex X.H₀ H X.s₀.heap s.heap
 loc:∃m,s.heap.Ns X.env.locals m/\∀(i:Nat) (x:Str) (v:V),X.N[i]?=u8 x->σ[i]?=u8 (u8 v)->Vis X.env.scope x->∃u,RelV v u/\Look X.env s.heap m x u
 cell:∀x c,X.env.cells.lookup x=u8 c->∃v,s.heap.IsCell c v
 free:H X.env.locals=u9
 freeC:∀x c,X.env.cells.lookup x=u8 c->H c=u9
 pin:∀p∈X.pn++aI,s.heap.get? p.1=u8 p.2/\H p.1=u9/\p.1≠X.env.locals/\p.1∉X.fs/\∀v,p.2.data≠.cell v
 hok:HOk X.prog X.w H s.heap
 len:σ.length=X.N.length
section
variable{σ:List (Option V)}
def Cx.Ok.nofr(ok:X.Ok)(e:X.base.get? b=u8 o):b∉X.fs:=λhb=>by
 have:=(ok.funs.mem hb).1;rw[e] at this;cases this
def Inv.bs(I:Inv X aI σ H s):∀b o,X.base.get? b=u8 o->s.heap.get? b=u8 o/\H b=u9:=λb o e =>
 ⟨I.base.keep b o (I.ok.bs b o e).1 (I.ok.bs b o e).2 (I.ok.nofr e) (I.ok.noex b o e),I.base.free b o (I.ok.bs b o e).1 (I.ok.bs b o e).2 (I.ok.noex b o e)⟩
def Inv.bk(I:Inv X aI σ H s):∀b o,X.base.get? b=u8 o->s.heap.get? b=u8 o:=λb o e=>(I.bs b o e).1
def Inv.mod(I:Inv X aI σ H s):Mod X.K X.mg X.base:=I.ok.mod
def Inv.kIn(I:Inv X aI σ H s):X.K.In s.heap:=I.ok.mod.kin.keeps I.bk
def Inv.lt(I:Inv X aI σ H s):X.env.locals<s.heap.objs.size:=by obtain⟨_,hn,_⟩:=I.loc;exact hn.lt
def Inv.sz(I:Inv X aI σ H s):X.s₀.heap.objs.size<=s.heap.objs.size:=BQ I.ok.above (D7 I.lt)
def Inv.nofs(I:Inv X aI σ H s)(h:s.heap.objs.size<=a):a∉X.fs:=λhb=>by
 obtain⟨_,o,ho,_⟩:=I.ok.funs.mem hb;exact vF (Cn (Be ho) (BQ I.sz h)) (Ex _)
def Inv.cne(I:Inv X aI σ H s):∀x c,X.env.cells.lookup x=u8 c->c≠X.env.locals:=λx c e z=>by
 obtain⟨v,o,ho,hd⟩:=I.cell x c e;obtain⟨m,⟨o',es,ep,fh,eh,_⟩,_⟩:=I.loc;rw[z,fh] at ho;cases ho;rw[eh] at hd;cases hd
def Inv.funs(I:Inv X aI σ H s):s.heap.FunFrames X.base X.outer:=by
 have all:∀(l:List Env),(∀b∈frs l,b∈X.fs)->X.s₀.heap.FunFrames X.base l->s.heap.FunFrames X.base l:=by
  intro l
  induction l with
  | nil=>intro _ _;trivial
  | cons env r ih =>
   intro hs hl;obtain⟨hk,⟨L,o,hf,hn,ho,hd⟩,hr⟩:=hl;have hL:=hs L (by unfold frs;rw[JI,hf];exact AF);obtain⟨sl,e⟩:=I.base.slot L o ho (I.ok.frf L hL) hL λz=>I.ok.exfs L z hL;exact⟨hk,⟨L,_,hf,hn,e,hd⟩,ih (λb hb=>hs b (by unfold frs;rw[JI,hf];exact AJ _ hb)) hr⟩
 exact all X.outer (λ_ hb=>hb) I.ok.funs
def Inv.stack(I:Inv X aI σ H s):s.heap.FunFrames X.base X.stack:=by
 rcases I.ok.stk with e| ⟨e,hf⟩
 .rw[e];exact I.funs
 .rw[e]
  obtain⟨m,hn,_⟩:=I.loc;refine .cons (by rw[I.ok.kind];decide) hf hn ?_ I.funs;exact Heap.get?_none_of_le (BQ I.ok.bsz I.ok.above)
def Inv.stkSub(I:Inv X aI σ H s):∀b∈frs X.stack,b∈X.env.locals::X.fs:=λb hb=>by
 rcases I.ok.stk with e| ⟨e,hf⟩
 .rw[e] at hb;exact AJ _ hb
 .rw[e] at hb
  unfold frs at hb;rw[JI,hf] at hb;exact hb
def Inv.stkFree(I:Inv X aI σ H s):∀b∈frs X.stack,H b=u9:=λb hb=>by
 rcases AY.mp (I.stkSub b hb) with e| hb
 .rw[e];exact I.free
 .obtain⟨_,o,ho,_⟩:=I.ok.funs.mem hb
  exact I.base.free b o ho (I.ok.frf b hb) λz=>I.ok.exfs b z hb
def Inv.step{d':Drawn}(I:Inv X aI σ H s)
  (jv:∀b∈ch,(b∈X.ex\/X.s₀.heap.objs.size<=b)/\b≠X.env.locals/\(∀x c,X.env.cells.lookup x=u8 c->c≠b)/\∀p∈X.pn++aI,p.1≠b)
  (keep:∀b o,b≠X.env.locals->b∉X.fs->b∉ch->s.heap.get? b=u8 o->H b=none->h'.get? b=u8 o)
  (slot:∀b o,b≠X.env.locals->b∈X.fs->b∉ch->s.heap.get? b=u8 o->H b=none->∃sl,h'.get? b=u8 {o with slots:=sl}) (free:∀b o,b∉ch->s.heap.get? b=u8 o->H b=none->H' b=u9)
  (there:∀b o,b∉ch->s.heap.get? b=u8 o->∃o',h'.get? b=u8 o')
  (tups:∀b xs,H b=u8 (.tup xs)->H' b=u8 (.tup xs)) (frzs:∀b o u,H b=u8 (.frz o u)->H' b=u8 (.frz o u)) (tbls:∀b ps,H b=u8 (.tbl ps)->∃more,H' b=u8 (.tbl (ps++more)))
  (ns:∀m,s.heap.Ns X.env.locals m->h'.Ns X.env.locals m) (hok:HOk X.prog X.w H' h') (hg:My g') :
  Inv X aI σ H' {s with heap:=h',gens:=g',drawn:=d',toks:=t'}:=by
 have oj:∀b o,X.s₀.heap.get? b=u8 o->b≠X.env.locals:=λb o e=>BF (Cn (Be e) I.ok.above);have neC:∀b o,X.s₀.heap.get? b=u8 o->b∉X.ex->b∉ch:=λb o e hx hb=>by
  rcases (jv b hb).1 with z| z
  .exact hx z
  .exact vF (Cn (Be e) z) (Ex _)
 have qf:∀x c,X.env.cells.lookup x=u8 c->∀v,s.heap.IsCell c v->h'.IsCell c v:=by
  rintro x c e v ⟨o,ho,hd⟩;have tV:c∉ch:=λz=>(jv c z).2.2.1 x c e rfl;by_cases hc:c∈X.fs
  .obtain⟨sl,q⟩:=slot c o (I.cne x c e) hc tV ho (I.freeC x c e)
   exact⟨_,q,hd⟩
  .exact⟨o,keep c o (I.cne x c e) hc tV ho (I.freeC x c e),hd⟩
 refine⟨I.ok,I.os,hg,⟨λb o e n hb hx=>?_,λb o e n hb hx=>?_,λb o e n hx=>?_,λb o e hx=>?_,λb xs e=>tups b xs (I.base.tups b xs e),λb o xs e=>frzs b o xs (I.base.frzs b o xs e),λb ps e=>?_⟩,?_,λx c e=>?_,?_,λx c e=>?_,λp hp=>?_,hok,I.len⟩
 .exact keep b o (oj b o e) hb (neC b o e hx) (I.base.keep b o e n hb hx) (I.base.free b o e n hx)
 .obtain⟨sl,e1⟩:=I.base.slot b o e n hb hx
  obtain⟨sl',e2⟩:=slot b _ (oj b o e) hb (neC b o e hx) e1 (I.base.free b o e n hx);exact⟨sl',e2⟩
 .obtain⟨o',e1⟩:=I.base.there b o e hx
  exact free b o' (neC b o e hx) e1 (I.base.free b o e n hx)
 .obtain⟨o',e1⟩:=I.base.there b o e hx
  exact there b o' (neC b o e hx) e1
 .obtain⟨m1,e1⟩:=I.base.tbls b ps e
  obtain⟨m2,e2⟩:=tbls b _ e1;exact⟨m1++m2,by rw[e2,Array.append_assoc]⟩
 .obtain⟨m,hn,hl⟩:=I.loc
  refine⟨m,ns m hn,λi x v e1 e2 e3=>?_⟩;obtain⟨u,r,l⟩:=hl i x v e1 e2 e3;refine⟨u,r,?_⟩;rcases l with l| ⟨k,c,e,z⟩
  .exact .inl l
  .exact .inr ⟨k,c,e,qf x c e _ z⟩
 .obtain⟨v,z⟩:=I.cell x c e
  exact⟨v,qf x c e v z⟩
 .obtain⟨m,⟨o,_,_,ho,_⟩,_⟩:=I.loc
  exact free _ o (λz=>(jv _ z).2.1 rfl) ho I.free
 .obtain⟨v,o,ho,hd⟩:=I.cell x c e
  exact free c o (λz=>(jv c z).2.2.1 x c e rfl) ho (I.freeC x c e)
 .obtain⟨e,n,ne,nf,d⟩:=I.pin p hp
  have tV:p.1∉ch:=λz=>(jv p.1 z).2.2.2 p hp rfl;exact⟨keep p.1 p.2 ne nf tV e n,free p.1 p.2 tV e n,ne,nf,d⟩
def Inv.un(I:Inv X aI σ H s)(u:Un X.fs [] H H' s.heap h')(hok:HOk X.prog X.w H' h'):Inv X aI σ H' {s with heap:=h',toks:=t'}:=by
 obtain⟨m,⟨o,es,ep,ho,r⟩,_⟩:=id I.loc;obtain⟨sl,hL⟩:=u.any ho I.free θ;exact I.step (g':=s.gens) (d':=s.drawn) (ch:=[]) (λ_ z=>nomatch z) (λb o _ hb _ e n=>u.keep b o e n hb θ) (λb o _ hb _ e n=>u.slot b o e n hb θ) (λb o _ e n=>u.free b o e n θ) (λb o _ e=>u.there b o e θ) u.tups u.frzs u.tbls (λm' hm=>by
  obtain⟨o',cr,ky,fh,r'⟩:=hm;rw[ho] at fh;cases fh;exact⟨_,cr,ky,hL,r'⟩) hok I.bare
def Inv.call{d':Drawn}(I:Inv X aI σ H s)(u:Un (frs X.stack) ch H H' s.heap h')(hok:HOk X.prog X.w H' h')(hg:My g')
  (jv:∀b∈ch,(b∈X.ex\/X.s₀.heap.objs.size<=b)/\b≠X.env.locals/\(∀x c,X.env.cells.lookup x=u8 c->c≠b)/\∀p∈X.pn++aI,p.1≠b) :
  Inv X aI σ H' {s with heap:=h',gens:=g',drawn:=d',toks:=t'}:=by
 obtain⟨m,⟨o,es,ep,ho,r⟩,_⟩:=id I.loc;obtain⟨sl,hL⟩:=u.any ho I.free λz=>(jv _ z).2.1 rfl;exact I.step (ch:=ch) jv (λb o hL hb hc e n=>u.keep b o e n (λz=>(AY.mp (I.stkSub b z)).elim hL hb) hc) (λb o _ _ hc e n=>u.any e n hc) (λb o hc e n=>u.free b o e n hc) (λb o hc e=>u.there b o e hc) u.tups u.frzs u.tbls (λm' hm=>by
  obtain⟨o',cr,ky,fh,r'⟩:=hm;rw[ho] at fh;cases fh;exact⟨_,cr,ky,hL,r'⟩) hok hg
def Inv.turned(I:Inv X aI σ H s)(k:∀b o,b≠it->s.heap.get? b=u8 o->h'.get? b=u8 o)(hn:H it=u9)(hL:it≠X.env.locals)
  (h1:it∈X.ex\/X.s₀.heap.objs.size<=it) (h2:∀x c,X.env.cells.lookup x=u8 c->c≠it) (h3:∀p∈X.pn++aI,p.1≠it):Inv X aI σ H {s with heap:=h',toks:=t'}:=by
 have uG:∀b u,H b=u8 u->b≠it:=λb u e z=>by rw[z,hn] at e;cases e
 refine I.step (g':=s.gens) (d':=s.drawn) (ch:=[it]) (λb hb=>?_) (λb o _ _ hc e _=>k b o (λz=>hc (by simp[z])) e) (λb o _ _ hc e _=>⟨o.slots,k b o (λz=>hc (by simp[z])) e⟩) (λ_ _ _ _ n=>n)
  (λb o hc e=>⟨o,k b o (λz=>hc (by simp[z])) e⟩) (λ_ _ e=>e) (λ_ _ _ e=>e) (λb ps e=>⟨#[],by rw[e];simp⟩) (λm hm=>?_) (λb u e=>?_) I.bare
 .have e:b=it:=by simpa using hb
  subst e;exact⟨h1,hL,h2,h3⟩
 .obtain⟨o,es,ep,ho,r⟩:=hm
  exact⟨o,es,ep,k _ o (BU hL) ho,r⟩
 .refine(I.hok b u e).stay (λc v hc q=>k c v ?_ q) (λ_ q=>q) λ_ _ q=>q
  rcases hc with z| z
  .rw[z];exact uG b u e
  .exact uG c _ z
def Inv.tok(I:Inv X aI σ H s)(t:Nat):Inv X aI σ H {s with toks:=t}:=I.un (h':=s.heap) (t':=t) Un.refl I.hok
def Inv.kept(I:Inv X aI σ H s)(k:∀b u,s.heap.get? b=u8 u->h'.get? b=u8 u):Inv X aI σ H {s with heap:=h',toks:=t'}:=I.un (Un.kept k) (I.hok.kept k)
def Inv.laid{o:HO}(I:Inv X aI σ H s)(k:∀b u,s.heap.get? b=u8 u->h'.get? b=u8 u)(hp:s.heap.objs.size<=a)(new:ObjOk X.prog X.w (upd H a o) h' a o) :
  Inv X aI σ (upd H a o) {s with heap:=h',toks:=t'}:=I.un (Un.laid k hp (I.hok.fresh hp)) (I.hok.laid k hp new)
def Inv.write{x e:Addr}{o:HO}(I:Inv X aI σ H s)(mu:Mut (H x))(he:e=x\/H e=u8 (.own x))(k:∀b u,b≠e->s.heap.get? b=u8 u->h'.get? b=u8 u)(tz:∃u,h'.get? e=u8 u)
  (new:ObjOk X.prog X.w (upd H x o) h' x o):Inv X aI σ (upd H x o) {s with heap:=h',toks:=t'}:=I.un (Un.write mu he k tz) (I.hok.write mu he k tz new)
def Inv.pins_of{qi:vN}(I:Inv X aI σ H s)(h:∀p∈qi,s.heap.get? p.1=u8 p.2/\H p.1=u9/\p.1≠X.env.locals/\p.1∉X.fs/\∀v,p.2.data≠.cell v):Inv X qi σ H s :=
 ⟨I.ok,I.os,I.bare,I.base,I.loc,I.cell,I.free,I.freeC,λp hp=>(Cf.mp hp).elim (λz=>I.pin p (F9 _ z)) (h p),I.hok,I.len⟩
def Tw{N:vQ}(hN:N.Nodup)(a:N[i]?=u8 x)(b:N[j]?=u8 x):i=j:=by
 obtain⟨h1,e1⟩:=AG.mp a;obtain⟨h2,e2⟩:=AG.mp b;exact(UR hN).mp (e1.trans e2.symm)
theorem zB1(h:True:=by first| exact .inl rfl| exact .inr rfl| assumption):True:=h
def PL{M:VC}{Q:vL}(I:Inv X aI σ H s)(hN:X.N.Nodup)(hi:X.N[i]?=u8 x)(hx:Loc X.env.scope x)(r:RelV v u)
  (h:∀s',Inv X aI (σ.set i (u8 v)) H s'->(∃a,ET a s.heap s'.heap/\(a=X.env.locals\/X.env.cells.lookup x=u8 a))->Q () s') (hf:autoParam (X.fn x=true\/X.env.scope.names.lookup x=u8 .local) zB1._auto_1):wpAny M A (storeName X.env x u) Q E s:=by
 obtain⟨m,hn,hl⟩:=id I.loc;have hcls:(X.env.scope.kind == .class||(X.env.scope.kind == .module&&X.env.locals != X.env.globals))=false:=by rw[I.ok.kind];rfl
 have hiσ:i<σ.length:=by rw[I.len];exact(AG.mp hi).1
 have cne:=I.cne;have ii:∀{a:Addr}{h':Heap},(∃o,s.heap.get? a=u8 o/\H a=u9)->ET a s.heap h'->HOk X.prog X.w H h':=λ{a h'} ha hs b ob e=>by
  obtain⟨_,_,oB⟩:=ha;refine(I.hok b ob e).stay (λc w' hc q=>(hs.2 c ?_).trans q) (λ_ q=>q) λ_ _ q=>q;rintro rfl;rcases hc with rfl| hc
  .rw[oB] at e;cases e
  .rw[oB] at hc;cases hc
 rcases hx with hk| hk
 .refine wpAny_storeName_local hk hn (λh' ur hs=>?_) hcls
  obtain⟨oL,_,_,i8,_⟩:=id hn;refine h _ ⟨I.ok,I.os,I.bare,⟨λb o e n hb hx=>?_,λb o e n hb hx=>?_,I.base.free,λb o e hx=>?_,I.base.tups,I.base.frzs,I.base.tbls⟩,⟨_,ur,λj y v' e1 e2 e3=>?_⟩,λy c e=>?_,I.free,I.freeC,λp hp=>?_,ii ⟨oL,i8,I.free⟩ hs,by simpa using I.len⟩ ⟨_,hs,.inl rfl⟩
  .exact(hs.2 b (BF (Cn (Be e) I.ok.above))).trans (I.base.keep b o e n hb hx)
  .obtain⟨sl,e1⟩:=I.base.slot b o e n hb hx
   exact⟨sl,(hs.2 b (BF (Cn (Be e) I.ok.above))).trans e1⟩
  .obtain⟨o',e1⟩:=I.base.there b o e hx
   exact⟨o',(hs.2 b (BF (Cn (Be e) I.ok.above))).trans e1⟩
  .by_cases hj:j=i
   .subst hj
    rw[hi] at e1;cases e1;rw[Kb hiσ] at e2;cases e2;exact⟨u,r,.inl ⟨hk,θ⟩⟩
   .rw[KS (BU hj)] at e2
    obtain⟨u',r',q⟩:=hl j y v' e1 e2 e3;refine⟨u',r',?_⟩;rcases q with⟨k,e⟩| ⟨k,c,e,z⟩
    .refine .inl ⟨k,?_⟩
     have:y≠x:=λe=>hj (Tw hN e1 (e ▸ hi));simp[this,e]
    .exact .inr ⟨k,c,e,z.sameBut hs (cne y c e)⟩
  .obtain⟨w',z⟩:=I.cell y c e
   exact⟨w',z.sameBut hs (cne y c e)⟩
  .obtain⟨e,n,ne,nf,d⟩:=I.pin p hp
   exact⟨(hs.2 p.1 ne).trans e,n,ne,nf,d⟩
 .have hfn:X.fn x=true:=by
   rcases hf with z| z
   .exact z
   .rw[z] at hk;cases hk
  obtain⟨c,hc⟩:=I.ok.has x (.inl hk);obtain⟨w',z⟩:=I.cell x c hc;refine wpAny_storeName_cell I.ok.kind hk hc z (λh' uC hs=>?_);obtain⟨oc,hoc,hocd⟩:=id z;refine h {s with heap:=h'} ⟨I.ok,I.os,I.bare,⟨λb o e n hb hx=>?_,λb o e n hb hx=>?_,I.base.free,λb o e hx=>?_,I.base.tups,I.base.frzs,I.base.tbls⟩,⟨m,hn.sameBut hs (BU (cne x c hc)),λj y v' e1 e2 e3=>?_⟩,λy c' e=>?_,I.free,I.freeC,λp hp=>?_,ii ⟨oc,hoc,I.freeC x c hc⟩ hs,by simpa using I.len⟩ ⟨c,hs,.inr hc⟩
  .exact(hs.2 b (BF (Cn (Be e) (I.ok.cab x c hfn hc)))).trans (I.base.keep b o e n hb hx)
  .obtain⟨sl,e1⟩:=I.base.slot b o e n hb hx
   exact⟨sl,(hs.2 b (BF (Cn (Be e) (I.ok.cab x c hfn hc)))).trans e1⟩
  .obtain⟨o',e1⟩:=I.base.there b o e hx
   exact⟨o',(hs.2 b (BF (Cn (Be e) (I.ok.cab x c hfn hc)))).trans e1⟩
  .by_cases hj:j=i
   .subst hj
    rw[hi] at e1;cases e1;rw[Kb hiσ] at e2;cases e2;exact⟨u,r,.inr ⟨.inl hk,c,hc,uC⟩⟩
   .rw[KS (BU hj)] at e2
    obtain⟨u',r',q⟩:=hl j y v' e1 e2 e3;refine⟨u',r',?_⟩;rcases q with q| ⟨k,c',e,z'⟩
    .exact .inl q
    .refine .inr ⟨k,c',e,z'.sameBut hs ?_⟩
     rintro rfl;exact hj (Tw hN e1 (I.ok.inj _ _ _ e hc ▸ hi))
  .by_cases hcc:c'=c
   .subst hcc;exact⟨_,uC⟩
   .obtain⟨w2,z2⟩:=I.cell y c' e
    exact⟨w2,z2.sameBut hs hcc⟩
  .obtain⟨e,n,ne,nf,d⟩:=I.pin p hp
   refine⟨(hs.2 p.1 ?_).trans e,n,ne,nf,d⟩;intro q;rw[q,hoc] at e;have q':=AM e;exact d w' (by rw[<- q'];exact hocd)
def Um{M:VC}{Q:vL}(I:Inv X aI σ H s)(hN:X.N.Nodup)(hi:X.N[i]?=u8 x)(hx:Loc X.env.scope x)(r:RelV v u)
  (h:∀s',Inv X aI (σ.set i (u8 v)) H s'->Q () s') (hf:autoParam (X.fn x=true\/X.env.scope.names.lookup x=u8 .local) zB1._auto_1):wpAny M A (storeName X.env x u) Q E s :=
 PL I hN hi hx r (λs' I' _=>h s' I') hf
def Inv.call'(I:Inv X aI σ H s)(ho:s'.os=s.os)(u:Un (frs X.stack) ch H H' s.heap s'.heap)(hok:HOk X.prog X.w H' s'.heap)(hg:My s'.gens)
  (jv:∀b∈ch,(b∈X.ex\/X.s₀.heap.objs.size<=b)/\b≠X.env.locals/\(∀x c,X.env.cells.lookup x=u8 c->c≠b)/\∀p∈X.pn++aI,p.1≠b):Inv X aI σ H' s':=by
 obtain⟨h',g',d',t',o'⟩:=s';have e:=ho;subst e;exact I.call (g':=g') (t':=t') (d':=d') u hok hg jv
end
abbrev XK:=Au->Option Addr->Hp->Prop
abbrev St:=List (Option V)
variable{σ:L2.St}
abbrev VK:=V->Hp->Prop
abbrev TE:=St->Hp->VK->Prop
variable{te tl:L2.TE}
abbrev TT:=St->Hp->(Bool->Hp->Prop)->Prop
variable{tc:L2.TT}
abbrev TA:=St->Hp->(List V->Hp->Prop)->Prop
structure Ends where
 nx:St->Hp->Prop
 rt:VK
 bk:St->Hp->Prop:=λ_ _=>False
 ct:St->Hp->Prop:=λ_ _=>False
abbrev TS:=Ends->St->Hp->Prop
variable{tb:L2.TS}
def EP(X:Cx)(aI:vN)(σ:St)(Q:VK)(u:Au)(s':AA):Prop:=∃v H',Inv X aI σ H' s'/\RelV v u/\Q v H'
def TP(X:Cx)(aI:vN)(σ:St)(Q:Bool->Hp->Prop)(b:Bool)(s':AA):Prop:=∃H',Inv X aI σ H' s'/\Q b H'
def AP(X:Cx)(aI:vN)(σ:St)(Q:List V->Hp->Prop)(us:vO)(s':AA):Prop:=∃vs H',Inv X aI σ H' s'/\Vals vs us/\Q vs H'
def SP(X:Cx)(aI:vN)(D:Ends)(f:Flow)(s':AA):Prop :=
 match f with
 | .next=>∃σ' H',Inv X aI σ' H' s'/\D.nx σ' H'
 | .brk=>∃σ' H',Inv X aI σ' H' s'/\D.bk σ' H'
 | .cont=>∃σ' H',Inv X aI σ' H' s'/\D.ct σ' H'
 | .ret u=>∃v σ' H',Inv X aI σ' H' s'/\RelV v u/\D.rt v H'
def PE(X:Cx)(e:Expr)(t:TE):Prop :=
 ∀(aI:vN) (s:AA) (σ:St) (H:Hp) (Q:VK),Inv X aI σ H s->t σ H Q->wpAny (AN X.prog X.w) X.A (eval e X.env) (EP X aI σ Q) X.xe s
def PT(X:Cx)(e:Expr)(t:TT):Prop :=
 ∀(aI:vN) (s:AA) (σ:St) (H:Hp) (Q:Bool->Hp->Prop),Inv X aI σ H s->t σ H Q->wpAny (AN X.prog X.w) X.A (VE e X.env (eval e X.env)) (TP X aI σ Q) X.xe s
def PW(X:Cx)(e:Expr)(t:TT):Prop :=
 ∀(ip:Sem Au) (aI:vN) (s:AA) (σ:St) (H:Hp) (Q:Bool->Hp->Prop),Inv X aI σ H s->t σ H Q->wpAny (AN X.prog X.w) X.A (VE e X.env ip) (TP X aI σ Q) X.xe s
def vW{t:TT}(h:PW X e t):PT X e t:=h _
def PA(X:Cx)(es:vR)(t:TA):Prop :=
 ∀(pos:Pos) (aI:vN) (s:AA) (σ:St) (H:Hp) (Q:List V->Hp->Prop),Inv X aI σ H s->t σ H Q->wpAny (AN X.prog X.w) X.A (V6 (FB pos (B3 es X.env))) (AP X aI σ Q) X.xe s
def PS(X:Cx)(st:Stmt)(t:TS):Prop :=
 ∀(aI:vN) (s:AA) (σ:St) (H:Hp) (D:Ends),Inv X aI σ H s->t D σ H->wpAny (AN X.prog X.w) X.A (exec st X.env) (SP X aI D) X.xe s
def PSs(X:Cx)(st:List Stmt)(t:TS):Prop :=
 ∀(aI:vN) (s:AA) (σ:St) (H:Hp) (D:Ends),Inv X aI σ H s->t D σ H->wpAny (AN X.prog X.w) X.A (execs st X.env) (SP X aI D) X.xe s
def thn{t:Sem α}{Q Q':α->AA->Prop}{M:VC}(h:wpAny M A t Q E s)(hQ:∀a s,Q a s->Q' a s):wpAny M A t Q' E s:=D9 h hQ λ_ _ x=>x
section
def AIZ(i:Nat):TE:=λσ H Q=>∃v,σ[i]?=u8 (u8 v)/\Q v H
def tC(v:V):TE:=λ_ H Q=>Q v H
def AGo(hN:X.N[i]?=u8 x)(hv:Vis X.env.scope x)(hd:autoParam ((x==("__debug__" : Str))=false) zA1._auto_1)(kc:autoParam ((x==("__classdict__" : Str))=false) zA1._auto_1):PE X (.Name x pos) (AIZ i):=by
 intro aI s σ H Q I h;obtain⟨v,e,h⟩:=h;obtain⟨m,hn,hl⟩:=I.loc;obtain⟨u,r,l⟩:=hl i x v hN e hv;have fin:EP X aI σ Q u s:=⟨v,H,I,r,h⟩;rcases l with⟨hk,hm⟩| ⟨hk,c,hc,ig⟩
 .exact VI (wpAny_loadName_local I.ok.kind hk hn hm fin) hd
 .rcases hk with hk| hk
  .exact VI (wpAny_loadName_cell I.ok.kind hk hc ig fin) hd
  .exact VI (wpAny_loadName_free I.ok.kind hk hc ig fin kc) hd
def Ae{i j pos}:PE X (.Constant (.int i) j pos) (tC (.int i)):=λ_ _ _ H _ I h=>wpAny_Constant_int ⟨.int i,H,I.tok _,⟨_,ξ⟩,h⟩
def KH{b j pos}:PE X (.Constant (.bool b) j pos) (tC (.bl b)):=λ_ _ _ H _ I h=>Constant_bool ⟨.bl b,H,I,ξ,h⟩
def IW{j pos}:PE X (.Constant .none j pos) (tC .non):=λ_ _ _ H _ I h=>Se ⟨.non,H,I,ξ,h⟩
def Gl(X:Cx)(x:Str):Prop:=X.env.kindOf x=u8 .globalImplicit
def La(I:Inv X aI σ H s)(hg:Gl X x)(hm:X.mg x=u8 u)(h:Q u s)
  (hd:autoParam ((x==("__debug__" : Str))=false) zA1._auto_1):wpAny (AN X.prog X.w) X.A (eval (.Name x pos) X.env) Q E s :=
 N3 I.ok.kind hg (Calls.loadGlobal_global (by rw[I.ok.glob];exact I.mod.glob.keeps I.bk) hm h) hd
def El(I:Inv X aI σ H s)(hg:Gl X x)(hm:X.mg x=u9)(hv:HI x=u8 u)(h:Q u s)
  (hn:autoParam (x≠"__name__") zA1._auto_1) (hd:autoParam ((x==("__debug__" : Str))=false) zA1._auto_1):wpAny (AN X.prog X.w) X.A (eval (.Name x pos) X.env) Q E s:=by
 obtain⟨mb,h1,h2⟩:=I.mod.blt;exact N3 I.ok.kind hg (Calls.loadGlobal_builtin (by rw[I.ok.glob];exact I.mod.glob.keeps I.bk) hm (by rw[I.ok.blt];exact h1.keeps I.bk) ((h2 x hn).trans hv) h) hd
def Fo(hg:Gl X x)(hm:X.mg x=u8 u)(r:RelV v u)(hd:autoParam ((x==("__debug__" : Str))=false) zA1._auto_1):PE X (.Name x pos) (tC v) :=
 λ_ _ _ H _ I h=>La I hg hm ⟨v,H,I,r,h⟩ hd
variable{a b:Expr}{ta tb:TE}
def PC(X:Cx)(op:TC)(a b:Expr)(t:TE):Prop :=
 ∀(aI:vN) (s:AA) (σ:St) (H:Hp) (Q:VK),Inv X aI σ H s->t σ H Q ->
  wpAny (AN X.prog X.w) X.A (eval a X.env) (λv s₁=>wpAny (AN X.prog X.w) X.A (eval b X.env) (λu s₂=>wpAny (AN X.prog X.w) X.A (DS op v u) (EP X aI σ Q) X.xe s₂) X.xe s₁) X.xe s
def Vj(b:Expr)(h:op≠.In)(h2:op≠.NotIn):HZ op b=false:=by
 have e1:(op==av)=false:=by cases op<;>first| rfl| exact vF rfl h
 have e2:(op==ZA)=false:=by cases op<;>first| rfl| exact vF rfl h2
 cases b<;>simp[HZ,e1,e2]
def AIx(ta:TE):TE:=λσ H Q=>ta σ H λx H1=>Q (.bl (decide (x=.non))) H1
def AIf(ta:TE):TE:=λσ H Q=>ta σ H λx H1=>Q (.bl (!decide (x=.non))) H1
def RelV.none_iff{x:V}{v:Au}(r:RelV x v):(v==Db)=decide (x=.non):=by
 cases x with
 | non=>cases r;rfl
 | bl _=>cases r;rfl
 | int _=>obtain⟨t,rfl⟩:=r;rfl
 | str _=>obtain⟨t,rfl⟩:=r;rfl
 | byt _=>obtain⟨t,rfl⟩:=r;rfl
 | flt _=>obtain⟨t,rfl⟩:=r;rfl
 | ref _=>cases r;rfl
 | ty _=>cases r;rfl
def Qs{j bX}(ha:PE X a ta):PC X .Is a (.Constant .none j bX) (AIx ta):=by
 intro aI s σ H Q I h;refine thn (ha aI s σ H _ I h) λv s1 hq=>?_;obtain⟨x,H1,I1,r1,q1⟩:=hq;exact Se (is_none_gen ⟨.bl _,H1,I1,by rw[r1.none_iff];rfl,q1⟩)
def AEn{j bX}(ha:PE X a ta):PC X .IsNot a (.Constant .none j bX) (AIf ta):=by
 intro aI s σ H Q I h;refine thn (ha aI s σ H _ I h) λv s1 hq=>?_;obtain⟨x,H1,I1,r1,q1⟩:=hq;exact Se (isnot_none_gen ⟨.bl _,H1,I1,by rw[r1.none_iff];rfl,q1⟩)
def tB(t:TE):TT:=λσ H Q=>t σ H λx H1=>∃c,x=.bl c/\Q c H1
theorem zB2(h:True:=by first| exact Vj _ ζ ζ| rfl):True:=h
def AGl{t:TE}(h:PC X op a b t)(h1:autoParam (HZ op b=false) zB2._auto_1):PE X (.Compare a [op] [b] pos) t:=λaI s σ H Q I hw=>V7 (h aI s σ H Q I hw) h1
def Hx{t:TE}(h:PC X op a b t)(h1:autoParam (HZ op b=false) zB2._auto_1):PT X (.Compare a [op] [b] pos) (tB t):=by
 intro aI s σ H Q I hw;refine QR (thn (h aI s σ H _ I hw) λv s1 h1=>thn h1 λu s2 h2=>thn h2 λc s3 hq=>?_) h1;obtain⟨x,H1,I1,r1,q1⟩:=hq;obtain⟨d,rfl,q⟩:=q1;cases r1;exact FE ⟨H1,I1,q⟩
def Hw{t:TE}(h:PE X e t)(he:autoParam (∀ip,VE e X.env ip=(do let v <- ip;TD e.pos;Nl [v] (truthy v))) zA2._auto_1):PT X e (tB t):=by
 intro aI s σ H Q I hw;refine isTrue_plain (thn (h aI s σ H _ I hw) λv s1 hq=>?_) (he _);obtain⟨x,H1,I1,r1,q1⟩:=hq;obtain⟨d,rfl,q⟩:=q1;cases r1;exact FE ⟨H1,I1,q⟩
variable{tA tB':TT}{bg:vR}
def AJC(t u:TT):TT:=λσ H Q=>t σ H λc H1=>if c=true then u σ H1 Q else Q false H1
def tOr(t u:TT):TT:=λσ H Q=>t σ H λc H1=>if c=true then Q true H1 else u σ H1 Q
def AIk(t:TT):TT:=λσ H Q=>t σ H λc H1=>Q (!c) H1
def Km(ha:PT X a tA):PW X (.BoolOp .And [a] pos) tA:=by
 intro wh aI s σ H Q I h;refine isTrue_and (thn (ha aI s σ H Q I h) λc s1 e=>?_);cases c with
 | true=>exact isTrue_and_nil e
 | false=>exact e
def Fv(ha:PT X a tA):PW X (.BoolOp .Or [a] pos) tA:=by
 intro wh aI s σ H Q I h;refine isTrue_or (thn (ha aI s σ H Q I h) λc s1 e=>?_);cases c with
 | false=>exact isTrue_or_nil e
 | true=>exact e
def Sw(ha:PT X a tA)(hb:PW X (.BoolOp .And (b::bg) pos) tB'):PW X (.BoolOp .And (a::b::bg) pos) (AJC tA tB'):=by
 intro wh aI s σ H Q I h;refine isTrue_and (thn (ha aI s σ H _ I h) λc s1 hq=>?_);obtain⟨H1,I1,q1⟩:=hq;cases c with
 | true=>exact hb wh aI s1 σ H1 Q I1 q1
 | false=>exact⟨H1,I1,q1⟩
def Hl(ha:PT X a tA)(hb:PW X (.BoolOp .Or (b::bg) pos) tB'):PW X (.BoolOp .Or (a::b::bg) pos) (tOr tA tB'):=by
 intro wh aI s σ H Q I h;refine isTrue_or (thn (ha aI s σ H _ I h) λc s1 hq=>?_);obtain⟨H1,I1,q1⟩:=hq;cases c with
 | true=>exact⟨H1,I1,q1⟩
 | false=>exact hb wh aI s1 σ H1 Q I1 q1
def Qn(ha:PT X a tA):PT X (.UnaryOp .Not a pos) (AIk tA):=by
 intro aI s σ H Q I h;exact isTrue_not (ha aI s σ H (λc H1=>Q (!c) H1) I h)
def AIa(ta tb:TE):TE:=λσ H Q=>ta σ H λx H1=>∃c,x=.bl c/\if c=true then tb σ H1 Q else Q (.bl false) H1
def AJB(ta tb:TE):TE:=λσ H Q=>ta σ H λx H1=>∃c,x=.bl c/\if c=true then Q (.bl true) H1 else tb σ H1 Q
def ACJ{op}{t:TE}(h:PE X a t):PE X (.BoolOp op [a] pos) t:=λaI s σ H Q I hw=>BoolOp_one (h aI s σ H Q I hw)
def AHA(ha:PE X a ta)(hb:PE X (.BoolOp .And (b::bg) pos) tb):PE X (.BoolOp .And (a::b::bg) pos) (AIa ta tb):=by
 intro aI s σ H Q I h;refine BoolOp_and (thn (ha aI s σ H _ I h) λv s1 hq=>?_);obtain⟨x,H1,I1,r1,q1⟩:=hq;obtain⟨c,rfl,q1⟩:=q1;cases r1;refine FE ?_;cases c with
 | true=>exact hb aI s1 σ H1 Q I1 q1
 | false=>exact⟨.bl false,H1,I1,ξ,q1⟩
def AIP(ha:PE X a ta)(hb:PE X (.BoolOp .Or (b::bg) pos) tb):PE X (.BoolOp .Or (a::b::bg) pos) (AJB ta tb):=by
 intro aI s σ H Q I h;refine BoolOp_or (thn (ha aI s σ H _ I h) λv s1 hq=>?_);obtain⟨x,H1,I1,r1,q1⟩:=hq;obtain⟨c,rfl,q1⟩:=q1;cases r1;refine FE ?_;cases c with
 | false=>exact hb aI s1 σ H1 Q I1 q1
 | true=>exact⟨.bl true,H1,I1,ξ,q1⟩
def tIf(t:TT)(ta tb:TE):TE:=λσ H Q=>t σ H λc H1=>if c=true then ta σ H1 Q else tb σ H1 Q
def Tn(hc:PT X c tA)(ha:PE X a ta)(hb:PE X b tb):PE X (.IfExp c a b pos) (tIf tA ta tb):=by
 intro aI s σ H Q I h;refine wpAny_IfExp (thn (hc aI s σ H _ I h) λd s1 hq=>?_);obtain⟨H1,I1,q1⟩:=hq;cases d with
 | true=>exact ha aI s1 σ H1 Q I1 q1
 | false=>exact hb aI s1 σ H1 Q I1 q1
end
def SqL(K:As)(H:Hp)(a:Addr)(xs:List V):Prop :=
 Rd H a (.lst xs) \/
  ∃(o:Obj) (a5:vP) (n:Nat),K.lookup a=u8 o/\o.cls=.type "list"/\o.dict=u9/\o.data=.seq a5 n/\a5.size<=sizeLine/\Vals xs a5.toList
def SqT(K:As)(H:Hp)(a:Addr)(xs:List V):Prop :=
 Rd H a (.tup xs) \/
  ∃(o:Obj) (a5:vP) (n:Nat),K.lookup a=u8 o/\o.cls=.type "tuple"/\o.data=.seq a5 n/\a5.size<=sizeLine/\Vals xs a5.toList
noncomputable def absV:Au->Option V
 | .none=>u8 .non
 | .bool b=>u8 (.bl b)
 | .int i _=>u8 (.int i)
 | .str x _=>u8 (.str x)
 | .bytes b _=>u8 (.byt b)
 | .float b _=>u8 (.flt b)
 | .ref a=>u8 (.ref a)
 | .type n=>u8 (.ty n)
 | _=>u9
def RelV.abs{x:V}(r:RelV x u):absV u=u8 x:=by
 cases x with
 | non=>cases r;rfl
 | bl _=>cases r;rfl
 | int _=>obtain⟨t,rfl⟩:=r;rfl
 | str _=>obtain⟨t,rfl⟩:=r;rfl
 | byt _=>obtain⟨t,rfl⟩:=r;rfl
 | flt _=>obtain⟨t,rfl⟩:=r;rfl
 | ref _=>cases r;rfl
 | ty _=>cases r;rfl
def RelV.inj{x:V}(r:RelV x u)(q:RelV y u):x=y:=AM (r.abs.symm.trans q.abs)
def Vals.inj:∀{xs ys:List V}{us:vO},Vals xs us->Vals ys us->xs=ys:=by
 intro xs ys us h
 induction h generalizing ys with
 | nil=>intro h;cases h;rfl
 | cons r t ih=>intro h;cases h with| cons r' t'=>rw[r.inj r',ih t']
section
variable{ys:List V}
def SqL.of(h:H a=u8 (.lst xs)):SqL K H a xs:=.inl (.inl h)
def vd:=@SqL.of
def SqT.of(h:H a=u8 (.tup xs)):SqT K H a xs:=.inl (.inl h)
def ve:=@SqT.of
def Inv.list(I:Inv X aI σ H s)(h:SqL X.K H a xs):∃a5:vO,Vals xs a5/\PlainL s.heap a a5.toArray/\xs.length<=sizeLine:=by
 rcases h with h| ⟨o,a5,n,hk,hc,hd,hs,hz,r⟩
 .obtain⟨z,a5,n,r,e⟩:=h.ok I.hok
  exact⟨a5,r,⟨_,n,e,ξ,ξ,ξ⟩,z⟩
 .refine⟨a5.toList,r,⟨o,n,I.kIn a o hk,hc,hd,by simpa using hs⟩,?_⟩
  have e:=r.length;simp only[AZ] at e;exact wt e hz
def Inv.tuple(I:Inv X aI σ H s)(h:SqT X.K H a xs):∃a5:vO,Vals xs a5/\RE s.heap a a5.toArray/\xs.length<=sizeLine:=by
 rcases h with h| ⟨o,a5,n,hk,hc,hs,hz,r⟩
 .obtain⟨z,a5,r,p⟩:=h.ok I.hok
  exact⟨a5,r,p,z⟩
 .refine⟨a5.toList,r,⟨o,I.kIn a o hk,hc,n,by simpa using hs⟩,?_⟩
  have e:=r.length;simp only[AZ] at e;exact wt e hz
def Inv.list_inj(I:Inv X aI σ H s)(h:SqL X.K H a xs)(h':SqL X.K H a ys):xs=ys:=by
 obtain⟨a5,r,⟨o,n,e,_,_,d⟩,_⟩:=I.list h;obtain⟨its',r',⟨o',n',e',_,_,d'⟩,_⟩:=I.list h';rw[e] at e';cases e';rw[d] at d';injection d' with d1 _
 have:a5=its':=by simpa using congrArg SS d1
 subst this;exact r.inj r'
def Inv.tuple_inj(I:Inv X aI σ H s)(h:SqT X.K H a xs)(h':SqT X.K H a ys):xs=ys:=by
 obtain⟨a5,r,⟨o,e,_,n,d⟩,_⟩:=I.tuple h;obtain⟨its',r',⟨o',e',_,n',d'⟩,_⟩:=I.tuple h';rw[e] at e';cases e';rw[d] at d';injection d' with d1 _
 have:a5=its':=by simpa using congrArg SS d1
 subst this;exact r.inj r'
end
noncomputable abbrev Cx.wish(X:Cx)(E:vJ):Cx:={X with xe:=E}
noncomputable abbrev Cx.nox(X:Cx):Cx:=X.wish λ_ _=>False
def Cx.Ok.wish(ok:X.Ok)(E:vJ):(X.wish E).Ok :=
 ⟨ok.mod,ok.kind,ok.glob,ok.blt,ok.above,ok.inj,ok.has,ok.cab,ok.hd,ok.frames,ok.stk,ok.exf,ok.bs,ok.bsz,ok.noex,ok.exfs,ok.funs,ok.frf⟩
def Cx.Ok.unwish(ok:(X.wish E).Ok):X.Ok :=
 ⟨ok.mod,ok.kind,ok.glob,ok.blt,ok.above,ok.inj,ok.has,ok.cab,ok.hd,ok.frames,ok.stk,ok.exf,ok.bs,ok.bsz,ok.noex,ok.exfs,ok.funs,ok.frf⟩
def Inv.wish(I:Inv X aI σ H s)(E:vJ):Inv (X.wish E) aI σ H s:=⟨I.ok.wish E,I.os,I.bare,I.base,I.loc,I.cell,I.free,I.freeC,I.pin,I.hok,I.len⟩
def Inv.unwish(I:Inv (X.wish E) aI σ H s):Inv X aI σ H s:=⟨I.ok.unwish,I.os,I.bare,I.base,I.loc,I.cell,I.free,I.freeC,I.pin,I.hok,I.len⟩
def SP.unwish{D:Ends}{f:Flow}(h:SP (X.wish E) aI D f s'):SP X aI D f s':=by
 cases f with
 | next=>obtain⟨σ',H',I,q⟩:=h;exact⟨σ',H',I.unwish,q⟩
 | brk=>obtain⟨σ',H',I,q⟩:=h;exact⟨σ',H',I.unwish,q⟩
 | cont=>obtain⟨σ',H',I,q⟩:=h;exact⟨σ',H',I.unwish,q⟩
 | ret u=>obtain⟨v,σ',H',I,r,q⟩:=h;exact⟨v,σ',H',I.unwish,r,q⟩
def PSs.nox{st:List Stmt}{t:TS}(h:PSs X.nox st t):PSs X st t:=λaI s σ H D I hw =>
 D9 (h aI s σ H D (I.wish _) hw) (λ_ _ q=>q.unwish) λ_ _ z=>EH z
section
variable{st:Stmt}{t u:TS}
def AIE:TS:=λD σ H=>D.nx σ H
def AIm(t u:TS):TS:=λD σ H=>t {D with nx:=u D} σ H
def BJ:PSs X [] AIE:=λ_ _ σ H _ I h=>ML ⟨σ,H,I,h⟩
def Ad(h1:PS X st t)(h2:PSs X bg u):PSs X (st::bg) (AIm t u):=by
 intro aI s σ H D I h;refine OX (thn (h1 aI s σ H {D with nx:=u D} I h) λf s1 q=>?_);cases f with
 | next =>
  obtain⟨σ',H',I',q⟩:=q;exact h2 aI s1 σ' H' D I' q
 | ret v=>exact q
 | brk=>exact q
 | cont=>exact q
def Ah(h1:PS X st t):PSs X [st] t:=by
 intro aI s σ H D I h;refine OX (thn (h1 aI s σ H D I h) λf s1 q=>?_);cases f with
 | next=>exact ML q
 | ret v=>exact q
 | brk=>exact q
 | cont=>exact q
def Inv.quiet(I:Inv X aI σ H s):interactive X.env=false:=by simp[interactive,I.ok.kind]
def AIT(te:TE):TS:=λD σ H=>te σ H λ_ H1=>D.nx σ H1
def Ce(he:PE X e te)(hs:autoParam (MA e u9 pos.line X.env=pure false) zA0._auto_1):PS X (.Expr e pos) (AIT te):=by
 intro aI s σ H D I h;exact wpAny_Expr_any (thn (he aI s σ H _ I h) λv s1 ⟨x,H1,I1,r1,q1⟩=>⟨σ,H1,I1,q1⟩) I.quiet hs
def AIn(te:TE):TS:=λD σ H=>te σ H D.rt
def Ar(he:PE X e te):PS X (.Return (u8 e) pos) (AIn te):=by
 intro aI s σ H D I h;exact wpAny_Return_some (thn (he aI s σ H _ I h) λv s1 ⟨x,H1,I1,r1,q1⟩=>⟨x,σ,H1,I1,r1,q1⟩)
def AIt(c:TT)(t u:TS):TS:=λD σ H=>c σ H λb H1=>if b=true then t D σ H1 else u D σ H1
def Bl{a b:List Stmt}(hc:PT X c tc)(ha:PSs X a t)(hb:PSs X b u):PS X (.If c a b pos) (AIt tc t u):=by
 intro aI s σ H D I h;refine wpAny_If (thn (hc aI s σ H _ I h) λd s1 hq=>?_);obtain⟨H1,I1,q1⟩:=hq;cases d with
 | true=>exact ha aI s1 σ H1 D I1 q1
 | false=>exact hb aI s1 σ H1 D I1 q1
def AGy:TS:=λ_ _ _=>False
def Br{sts:List Stmt}:PSs X sts AGy:=λ_ _ _ _ _ _ h=>h.elim
end
abbrev TG:=V->St->Hp->(St->Hp->Prop)->Prop
abbrev TGs:=List V->St->Hp->(St->Hp->Prop)->Prop
def PG(X:Cx)(dQ:Expr)(t:TG):Prop :=
 ∀(aI:vN) (s:AA) (σ:St) (H:Hp) (v:V) (u:Au) (Q:St->Hp->Prop),Inv X aI σ H s->RelV v u->t v σ H Q ->
  wpAny (AN X.prog X.w) X.A (SU dQ X.env u) (λ_ s'=>∃σ' H',Inv X aI σ' H' s'/\Q σ' H') X.xe s
def PGs(X:Cx)(ts:vR)(t:TGs):Prop :=
 ∀(aI:vN) (s:AA) (σ:St) (H:Hp) (vs:List V) (us:vO) (Q:St->Hp->Prop),Inv X aI σ H s->Vals vs us->t vs σ H Q ->
  wpAny (AN X.prog X.w) X.A (assignInOrder ((KU ts X.env).map (·.2)) us) (λ_ s'=>∃σ' H',Inv X aI σ' H' s'/\Q σ' H') X.xe s
abbrev TSet:=V->V->V->Hp->(Hp->Prop)->Prop
def PSet(X:Cx)(t:TSet):Prop :=
 ∀(aI:vN) (s:AA) (σ:St) (H:Hp) (o i v:V) (ov iv u:Au) (Q:Hp->Prop),Inv X aI σ H s->RelV o ov->RelV i iv->RelV v u->t o i v H Q ->
  wpAny (AN X.prog X.w) X.A (V8 ov iv u) (λ_ s'=>∃H',Inv X aI σ H' s'/\Q H') X.xe s
def gName(i:Nat):TG:=λv σ H Q=>Q (σ.set i (u8 v)) H
def Yl(hN:X.N.Nodup)(hi:X.N[i]?=u8 x)(hx:Loc X.env.scope x)(hf:autoParam (X.fn x=true\/X.env.scope.names.lookup x=u8 .local) zB1._auto_1):PG X (.Name x pos) (gName i):=by
 intro aI s σ H v u Q I r h;exact TL (Um I hN hi hx r (λs' I'=>⟨_,H,I',h⟩) hf)
theorem zB0(h:True:=by first| exact MM rfl| exact NM rfl):True:=h
def Bg(hN:X.N.Nodup)(hi:autoParam (X.N[i]?=u8 x) zA0._auto_1)(hx:autoParam (Loc X.env.scope x) zB0._auto_1)(hf:autoParam (X.fn x=true\/X.env.scope.names.lookup x=u8 .local) zB0._auto_1):PG X (.Name x pos) (gName i):=Yl hN hi hx hf
def BL(hN:X.N.Nodup:=by exact vE rfl)(hi:autoParam (X.N[i]?=u8 x) zA0._auto_1)(hx:autoParam (Loc X.env.scope x) zB0._auto_1)(hf:autoParam (X.fn x=true\/X.env.scope.names.lookup x=u8 .local) zB0._auto_1):PG X (.Name x pos) (gName i):=Yl hN hi hx hf
def gNil:TGs:=λvs σ H Q=>vs=[]/\Q σ H
def gCons(t:TG)(u:TGs):TGs:=λvs σ H Q=>∃v r,vs=v::r/\t v σ H λσ' H'=>u r σ' H' Q
def Er:PGs X [] gNil:=by
 intro aI s σ H vs us Q I r h;obtain⟨e,h⟩:=h;subst e;cases r;exact assignInOrder_nil ⟨σ,H,I,h⟩
def Bt{t:TG}{u:TGs}(h1:PG X e t)(h2:PGs X es u)
  (hs:autoParam ((KU (e::es) X.env).map (·.2)=SU e X.env::(KU es X.env).map (·.2)) zA0._auto_1):PGs X (e::es) (gCons t u):=by
 intro aI s σ H vs us Q I r h;obtain⟨v,vr,e1,h⟩:=h;subst e1;cases r with
 | cons r rr =>
  rw[hs];refine assignInOrder_cons (thn (h1 aI s σ H _ _ _ I r h) λ_ s1 hq=>?_);obtain⟨σ1,H1,I1,q1⟩:=hq;exact h2 aI s1 σ1 H1 _ _ Q I1 rr q1
def gTup(K:As)(n:Nat)(t:TGs):TG:=λv σ H Q=>∃a xs,v=.ref a/\SqT K H a xs/\xs.length=n/\t xs σ H Q
def Xa{k:Nat}{t:TGs}(hc:X.calm=true)(h:PGs X es t)
  (hn:autoParam ((KU es X.env).length=n) zA0._auto_1) (dS:autoParam ((KU es X.env).findIdx? (·.1)=u9) zA0._auto_1):PG X (.Tuple es k pos) (gTup X.K n t):=by
 intro aI s σ H v u Q I r hw;obtain⟨a,xs,e1,hq,hl,hw⟩:=hw;subst e1;cases r;obtain⟨a5,rv,ht,hz⟩:=I.tuple hq;refine assign_Tuple_tuple (I.ok.hd hc) ht (by simp[hn,<- hl,rv.length]) dS λh' hx=>?_;have I1:=I.kept (t':=s.toks) λb o e=>hx b o (BF (Be e)) e;exact h aI _ σ H xs _ Q I1 (by simpa using rv) hw
def gSub(to ti:TE)(t:TSet):TG:=λv σ H Q=>to σ H λo H1=>ti σ H1 λi H2=>t o i v H2 λH3=>Q σ H3
def Ss{o i:Expr}{to ti:TE}{t:TSet}(ho:PE X o to)(hi:PE X i ti)(hs:PSet X t)
  (ha:autoParam (∀v,SU (.Subscript o i pos) X.env v=(do
   let ov <- Nl [v] (eval o X.env)
   let iv <- Nl [v,ov] (eval i X.env)
   TD pos
   Nl [v,ov,iv] (V8 ov iv v)
   release [v,ov,iv] [])) zA2._auto_1):PG X (.Subscript o i pos) (gSub to ti t):=by
 intro aI s σ H v u Q I r h;rw[ha];refine Ap (Dx (thn (ho aI s σ H _ I h) λov s1 hq=>?_));obtain⟨x,H1,I1,r1,q1⟩:=hq;refine Ap (Dx (thn (hi aI s1 σ H1 _ I1 q1) λiv s2 hq=>?_));obtain⟨y,H2,I2,r2,q2⟩:=hq;refine Ap (Mm (Ap (Dx (thn (hs aI s2 σ H2 x y v ov iv u _ I2 r1 r2 r q2) λ_ s3 hq=>?_))));obtain⟨H3,I3,q3⟩:=hq;exact wpAny_release ⟨σ,H3,I3,q3⟩
def AFv(te:TE)(g:TG):TS:=λD σ H=>te σ H λx H1=>g x σ H1 D.nx
def Jw{g:TG}(he:PE X e te)(hg:PG X tg g)(hs:autoParam (swapsWithSole [tg] e pos.line X.env=pure false) zA0._auto_1)(hw:autoParam (swappedStores [tg] e X.env=pure u9) zA0._auto_1)
  (h1:autoParam ((KU [tg] X.env).map (·.2)=[SU tg X.env]) zA0._auto_1):PS X (.Assign [tg] e pos) (AFv te g):=by
 intro aI s σ H D I h;refine wpAny_Assign_stores (thn (he aI s σ H _ I h) λv s1 hq=>?_) hs hw;obtain⟨x,H1,I1,r1,q1⟩:=hq;rw[h1];exact thn (hg aI s1 σ H1 x v _ I1 r1 q1) λ_ s2 q=>q
def AHJ(hN:X.N.Nodup)(hi:X.N[i]?=u8 x)(hx:Loc X.env.scope x)(he:PE X e te)(hs:autoParam (MA e (u8 (.Name x bX)) pos.line X.env=pure false) zA0._auto_1)(hf:autoParam (X.fn x=true\/X.env.scope.names.lookup x=u8 .local) zB1._auto_1) :
  PS X (.Assign [.Name x bX] e pos) (AFv te (gName i)):=by
 intro aI s σ H D I h;refine wpAny_Assign_Name (thn (he aI s σ H _ I h) λv s1 hq=>?_) hs;obtain⟨y,H1,I1,r1,q1⟩:=hq;exact Um I1 hN hi hx r1 (λs2 I2=>⟨_,H1,I2,q1⟩) hf
def Ao(hN:X.N.Nodup)(he:PE X e te)(hi:autoParam (X.N[i]?=u8 x) zA0._auto_1)(hx:autoParam (Loc X.env.scope x) zB0._auto_1)(hs:autoParam (MA e (u8 (.Name x bX)) pos.line X.env=pure false) zA0._auto_1)(hf:autoParam (X.fn x=true\/X.env.scope.names.lookup x=u8 .local) zB0._auto_1) :
  PS X (.Assign [.Name x bX] e pos) (AFv te (gName i)):=AHJ hN hi hx he hs hf
def AGf(c:TT)(tb:TS):TS:=λD σ H=>∃W:Nat->St->Hp->Prop,(∃m,W m σ H)/\∀m σ H,W m σ H ->
 c σ H λb H1=>if b=true then ∃N:St->Hp->Prop,(∀σ' H',N σ' H'->∃m',m'<m/\W m' σ' H')/\tb {D with nx:=N,ct:=N,bk:=D.nx} σ H1 else D.nx σ H1
def Uz(hp:PassesOwn (AN X.prog X.w) X.A X.env X.xe)(hc:PT X c tc)(hb:PSs X body tb):PS X (.While c body [] pos) (AGf tc tb):=by
 intro aI s σ H D I h;obtain⟨W,⟨m0,w0⟩,turn⟩:=h;refine wpAny_While (codeAny_whileLoop (λn s'=>∃σ' H',Inv X aI σ' H' s'/\W n σ' H') ?_ m0 ⟨σ,H,I,w0⟩);rintro n s1 ⟨σ1,H1,I1,w1⟩;refine HQ hp (thn (hc aI s1 σ1 H1 _ I1 (turn n σ1 H1 w1)) λb s2 hq=>?_);obtain⟨H2,I2,q2⟩:=hq;cases b with
 | true =>
  obtain⟨N,hN,q2⟩:=q2;rw[vB rfl];refine HQ hp (thn (hb aI s2 σ1 H2 _ I2 q2) λf s3 q3=>?_);cases f with
  | next =>
   obtain⟨σ3,H3,I3,n3⟩:=q3;obtain⟨m',hm,w3⟩:=hN σ3 H3 n3;exact⟨m',hm,σ3,H3,I3,w3⟩
  | cont =>
   obtain⟨σ3,H3,I3,n3⟩:=q3;obtain⟨m',hm,w3⟩:=hN σ3 H3 n3;exact⟨m',hm,σ3,H3,I3,w3⟩
  | brk=>exact q3
  | ret v=>exact q3
 | false =>
  rw[vA BE];exact ML ⟨σ1,H2,I2,q2⟩
structure It where
 go:Nat->Hp->Prop
 yld:Nat->Hp->V->Hp->Prop
 stop:Nat->Hp->Prop
def FpOk(X:Cx)(aI:vN)(H:Hp)(b:Addr):Prop :=
 H b=u9/\b≠X.env.locals/\b∉X.fs/\(b∈X.ex\/X.s₀.heap.objs.size<=b)/\(∀x c,X.env.cells.lookup x=u8 c->c≠b)/\∀p∈X.pn++aI,p.1≠b
def Inv.fpOk(I:Inv X aI σ H s)(hb:s.heap.objs.size<=b)(hn:H' b=u9):FpOk X aI H' b:=by
 refine⟨hn,X4 (Cn I.lt hb),I.nofs hb,.inr (BQ I.sz hb),λx c e z=>?_,λp hp z=>?_⟩
 .obtain⟨v,q⟩:=I.cell x c e
  exact vF (Cn q.lt (by rw[z];exact hb)) (Ex _)
 .exact vF (Cn (Be (I.pin p hp).1) (by rw[z];exact hb)) (Ex _)
structure Turn(P:AL)(w:AR)(K:As)(tg:Expr)(J:It)(fp:vU)(it:Addr)(tn:Nat->Heap->Prop):Prop where
 mem:it∈fp
 obj:∀i h,tn i h->∀b∈fp,∃o,h.get? b=u8 o/\∀v,o.data≠.cell v
 keep:∀i h h',tn i h->(∀b∈fp,∀o,h.get? b=u8 o->h'.get? b=u8 o)->tn i h'
 item:∀(X:Cx),X.prog=P->X.w=w->X.K=K->X.calm=true->∀(i:Nat) (aI:vN) (s:AA) (σ:St) (H:Hp) (E:vJ),Inv X aI σ H s->(∀b∈fp,FpOk X aI H b)->tn i s.heap->J.go i H ->
  wpAny (AN P w) X.A (L9 (.ref it)) (λr s1=>∃u,r=u8 u /\
   wpAny (AN P w) X.A (MO tg (.ref it) u) (λ_ s2=>∃x H',Inv X aI σ H' s2/\RelV x u/\J.yld i H x H'/\tn (i+1) s2.heap/\∀b∈fp,H' b=u9) E s1) E s
 done:∀(X:Cx),X.prog=P->X.w=w->X.K=K->X.calm=true->∀(i:Nat) (aI:vN) (s:AA) (σ:St) (H:Hp) (E:vJ),Inv X aI σ H s->(∀b∈fp,FpOk X aI H b)->tn i s.heap->J.stop i H ->
  wpAny (AN P w) X.A (L9 (.ref it)) (λr s1=>r=u9/\Inv X aI σ H s1) E s
 self:∀(A:BM) (i:Nat) (s:AA) (Q:vJ) (E:vJ),tn i s.heap->Q (.ref it) s->wpAny (AN P w) A (QU (.ref it)) Q E s
abbrev TI:=St->Hp->(It->Hp->Prop)->Prop
def PIE(X:Cx)(aI:vN)(σ:St)(tg:Expr)(R:It->Hp->Prop)(itv:Au)(s2:AA):Prop :=
 ∃(it:Addr) (fp:vU) (tn:Nat->Heap->Prop) (J:It) (H':Hp),itv=.ref it/\Inv X aI σ H' s2/\Turn X.prog X.w X.K tg J fp it tn/\tn 0 s2.heap/\(∀b∈fp,FpOk X aI H' b)/\R J H'
def PI(X:Cx)(tg iter:Expr)(wi:TI):Prop :=
 ∀(aI:vN) (s:AA) (σ:St) (H:Hp) (R:It->Hp->Prop),Inv X aI σ H s->wi σ H R ->
  wpAny (AN X.prog X.w) X.A (eval iter X.env) (λv s1=>wpAny (AN X.prog X.w) X.A (QU v) (PIE X aI σ tg R) X.xe s1) X.xe s
def ZR{M:VC}{n:String}{vs:vP}{Q:vL}(ho:s.heap.get? it=u8 o)(hc:o.cls=.type n)(hd:o.data=.fields vs)
  (hn:["enumerate","zip","dict_itemiterator","dict_reverseitemiterator","odict_iterator","itertools.zip_longest","itertools.pairwise"].contains n=false) (hQ:Q () s):wpAny M A (MO tg (.ref it) u) Q E s:=by
 unfold MO;cases tg<;>first
  | exact AC hQ
  | (cases u<;>first
    | exact AC hQ
    | (
      refine Ap (RF ho ?_);rw[hc,hd];show wpAny M A (if(["enumerate","zip","dict_itemiterator","dict_reverseitemiterator","odict_iterator","itertools.zip_longest","itertools.pairwise"].contains n&&vs[0]? == u8 (EZ _))=true then _ else _) Q E s;rw[vA (by intro h;rw[hn,V9] at h;cases h)];exact AC hQ))
def Itl(K:As)(a:Addr):It :=
 ⟨λi H=>∃xs x,SqL K H a xs/\xs[i]?=u8 x,λi H x H'=>H'=H/\∀xs,SqL K H a xs->xs[i]?=u8 x,λi H=>∃xs,SqL K H a xs/\xs.length<=i⟩
def Itt(K:As)(a:Addr):It :=
 ⟨λi H=>∃xs x,SqT K H a xs/\xs[i]?=u8 x,λi H x H'=>H'=H/\∀xs,SqT K H a xs->xs[i]?=u8 x,λi H=>∃xs,SqT K H a xs/\xs.length<=i⟩
def Itr(lo:Int)(n:Nat):It:=⟨λi _=>i<n,λi H x H'=>H'=H/\x=.int (lo+i),λi _=>n<=i⟩
def Px(a it:Addr):Turn P w K tg (Itl K a) [it] it (λi h=>h.IsListIter it a i) where
 mem:=by simp
 obj:=λi h st b hb=>by
  have e:b=it:=by simpa using hb
  subst e;obtain⟨o,e,c,d⟩:=st;exact⟨o,e,λv z=>by rw[d] at z;cases z⟩
 keep:=λi h h' st k=>st.at λo e=>k it θ o e
 item:=by
  intro X hP hw hK hc i aI s σ H E I hf st hg;subst hP hw hK;obtain⟨xs,x,hq,hx⟩:=hg;obtain⟨a5,rv,p,hz⟩:=I.list hq;obtain⟨u,hu,ru⟩:=rv.get hx;obtain⟨f0,f1,f2,f3,f4,f5⟩:=hf it θ;refine wpAny_pyNext_list_item st p.isList (x:=u) (by simpa using hu) λh' a6 sb=>?_;have I1:=I.turned (t':=s.toks) (λb o hb e=>(sb.2 b hb).trans e) f0 f1 f3 f4 f5;obtain⟨o,e,c,d⟩:=id a6;exact⟨u,ξ,ZR (s:={s with heap:=h'}) e c d ζ ⟨x,H,I1,ru,⟨ξ,λys hy=>by rw[I.list_inj hy hq];exact hx⟩,a6,λb hb=>(hf b hb).1⟩⟩
 done:=by
  intro X hP hw hK hc i aI s σ H E I hf st hg;subst hP hw hK;obtain⟨xs,hq,hx⟩:=hg;obtain⟨a5,rv,p,hz⟩:=I.list hq;obtain⟨f0,f1,f2,f3,f4,f5⟩:=hf it θ;have hl:=rv.length;exact wpAny_pyNext_list_end (I.ok.hd hc) st p.isList (by simp;exact v5 hl hx) λh' eb=>⟨ξ,I.turned (t':=s.toks) (λb o hb e=>eb b o hb e) f0 f1 f3 f4 f5⟩
 self:=λ_ _ _ _ _ st h=>wpAny_pyIter_listiter st h
def Ln(a it:Addr):Turn P w K tg (Itt K a) [it] it (λi h=>h.IsTupleIter it a i) where
 mem:=by simp
 obj:=λi h st b hb=>by
  have e:b=it:=by simpa using hb
  subst e;obtain⟨o,e,c,d⟩:=st;exact⟨o,e,λv z=>by rw[d] at z;cases z⟩
 keep:=λi h h' st k=>st.at λo e=>k it θ o e
 item:=by
  intro X hP hw hK hc i aI s σ H E I hf st hg;subst hP hw hK;obtain⟨xs,x,hq,hx⟩:=hg;obtain⟨a5,rv,p,hz⟩:=I.tuple hq;obtain⟨u,hu,ru⟩:=rv.get hx;obtain⟨f0,f1,f2,f3,f4,f5⟩:=hf it θ;refine wpAny_pyNext_tuple_item st p (x:=u) (by simpa using hu) λh' a6 sb=>?_;have I1:=I.turned (t':=s.toks) (λb o hb e=>(sb.2 b hb).trans e) f0 f1 f3 f4 f5;obtain⟨o,e,c,d⟩:=id a6;exact⟨u,ξ,ZR (s:={s with heap:=h'}) e c d ζ ⟨x,H,I1,ru,⟨ξ,λys hy=>by rw[I.tuple_inj hy hq];exact hx⟩,a6,λb hb=>(hf b hb).1⟩⟩
 done:=by
  intro X hP hw hK hc i aI s σ H E I hf st hg;subst hP hw hK;obtain⟨xs,hq,hx⟩:=hg;obtain⟨a5,rv,p,hz⟩:=I.tuple hq;obtain⟨f0,f1,f2,f3,f4,f5⟩:=hf it θ;have hl:=rv.length;exact wpAny_pyNext_tuple_end (I.ok.hd hc) st p (by simp;exact v5 hl hx) λh' eb=>⟨ξ,I.turned (t':=s.toks) (λb o hb e=>eb b o hb e) f0 f1 f3 f4 f5⟩
 self:=λ_ _ _ _ _ st h=>wpAny_pyIter_tupleiter st h
def Wn(it:Addr)(lo:Int)(n:Nat):Turn P w K tg (Itr lo n) [it] it (λi h=>IsRangeIter h it (lo+(i:Nat)*1) ((n:Int)-(i:Nat)) 1) where
 mem:=by simp
 obj:=λi h st b hb=>by
  have e:b=it:=by simpa using hb
  subst e;exact⟨_,st,λv z=>by
   have z':=z;cases z'⟩
 keep:=λi h h' st k=>k it θ _ st
 item:=by
  intro X hP hw hK hc i aI s σ H E I hf st hg;subst hP hw hK;obtain⟨f0,f1,f2,f3,f4,f5⟩:=hf it θ;have W:=ZB (prog:=X.prog) (w:=X.w) (I.ok.hd hc) it lo 1 n;refine W.item i s _ _ hg st λv h' tk hv a6 kk=>?_;obtain⟨t,rfl⟩:=hv;have I1:Inv X aI σ H {s with heap:=h',toks:=tk}:=I.turned (λb o hb e=>kk b o (by simpa using hb) e) f0 f1 f3 f4 f5;refine⟨_,ξ,ZR (s:={s with heap:=h',toks:=tk}) (n:="range_iterator") a6 rfl rfl ζ ⟨.int (lo+i),H,I1,⟨t,?_⟩,⟨ξ,ξ⟩,a6,λb hb=>(hf b hb).1⟩⟩;rw[UB]
 done:=by
  intro X hP hw hK hc i aI s σ H E I hf st hg;subst hP hw hK;obtain⟨f0,f1,f2,f3,f4,f5⟩:=hf it θ;exact P7 (I.ok.hd hc) st (by have:n<=i:=hg;exact zg this) λh' eb=>⟨ξ,I.turned (t':=s.toks) (λb o hb e=>eb b o hb e) f0 f1 f3 f4 f5⟩
 self:=λ_ _ _ _ _ st h=>P8 st h
def AIX(K:As)(tl:TE):TI:=λσ H R=>tl σ H λx H1=>∃a,x=.ref a/\(∃xs,SqL K H1 a xs)/\R (Itl K a) H1
def AIu(K:As)(tl:TE):TI:=λσ H R=>tl σ H λx H1=>∃a,x=.ref a/\(∃xs,SqT K H1 a xs)/\R (Itt K a) H1
def CT{l:Expr}(hl:PE X l tl):PI X tg l (AIX X.K tl):=by
 intro aI s σ H R I h;refine thn (hl aI s σ H _ I h) λv s1 hq=>?_;obtain⟨x,H1,I1,r1,q1⟩:=hq;obtain⟨a,e,⟨xs,hq⟩,q⟩:=q1;subst e;cases r1;obtain⟨a5,rv,p,hz⟩:=I1.list hq;refine Ha p.isList ?_;refine⟨s1.heap.objs.size,[s1.heap.objs.size],_,_,H1,ξ,I1.kept (t':=s1.toks) λb o e=>AE _ e,Px a _,⟨_,AQ _ rfl,ξ,ξ⟩,λb hb=>?_,q⟩;have e:b=s1.heap.objs.size:=by simpa using hb
 subst e;exact I1.fpOk (AI _) (I1.hok.fresh (AI _))
def ABy{l:Expr}(hl:PE X l tl):PI X tg l (AIu X.K tl):=by
 intro aI s σ H R I h;refine thn (hl aI s σ H _ I h) λv s1 hq=>?_;obtain⟨x,H1,I1,r1,q1⟩:=hq;obtain⟨a,e,⟨xs,hq⟩,q⟩:=q1;subst e;cases r1;obtain⟨a5,rv,p,hz⟩:=I1.tuple hq;refine E3 p ?_;refine⟨s1.heap.objs.size,[s1.heap.objs.size],_,_,H1,ξ,I1.kept (t':=s1.toks) λb o e=>AE _ e,Ln a _,⟨_,AQ _ rfl,ξ,ξ⟩,λb hb=>?_,q⟩;have e:b=s1.heap.objs.size:=by simpa using hb
 subst e;exact I1.fpOk (AI _) (I1.hok.fresh (AI _))
def Ux{R:It->Hp->Prop}{lo hi:Int}{t u v:Tok}(I:Inv X aI σ H s)(h1:-(2 ^ 62)<=lo)(h2:lo<2 ^ 62)(h3:-(2 ^ 62)<=hi)(h4:hi<2 ^ 62)
  (q:R (Itr lo (hi-lo).toNat) H):wpAny (AN X.prog X.w) X.A (QU (.ref s.heap.objs.size)) (PIE X aI σ tg R) E {s with heap:=s.heap.push {cls:=.type "range",data:=.fields #[.int lo t,.int hi u,.int 1 v]},toks:=tk}:=by
 refine SV (ZE ..) (WN h1 h2 h3 h4) ?_;have I1:Inv X aI σ H {s with heap:=s.heap.push {cls:=.type "range",data:=.fields #[.int lo t,.int hi u,.int 1 v]},toks:=tk}:=I.kept λb o e=>AE _ e;refine⟨(s.heap.push {cls:=.type "range",data:=.fields #[.int lo t,.int hi u,.int 1 v]}).objs.size,[(s.heap.push {cls:=.type "range",data:=.fields #[.int lo t,.int hi u,.int 1 v]}).objs.size],_,_,H,ξ,
  I1.kept (t':=tk) λb o e=>AE _ e,Wn _ lo (hi-lo).toNat,?_,λb hb=>?_,q⟩
 .have e1:lo+((0:Nat):Int)*1=lo:=by simp
  have e2:(((hi-lo).toNat:Nat):Int)-((0:Nat):Int)=FC lo hi 1:=by rw[Sf];split<;>lia
  rw[e1,e2];exact AQ _ rfl
 .have e:b=(s.heap.push {cls:=.type "range",data:=.fields #[.int lo t,.int hi u,.int 1 v]}).objs.size:=by simpa using hb
  subst e;exact I1.fpOk (AI _) (I1.hok.fresh (AI _))
def AIj(ta:TA):TI:=λσ H R=>ta σ H λvs H1=>∃j:Int,vs=[.int j]/\-(2 ^ 62)<=j/\j<2 ^ 62/\R (Itr 0 j.toNat) H1
def AIO(ta:TA):TI:=λσ H R=>ta σ H λvs H1=>∃i j:Int,vs=[.int i,.int j]/\(-(2 ^ 62)<=i/\i<2 ^ 62/\-(2 ^ 62)<=j/\j<2 ^ 62)/\R (Itr i (j-i).toNat) H1
def DK{a:Expr}{ta:TA}{p:Pos}(hg:Gl X "range")(hm:X.mg "range" = u9)(ha:PA X [a] ta)(hs:autoParam (B3 [a] X.env=[(false,eval a X.env)]) zA0._auto_1):PI X tg (.Call (.Name "range" p) [a] [] pos) (AIj ta):=by
 intro aI s σ H R I h;refine Call_ (El I hg hm J1 (DT (thn (ha pos aI s σ H _ I h) λus s1 hq=>?_) hs rfl));obtain⟨vs,H1,I1,r1,q1⟩:=hq;obtain⟨j,e,q1,q2,q⟩:=q1;subst e;cases r1 with
 | cons r rr =>
  cases rr;obtain⟨t,rfl⟩:=r;exact call_range_1 (Ux I1 δ δ q1 q2 (by simpa using q))
def ABM{a b:Expr}{ta:TA}{p:Pos}(hg:Gl X "range")(hm:X.mg "range" = u9)(ha:PA X [a,b] ta)(hs:autoParam (B3 [a,b] X.env=[(false,eval a X.env),(false,eval b X.env)]) zA0._auto_1)(n9:autoParam (B3 [b] X.env=[(false,eval b X.env)]) zA0._auto_1) :
  PI X tg (.Call (.Name "range" p) [a,b] [] pos) (AIO ta):=by
 intro aI s σ H R I h;refine Call_ (El I hg hm J1 (DT (thn (ha pos aI s σ H _ I h) λus s1 hq=>?_) (by rw[hs,n9]) (by rw[n9];rfl)));obtain⟨vs,H1,I1,r1,q1⟩:=hq;obtain⟨i,j,e,⟨q1,q2,q3,q4⟩,q⟩:=q1;subst e;cases r1 with
 | cons r rr =>
  cases rr with
  | cons r' rr =>
   cases rr;obtain⟨t,rfl⟩:=r;obtain⟨t',rfl⟩:=r';exact call_range_2 (Ux I1 q1 q2 q3 q4 q)
def AIp(wi:TI)(g:TG)(tb:TS):TS:=λD σ H=>wi σ H λJ H1=>∃W:Nat->Nat->St->Hp->Prop,(∃m,W 0 m σ H1)/\∀i m σ H,W i m σ H ->
 (J.stop i H/\D.nx σ H)\/(J.go i H/\∃N:St->Hp->Prop,(∀σ' H',N σ' H'->∃m',m'<m/\W (i+1) m' σ' H')/\∀x H',J.yld i H x H'->g x σ H' λσ2 H2=>tb {D with nx:=N,ct:=N,bk:=D.nx} σ2 H2)
noncomputable def pinsAt(fp:vU)(h:Heap):vN:=fp.filterMap λb=>(h.get? b).map λo=>(b,o)
def Fx(hb:b∈fp)(e:h.get? b=u8 o):(b,o)∈pinsAt fp h:=NN.mpr ⟨b,hb,by rw[e];rfl⟩
def ABT{p:Addr×Obj}(hp:p∈pinsAt fp h):p.1∈fp/\h.get? p.1=u8 p.2:=by
 obtain⟨b,hb,e⟩:=NN.mp hp;cases q:h.get? b with
 | none=>rw[q] at e;cases e
 | some o =>
  rw[q] at e;have e':=AM e;subst e';exact⟨hb,q⟩
def Inv.pinned(I:Inv X aI σ H s)(hf:∀b∈fp,FpOk X aI H b)(ho:∀b∈fp,∃o,s.heap.get? b=u8 o/\∀v,o.data≠.cell v):Inv X (aI++pinsAt fp s.heap) σ H s :=
 I.pins_of λp hp=>(Cf.mp hp).elim (λz=>I.pin p (Co _ z)) λz=>by
  obtain⟨hb,e⟩:=ABT z;obtain⟨f0,f1,f2,_⟩:=hf p.1 hb;obtain⟨o,e',d⟩:=ho p.1 hb;rw[e] at e';cases e';exact⟨e,f0,f1,f2,d⟩
def Inv.unpinned{pl:vN}(I:Inv X (aI++pl) σ H s):Inv X aI σ H s:=I.pins_of λp hp=>I.pin p (Co _ (F9 _ hp))
def Dj{iter:Expr}{wi:TI}{g:TG}(hp:PassesOwn (AN X.prog X.w) X.A X.env X.xe)(hc:X.calm=true)(hi:PI X tg iter wi)(hg:PG X tg g)(hb:PSs X body tb)
  (hs:autoParam (∀x,Oy iter X.env x=pure x) zA2._auto_1):PS X (.For tg iter body [] pos) (AIp wi g tb):=by
 intro aI s σ H D I h;refine wpAny_For (thn (hi aI s σ H _ I h) λv s1 h1=>thn h1 λitv s2 h2=>?_) hs;obtain⟨it,fp,tn,J,H2,e,I2,T,bE,f2,W,⟨m0,w0⟩,turn⟩:=h2;subst e;have gg:∀{H':Hp},(∀b∈fp,H' b=u9)->∀b∈fp,FpOk X aI H' b:=λhn b hb=>⟨hn b hb,(f2 b hb).2⟩;refine codeAny_forLoop_any (λn s'=>∃i σ' H',Inv X aI σ' H' s'/\tn i s'.heap/\(∀b∈fp,H' b=u9)/\W i n σ' H') ?_ m0 ⟨0,σ,H2,I2,bE,λb hb=>(f2 b hb).1,w0⟩;rintro n s3 ⟨i,σ3,H3,I3,eA,fr3,w3⟩;rcases turn i n σ3 H3 w3 with⟨stop,qn⟩| ⟨go,N,hN,step⟩
 .refine HQ hp (thn (T.done X rfl rfl rfl hc i aI s3 σ3 H3 X.xe I3 (gg fr3) eA stop) λr s4 hq=>?_)
  obtain⟨hr,I4⟩:=hq;subst hr;exact ML ⟨σ3,H3,I4,qn⟩
 .refine HQ hp (thn (T.item X rfl rfl rfl hc i aI s3 σ3 H3 X.xe I3 (gg fr3) eA go) λr s4 hq=>?_)
  obtain⟨u,hr,h4⟩:=hq;subst hr;refine HQ hp (thn h4 λ_ s5 hq=>?_);obtain⟨x,H5,I5,r5,y5,sK,fr5⟩:=hq;have I5':=I5.pinned (gg fr5) (T.obj _ _ sK);refine HQ hp (thn (hg _ s5 σ3 H5 x u _ I5' r5 (step x H5 y5)) λ_ s6 hq=>?_);obtain⟨σ6,H6,I6,q6⟩:=hq;refine HQ hp (thn (hb _ s6 σ6 H6 _ I6 q6) λf s7 q7=>?_);have again:∀{σ7:St}{H7:Hp},Inv X (aI++pinsAt fp s5.heap) σ7 H7 s7->N σ7 H7->∃m,m<n/\∃i σ' H',Inv X aI σ' H' s7/\tn i s7.heap/\(∀b∈fp,H' b=u9)/\W i m σ' H':=λ{σ7 H7} I7 n7=>by
   obtain⟨m',hm,w7⟩:=hN σ7 H7 n7;refine⟨m',hm,i+1,σ7,H7,I7.unpinned,T.keep _ _ _ sK λb hb o e=>(I7.pin (b,o) (Co _ (Co _ (Fx hb e)))).1,λb hb=>?_,w7⟩;obtain⟨o,e,d⟩:=T.obj _ _ sK b hb;exact(I7.pin (b,o) (Co _ (Co _ (Fx hb e)))).2.1
  cases f with
  | next=>obtain⟨σ7,H7,I7,n7⟩:=q7;exact again I7 n7
  | cont=>obtain⟨σ7,H7,I7,n7⟩:=q7;exact again I7 n7
  | brk=>obtain⟨σ7,H7,I7,q7⟩:=q7;exact⟨σ7,H7,I7.unpinned,q7⟩
  | ret v=>obtain⟨x7,σ7,H7,I7,r7,q7⟩:=q7;exact⟨x7,σ7,H7,I7.unpinned,r7,q7⟩
def Ej{g:TG}{D:Ends}(Pv:Nat->St->Hp->Prop)(h0:Pv 0 σ H)(hl:∀i σ H,i<=xs.length->Pv i σ H->SqL K H a xs)
  (hs:∀i x σ H,xs[i]?=u8 x->Pv i σ H->g x σ H λσ2 H2=>tb {D with nx:=Pv (i+1),ct:=Pv (i+1),bk:=D.nx} σ2 H2) (hd:∀σ H,Pv xs.length σ H->D.nx σ H) :
  ∃W:Nat->Nat->St->Hp->Prop,(∃m,W 0 m σ H)/\∀i m σ H,W i m σ H ->
   ((Itl K a).stop i H/\D.nx σ H)\/((Itl K a).go i H/\∃N:St->Hp->Prop,(∀σ' H',N σ' H'->∃m',m'<m/\W (i+1) m' σ' H')/\∀x H',(Itl K a).yld i H x H'->g x σ H' λσ2 H2=>tb {D with nx:=N,ct:=N,bk:=D.nx} σ2 H2):=by
 refine⟨λi m σ H=>m=xs.length-i/\i<=xs.length/\Pv i σ H,⟨xs.length,θ,Bz _,h0⟩,?_⟩;rintro i m σ H ⟨rfl,hi,p⟩;have q:=hl i σ H hi p;by_cases ce:i<xs.length
 .refine .inr ⟨⟨xs,xs[i],q,by simp[ce]⟩,Pv (i+1),λσ' H' p'=>⟨xs.length-(i+1),wL ce,ξ,ce,p'⟩,λx H' y=>?_⟩
  obtain⟨e,y⟩:=y;subst e;exact hs i x σ _ (y xs q) p
 .have e:i=xs.length:=wB hi ce
  subst e;exact .inl ⟨⟨xs,q,AI _⟩,hd σ H p⟩
def ZD{g:TG}{D:Ends}(Pv:Nat->St->Hp->Prop)(h0:Pv 0 σ H)(hl:∀i σ H,i<=xs.length->Pv i σ H->SqT K H a xs)
  (hs:∀i x σ H,xs[i]?=u8 x->Pv i σ H->g x σ H λσ2 H2=>tb {D with nx:=Pv (i+1),ct:=Pv (i+1),bk:=D.nx} σ2 H2) (hd:∀σ H,Pv xs.length σ H->D.nx σ H) :
  ∃W:Nat->Nat->St->Hp->Prop,(∃m,W 0 m σ H)/\∀i m σ H,W i m σ H ->
   ((Itt K a).stop i H/\D.nx σ H)\/((Itt K a).go i H/\∃N:St->Hp->Prop,(∀σ' H',N σ' H'->∃m',m'<m/\W (i+1) m' σ' H')/\∀x H',(Itt K a).yld i H x H'->g x σ H' λσ2 H2=>tb {D with nx:=N,ct:=N,bk:=D.nx} σ2 H2):=by
 refine⟨λi m σ H=>m=xs.length-i/\i<=xs.length/\Pv i σ H,⟨xs.length,θ,Bz _,h0⟩,?_⟩;rintro i m σ H ⟨rfl,hi,p⟩;have q:=hl i σ H hi p;by_cases ce:i<xs.length
 .refine .inr ⟨⟨xs,xs[i],q,by simp[ce]⟩,Pv (i+1),λσ' H' p'=>⟨xs.length-(i+1),wL ce,ξ,ce,p'⟩,λx H' y=>?_⟩
  obtain⟨e,y⟩:=y;subst e;exact hs i x σ _ (y xs q) p
 .have e:i=xs.length:=wB hi ce
  subst e;exact .inl ⟨⟨xs,q,AI _⟩,hd σ H p⟩
def QK{lo:Int}{g:TG}{D:Ends}(Pv:Nat->St->Hp->Prop)(h0:Pv 0 σ H)
  (hs:∀i σ H,i<n->Pv i σ H->g (.int (lo+i)) σ H λσ2 H2=>tb {D with nx:=Pv (i+1),ct:=Pv (i+1),bk:=D.nx} σ2 H2) (hd:∀σ H,Pv n σ H->D.nx σ H) :
  ∃W:Nat->Nat->St->Hp->Prop,(∃m,W 0 m σ H)/\∀i m σ H,W i m σ H ->
   ((Itr lo n).stop i H/\D.nx σ H)\/((Itr lo n).go i H/\∃N:St->Hp->Prop,(∀σ' H',N σ' H'->∃m',m'<m/\W (i+1) m' σ' H')/\∀x H',(Itr lo n).yld i H x H'->g x σ H' λσ2 H2=>tb {D with nx:=N,ct:=N,bk:=D.nx} σ2 H2):=by
 refine⟨λi m σ H=>m=n-i/\i<=n/\Pv i σ H,⟨n,θ,Bz _,h0⟩,?_⟩;rintro i m σ H ⟨rfl,hi,p⟩;by_cases ce:i<n
 .refine .inr ⟨ce,Pv (i+1),λσ' H' p'=>⟨n-(i+1),wL ce,ξ,ce,p'⟩,λx H' y=>?_⟩
  obtain⟨e,y⟩:=y;subst e y;exact hs i σ _ ce p
 .have e:i=n:=wB hi ce
  subst e;exact .inl ⟨AI _,hd σ H p⟩
abbrev R2:=V->V->Hp->VK->Prop
def OpR(X:Cx)(f:Au->Au->Sem Au)(r:R2):Prop :=
 ∀(aI:vN) (s:AA) (σ:St) (H:Hp) (x y:V) (v u:Au) (Q:VK),Inv X aI σ H s->RelV x v->RelV y u->r x y H Q ->
  wpAny (AN X.prog X.w) X.A (f v u) (EP X aI σ Q) X.xe s
def UnR(X:Cx)(f:Au->Sem Au)(r:V->Hp->VK->Prop):Prop :=
 ∀(aI:vN) (s:AA) (σ:St) (H:Hp) (x:V) (v:Au) (Q:VK),Inv X aI σ H s->RelV x v->r x H Q ->
  wpAny (AN X.prog X.w) X.A (f v) (EP X aI σ Q) X.xe s
def CallR(X:Cx)(f:Au)(r:List V->Hp->VK->Prop):Prop :=
 ∀(aI:vN) (s:AA) (σ:St) (H:Hp) (xs:List V) (us:vO) (Q:VK),Inv X aI σ H s->Vals xs us->r xs H Q ->
  wpAny (AN X.prog X.w) X.A (call f us) (EP X aI σ Q) X.xe s
def tOp(r:R2)(ta tb:TE):TE:=λσ H Q=>ta σ H λx H1=>tb σ H1 λy H2=>r x y H2 Q
def tUn(r:V->Hp->VK->Prop)(ta:TE):TE:=λσ H Q=>ta σ H λx H1=>r x H1 Q
def rI(C:Int->Int->Prop)(g:Int->Int->V):R2:=λx y H Q=>E2 λi j=>A4 (x=.int i) (y=.int j) (C i j) (Q (g i j) H)
def rI0(g:Int->Int->V):R2:=λx y H Q=>E2 λi j=>A3 (x=.int i) (y=.int j) (Q (g i j) H)
def rU(g:Int->V):V->Hp->VK->Prop:=λx H Q=>∃i,x=.int i/\Q (g i) H
section
variable{a b:Expr}{ta tb tc:TE}
def binT(ha:PE X a ta)(hb:PE X b tb){R:V->V->Hp->Prop}(I:Inv X aI σ H s)
  (h:ta σ H λx H1=>tb σ H1 λy H2=>R x y H2){f:Au->Au->Sem Au}
  (hf:∀v u s2 x y H2,Inv X aI σ H2 s2->RelV x v->RelV y u->R x y H2->wpAny (AN X.prog X.w) X.A (f v u) Q X.xe s2) :
  wpAny (AN X.prog X.w) X.A (eval a X.env) (λv s₁=>wpAny (AN X.prog X.w) X.A (eval b X.env) (λu s₂=>wpAny (AN X.prog X.w) X.A (f v u) Q X.xe s₂) X.xe s₁) X.xe s:=by
 refine thn (ha aI s σ H _ I h) λv s1 hq=>?_;obtain⟨x,H1,I1,r1,q1⟩:=hq;refine thn (hb aI s1 σ H1 _ I1 q1) λu s2 hq=>?_;obtain⟨y,H2,I2,r2,q2⟩:=hq;exact hf v u s2 x y H2 I2 r1 r2 q2
def Aw{op:Operator}{r:R2}(ho:OpR X (Hk op) r)(ha:PE X a ta)(hb:PE X b tb):PE X (.BinOp a op b pos) (tOp r ta tb):=by
 intro aI s σ H Q I h;exact wpAny_BinOp (binT ha hb I h λv u s2 x y H2 I2 rx ry q=>ho aI s2 σ H2 x y v u Q I2 rx ry q)
def ZJ{op:UnaryOp}{r:V->Hp->VK->Prop}(ho:UnR X (unaryOp op) r)(ha:PE X a ta):PE X (.UnaryOp op a pos) (tUn r ta):=by
 intro aI s σ H Q I h;exact UnaryOp_ (thn (ha aI s σ H _ I h) λv s1 ⟨x,H1,I1,r1,q1⟩=>ho aI s1 σ H1 x v Q I1 r1 q1)
def opI{f:Au->Au->Sem Au}{C:Int->Int->Prop}{g:Int->Int->Int}
  (rule:∀(i j:Int) (t u:Tok) (s:AA) (Q:vJ) (E:vJ),C i j->Q (.int (g i j) s.toks) {s with toks:=s.toks+1}->wpAny (AN X.prog X.w) X.A (f (.int i t) (.int j u)) Q E s) :
  OpR X f (rI C λi j=>.int (g i j)):=by
 intro aI s σ H x y v u Q I rx ry h;obtain⟨i,j,rfl,rfl,hc,q⟩:=h;obtain⟨t,rfl⟩:=rx;obtain⟨t',rfl⟩:=ry;exact rule i j t t' s _ _ hc ⟨.int (g i j),H,I.tok _,⟨_,ξ⟩,q⟩
def opI0{f:Au->Au->Sem Au}{g:Int->Int->Int}
  (rule:∀(i j:Int) (t u:Tok) (s:AA) (Q:vJ) (E:vJ),Q (.int (g i j) s.toks) {s with toks:=s.toks+1}->wpAny (AN X.prog X.w) X.A (f (.int i t) (.int j u)) Q E s) :
  OpR X f (rI0 λi j=>.int (g i j)):=by
 intro aI s σ H x y v u Q I rx ry h;obtain⟨i,j,rfl,rfl,q⟩:=h;obtain⟨t,rfl⟩:=rx;obtain⟨t',rfl⟩:=ry;exact rule i j t t' s _ _ ⟨.int (g i j),H,I.tok _,⟨_,ξ⟩,q⟩
def opB0{f:Au->Au->Sem Au}{g:Int->Int->Bool}
  (rule:∀(i j:Int) (t u:Tok) (s:AA) (Q:vJ) (E:vJ),Q (.bool (g i j)) s->wpAny (AN X.prog X.w) X.A (f (.int i t) (.int j u)) Q E s) :
  OpR X f (rI0 λi j=>.bl (g i j)):=by
 intro aI s σ H x y v u Q I rx ry h;obtain⟨i,j,rfl,rfl,q⟩:=h;obtain⟨t,rfl⟩:=rx;obtain⟨t',rfl⟩:=ry;exact rule i j t t' s _ _ ⟨.bl (g i j),H,I,ξ,q⟩
def CDiv(i j:Int):Prop:=0<j/\j<1073741824
def CMul(i j:Int):Prop:=(-(2 ^ 64)<i/\i<2 ^ 64)\/(-(2 ^ 64)<j/\j<2 ^ 64)
def CMul.ok{i j:Int}(h:CMul i j):IntMulOk i j:=by
 rcases h with⟨h1,h2⟩| ⟨h1,h2⟩
 .exact .of_left (intBits_le_64 h1 h2)
 .exact .of_right (intBits_le_64 h1 h2)
def Xx(k:Nat):(0:Int)<=2 ^ k:=by
 rw[two_pow_cast];exact SF _
def CQ:OpR X (Hk .Add) (rI0 λi j=>.int (i+j)):=opI0 λ_ _ _ _ _ _ _ q=>add_int q
def Ez:OpR X (Hk .Sub) (rI0 λi j=>.int (i-j)):=opI0 λ_ _ _ _ _ _ _ q=>sub_int q
def Jg:OpR X (Hk .Mult) (rI CMul λi j=>.int (i*j)):=opI λ_ _ _ _ _ _ _ hc q=>mul_int q hc.ok
def Eb:OpR X (Hk .FloorDiv) (rI CDiv λi j=>.int (i / j)):=opI λi j _ _ _ _ _ hc q=>by
 have h1:=hc.1;have h2:=hc.2;exact floordiv_int (yq h1) (by rw[N4 i (w9 h1)];exact q) (.inl (P9 δ))
def Cq:OpR X (Hk .Mod) (rI (λ_ j=>0<j) λi j=>.int (i%j)):=opI λi j _ _ _ _ _ hc q=>by
 have h1:=hc;exact mod_int' (yq hc) (by rw[Int.fmod_eq_emod_of_nonneg i (w9 hc)];exact q)
def AHj:OpR X (Hk .RShift) (rI (λ_ j=>0<=j) λi j=>.int (i / 2 ^ j.toNat)):=opI λi j _ _ _ _ _ hc q =>
 rshift_int hc (by rw[N4 i (Xx _)];exact q)
def AHh:OpR X (Hk .BitAnd) (rI0 λi j=>.int (Builtin.bitAnd i j)):=opI0 λ_ _ _ _ _ _ _ q=>and_int q
def unI{f:Au->Sem Au}{g:Int->Int}
  (rule:∀(i:Int) (t:Tok) (s:AA) (Q:vJ) (E:vJ),Q (.int (g i) s.toks) {s with toks:=s.toks+1}->wpAny (AN X.prog X.w) X.A (f (.int i t)) Q E s) :
  UnR X f (rU λi=>.int (g i)):=by
 intro aI s σ H x v Q I rx h;obtain⟨i,rfl,q⟩:=h;obtain⟨t,rfl⟩:=rx;exact rule i t s _ _ ⟨.int (g i),H,I.tok _,⟨_,ξ⟩,q⟩
def Qm:UnR X (unaryOp .USub) (rU λi=>.int (-i)):=unI λ_ _ _ _ _ q=>neg_int q
end
noncomputable def scal:V->V->Bool
 | .non,.non=>true| .non,.int _=>true| .int _,.non=>true| .non,.bl _=>true| .bl _,.non=>true| .non,.str _=>true| .str _,.non=>true
 | .int _,.int _=>true| .bl _,.bl _=>true| .str _,.str _=>true| .byt _,.byt _=>true
 | .int _,.str _=>true| .str _,.int _=>true| .bl _,.str _=>true| .str _,.bl _=>true
 | _,_=>false
def rEq:R2:=λx y H Q=>scal x y=true/\Q (.bl (decide (x=y))) H
def rNe:R2:=λx y H Q=>scal x y=true/\Q (.bl (!decide (x=y))) H
def Yx{i j:Int}:decide (V.int i=V.int j)=(i==j):=by
 rw[Go];simp
def ABc{i j:Bool}:decide (V.bl i=V.bl j)=(i==j):=by
 rw[Go];simp
def Yv{i j:Str}:decide (V.str i=V.str j)=(i==j):=by
 rw[Go];simp
def YW{i j:Array UInt8}:decide (V.byt i=V.byt j)=(i.toList==j.toList):=by
 rw[Go];cases i;cases j;simp
section
variable{a b:Expr}{ta tb tc:TE}
def Bf{Q:VK}{k k':Bool}(I:Inv X aI σ H s)(q:Q (.bl k) H)(e:k=k'):EP X aI σ Q (.bool k') s:=by
 subst e;exact⟨.bl k,H,I,ξ,q⟩
def EY:OpR X (DS .Eq) rEq:=by
 intro aI s σ H x y v u Q I rx ry h;obtain⟨hs,q⟩:=h;cases x with
 | non =>
  cases rx;cases y with
  | non=>cases ry;exact Xt (Bf I q θ)
  | bl j=>cases ry;exact XA (Bf I q θ)
  | int j=>obtain⟨t',rfl⟩:=ry;exact X5 (Bf I q θ)
  | str j=>obtain⟨t',rfl⟩:=ry;exact X6 (Bf I q θ)
  | _=>exact vF hs BE
 | bl i =>
  cases rx;cases y with
  | non=>cases ry;exact XB (Bf I q θ)
  | bl j=>cases ry;exact eq_bool (Bf I q ABc)
  | str j=>obtain⟨t',rfl⟩:=ry;exact XE (Bf I q θ)
  | _=>exact vF hs BE
 | int i =>
  obtain⟨t,rfl⟩:=rx;cases y with
  | non=>cases ry;exact X7 (Bf I q θ)
  | int j=>obtain⟨t',rfl⟩:=ry;exact eq_int (Bf I q Yx)
  | str j=>obtain⟨t',rfl⟩:=ry;exact X8 (Bf I q θ)
  | _=>exact vF hs BE
 | str i =>
  obtain⟨t,rfl⟩:=rx;cases y with
  | non=>cases ry;exact X9 (Bf I q θ)
  | bl j=>cases ry;exact XG (Bf I q θ)
  | int j=>obtain⟨t',rfl⟩:=ry;exact Ya (Bf I q θ)
  | str j=>obtain⟨t',rfl⟩:=ry;exact eq_str (Bf I q Yv)
  | _=>exact vF hs BE
 | byt i =>
  obtain⟨t,rfl⟩:=rx;cases y with
  | byt j=>obtain⟨t',rfl⟩:=ry;exact PySem.W.eq_bytes (Bf I q YW)
  | _=>exact vF hs BE
 | _=>cases y<;>exact vF hs BE
def AGW:OpR X (DS .NotEq) rNe:=by
 intro aI s σ H x y v u Q I rx ry h;obtain⟨hs,q⟩:=h;cases x with
 | non =>
  cases rx;cases y with
  | non=>cases ry;exact XI (Bf I q θ)
  | bl j=>cases ry;exact XN (Bf I q θ)
  | int j=>obtain⟨t',rfl⟩:=ry;exact Yf (Bf I q θ)
  | str j=>obtain⟨t',rfl⟩:=ry;exact YA (Bf I q θ)
  | _=>exact vF hs BE
 | bl i =>
  cases rx;cases y with
  | non=>cases ry;exact XO (Bf I q θ)
  | bl j=>cases ry;exact ne_bool (Bf I q (congrArg not ABc))
  | str j=>obtain⟨t',rfl⟩:=ry;exact XT (Bf I q θ)
  | _=>exact vF hs BE
 | int i =>
  obtain⟨t,rfl⟩:=rx;cases y with
  | non=>cases ry;exact YE (Bf I q θ)
  | int j=>obtain⟨t',rfl⟩:=ry;exact ne_int (Bf I q (congrArg not Yx))
  | str j=>obtain⟨t',rfl⟩:=ry;exact YI (Bf I q θ)
  | _=>exact vF hs BE
 | str i =>
  obtain⟨t,rfl⟩:=rx;cases y with
  | non=>cases ry;exact YO (Bf I q θ)
  | bl j=>cases ry;exact XU (Bf I q θ)
  | int j=>obtain⟨t',rfl⟩:=ry;exact YR (Bf I q θ)
  | str j=>obtain⟨t',rfl⟩:=ry;exact ne_str (Bf I q (congrArg not Yv))
  | _=>exact vF hs BE
 | byt i =>
  obtain⟨t,rfl⟩:=rx;cases y with
  | byt j=>obtain⟨t',rfl⟩:=ry;exact PySem.W.ne_bytes (Bf I q (congrArg not YW))
  | _=>exact vF hs BE
 | _=>cases y<;>exact vF hs BE
def Hv:OpR X (DS .Lt) (rI0 λi j=>.bl (decide (i<j))):=opB0 λ_ _ _ _ _ _ _ q=>lt_int q
def AGR:OpR X (DS .LtE) (rI0 λi j=>.bl (decide (i<=j))):=opB0 λ_ _ _ _ _ _ _ q=>le_int q
def Ma:OpR X (DS .Gt) (rI0 λi j=>.bl (decide (j<i))):=opB0 λ_ _ _ _ _ _ _ q=>gt_int q
def Yw:OpR X (DS .GtE) (rI0 λi j=>.bl (decide (j<=i))):=opB0 λ_ _ _ _ _ _ _ q=>ge_int q
def nomark(b:Expr)(h:autoParam (op≠.In) zA1._auto_1)(h2:autoParam (op≠.NotIn) zA1._auto_1):HZ op b=false:=by
 have e1:(op==av)=false:=by cases op<;>first| rfl| exact vF rfl h
 have e2:(op==ZA)=false:=by cases op<;>first| rfl| exact vF rfl h2
 cases b<;>simp[HZ,e1,e2]
theorem zB3(h:True:=by exact nomark _):True:=h
def Fp{r:R2}(ho:OpR X (DS op) r)(ha:PE X a ta)(hb:PE X b tb)(hm:autoParam (HZ op b=false) zB3._auto_1):PE X (.Compare a [op] [b] pos) (tOp r ta tb):=by
 intro aI s σ H Q I h;exact V7 (binT ha hb I h λv u s2 x y H2 I2 rx ry q=>ho aI s2 σ H2 x y v u Q I2 rx ry q) hm
def AII(t:TE):TT:=λσ H Q=>t σ H λx H'=>∃k,x=.bl k/\Q k H'
def Aq{r:R2}(ho:OpR X (DS op) r)(ha:PE X a ta)(hb:PE X b tb)(hm:autoParam (HZ op b=false) zB3._auto_1):PT X (.Compare a [op] [b] pos) (AII (tOp r ta tb)):=by
 intro aI s σ H Q I h;refine QR (thn (ha aI s σ H _ I h) λv s1 ⟨x,H1,I1,r1,q1⟩=>thn (hb aI s1 σ H1 _ I1 q1) λu s2 ⟨y,H2,I2,r2,q2⟩ =>
  thn (ho aI s2 σ H2 x y v u _ I2 r1 r2 q2) λc s3 ⟨z,H3,I3,r3,k,e,q3⟩=>?_) hm
 subst e;cases r3;exact FE ⟨H3,I3,q3⟩
def line63:(sizeLine:Nat)<2 ^ 63:=by rw[EW];decide
def vals1{x:V}(r:Vals [x] us):∃u,us=[u]/\RelV x u:=by
 cases r with
 | cons r1 r2=>cases r2;exact⟨_,ξ,r1⟩
end
structure ObjM(h:Heap)(x dx C:Addr)(mA:vM):Prop where
 obj:h.get? x=u8 (FI C dx)
 ns:h.Ns1 dx mA
 ne:dx≠x
set_option tactic.hygienic true in
theorem AAp(n:h.Ns1 dx mA):∃od,h.get? dx=u8 od/\∀name,No name od=u8 (mA name):=by
 obtain⟨o,es,ep,ho,hd,hk,_,hm⟩:=n;refine⟨o,ho,λname=>?_⟩;have e:=hm name;unfold nsFind findBy at e;rw[<- Array.find?_toList] at e;unfold No;rw[hd];dsimp only;split
 .rename_i y q
  rw[q] at e;exact congrArg u8 e
 .rename_i q
  rw[q] at e;have a:es.toList.any (·.refKey)=false:=by
   rw[List.any_eq_false];intro y hy;obtain⟨z,t,hkey⟩:=hk y (Array.mem_toList_iff.mp hy);simp[DictEntry.refKey,hkey]
  have a':¬ es.toList.any (·.refKey)=true:=by rw[a];exact BE
  rw[vA a'];exact congrArg u8 e
def ObjM.look{x:Addr}(I:ObjM h x dx C mA):∃od,PySem.W.InstAt h x (FI C dx) C (u8 od)/\∀name,No name od=u8 (mA name) :=
 let ⟨od,ho,hl⟩:=AAp I.ns
 ⟨od,⟨I.obj,ξ,ξ,ho⟩,hl⟩
section
variable{x:Addr}{v:Au}
def get_map{expr:Bool}(X:K.In s.heap)(I:ObjM s.heap x dx C mA)(hg:KW K C name=true)(hh:LW K C=true)
  (ha:C2 K (.ref C) name=u8 u9) (hv:mA name=u8 v) (ny:US v=true) (h:Q v {s with toks:=s.toks+1}) :
  wpAny (AN prog w) A (getAttr (.ref x) name expr) Q E s:=by
 obtain⟨od,J,hl⟩:=I.look;exact PySem.W.get_value X J (M5 hg).1 (PySem.W.findObj_own hh ha rfl (by rw[hl,hv])) ny h
def ADd{pl:Sem Bool}{Q:Au×vO->AA->Prop}(X:K.In s.heap)(I:ObjM s.heap x dx C mA)(hg:KW K C name=true)
  (hf:C2 K (.ref C) name=u8 (u8 (.ref f))) (ht:MQ K (.ref f)=true) (hv:mA name=u9) (h:Q (.ref f,[.ref x]) s) :
  wpAny (AN prog w) A (SW (.ref x) name pl) Q E s:=by
 obtain⟨od,J,hl⟩:=I.look;exact PySem.W.method_fn X J (M5 hg).1 (M5 hg).2 hf (beq_iff_eq.mp ht) (by show(No name od).map (·.isSome)=u8 false;rw[hl,hv];rfl) h
def AEl{ns:vQ}{Q:vL}(X:K.In s.heap)(I:ObjM s.heap x dx C mA)
  (hs:C2 K (.ref C) "__setattr__" = u8 (u8 (.builtin "object.__setattr__"))) (hp:OA K C=true) (ht:PF K C name=u8 u9) (hh:LW K C=true)
  (hw:SO mA ns) (hsz:ns.length<=sizeLine)
  (h:∀h',ObjM h' x dx C (λy=>if y=name then u8 v else mA y)->ET dx s.heap h'->Q () {s with heap:=h',toks:=s.toks+2}) :
  wpAny (AN prog w) A (setAttr (.ref x) name v) Q E s:=by
 obtain⟨od,J,hl⟩:=I.look;refine PySem.W.set_plain X J hs (PySem.W.osa_open (s:={s with toks:=s.toks+1}) (r:=u9) X J hp ht λb=>?_);obtain⟨cd,hc,eh⟩:=PySem.W.any_some hh;have hx:=I.obj;refine Ap (AC (Ap (Ap (wpAny_loadPart hx (Ap (Z6 (s:={s with toks:=s.toks+1}) (PySem.W.looks_clsIn X hc) ?_))))));rw[eh];refine AC (a:=u8 dx) (Ap (AC (Ap ?_)));refine wpAny_nsSet1 (s:={s with toks:=s.toks+1}) I.ns λh' hn2 n9=>?_;obtain⟨oD,esD,epD,hoD,hdD,hcD⟩:=hn2.count (ah name v hw);refine Ap (wpAny_lookBehind hoD (by rw[hdD];exact pastItsLine_dict (BQ hcD (by rw[C5];exact xN hsz))) ?_);exact AC (h _ ⟨(n9.2 _ (BU I.ne)).trans I.obj,hn2,I.ne⟩ n9)
def ACr(X:K.In s.heap)(hm:HR K C=true)
  (hi:C2 K (.ref C) "__init__" = u8 (u8 (.ref f))) (hf:PySem.W.typeIn K (.ref f)=u8 (.type "function"))
  (h:codeAny (AN prog w) (A.under (.builtin "type.__call__" ⟨.ref C::vs,kw⟩)) (.call (.ref f) ⟨.ref (s.heap.objs.size+1)::vs,kw⟩) (UT (s.heap.objs.size+1) R)
   {s with heap:=(s.heap.push EI).push (FI C s.heap.objs.size)}) :
  codeAny (AN prog w) A (.call (.ref C) ⟨vs,kw⟩) R s:=by
 obtain⟨hh,g,d,t,os⟩:=s;exact TN (UU X hm) (RH X hi) (λself=>PySem.W.bind_fn X self hf) (.inl rfl) h
def AAt(X:K.In s.heap)(hm:HR K C=true)
  (hi:C2 K (.ref C) "__init__" = u8 (u8 (.builtin "object.__init__")))
  (hb:∀self,PySem.W.Looks (AN prog w) s.heap (bindSpecial (.builtin "object.__init__") self) (.builtin "object.__init__",[self]))
  (h:codeAny (AN prog w) (A.under (.builtin "type.__call__" ⟨[.ref C],[]⟩)) (.call (.builtin "object.__init__") ⟨[.ref (s.heap.objs.size+1)],[]⟩) (UT (s.heap.objs.size+1) R)
   {s with heap:=(s.heap.push EI).push (FI C s.heap.objs.size)}) :
  codeAny (AN prog w) A (.call (.ref C) ⟨[],[]⟩) R s:=by
 obtain⟨hh,g,d,t,os⟩:=s;exact TN (UU X hm) (RH X hi) hb (.inr ⟨ξ,ξ⟩) h
end
noncomputable def putF(f:Str)(v:V):List (Str×V)->List (Str×V)
 | []=>[(f,v)]
 | (g,x)::r=>if g=f then(g,v)::r else(g,x)::putF f v r
theorem Aj(f g:Str)(v:V):∀fs:List (Str×V),(putF f v fs).lookup g=if g=f then u8 v else fs.lookup g
 | []=>by
  show FR g [(f,v)]=_;by_cases h:g=f
  .have hb:(g==f)=true:=beq_iff_eq.mpr h
   simp only[FR,hb,vB h]
  .have hb:=beq_eq_false_iff_ne.mpr h
   simp only[FR,hb,vA h]
 | (k,x)::r=>by
  have ih:=Aj f g v r;rw[show putF f v ((k,x)::r)=(if k=f then(k,v)::r else(k,x)::putF f v r) from rfl];by_cases hk:k=f
  .rw[vB hk]
   by_cases h:g=k
   .have hb:=beq_iff_eq.mpr h
    simp only[FR,hb,vB (h.trans hk)]
   .have hb:=beq_eq_false_iff_ne.mpr h
    simp only[FR,hb,vA (λe:g=f=>h (e.trans hk.symm))]
  .rw[vA hk]
   by_cases h:g=k
   .have hb:=beq_iff_eq.mpr h
    simp only[FR,hb,vA (λe:g=f=>hk (h.symm.trans e))]
   .have hb:=beq_eq_false_iff_ne.mpr h
    simp only[FR,hb];exact ih
theorem Jt(f:Str)(v:V):∀fs:List (Str×V),f∈(putF f v fs).map (·.1)/\∀g,g∈fs.map (·.1)->g∈(putF f v fs).map (·.1)
 | []=>⟨by simp[putF],λg h=>by simp at h⟩
 | (k,x)::r=>by
  obtain⟨i1,i2⟩:=Jt f v r;rw[show putF f v ((k,x)::r)=(if k=f then(k,v)::r else(k,x)::putF f v r) from rfl];by_cases hk:k=f
  .rw[vB hk]
   subst hk;exact⟨θ,λg h=>by simpa using h⟩
  .rw[vA hk]
   refine⟨?_,λg h=>?_⟩
   .rw[BO]
    exact AJ _ i1
   .rw[BO] at h ⊢
    rcases AY.mp h with e| e
    .exact AY.mpr (.inl e)
    .exact AJ _ (i2 g e)
theorem KY(f:Str)(v:V):∀fs:List (Str×V),(putF f v fs).length<=fs.length+1
 | []=>by simp[putF]
 | (k,x)::r=>by
  have ih:=KY f v r;rw[show putF f v ((k,x)::r)=(if k=f then(k,v)::r else(k,x)::putF f v r) from rfl];by_cases hk:k=f
  .rw[vB hk,C5,C5];exact vq
  .rw[vA hk,C5,C5];exact xN ih
def vX{o:vS}(r:RelO (u8 v) o):∃u,o=u8 u/\RelV v u:=by
 cases o with
 | none=>exact r.elim
 | some u=>exact⟨u,ξ,r⟩
def vY{o:vS}(r:RelO u9 o):o=u9:=by
 cases o with
 | none=>rfl
 | some u=>exact r.elim
def ABP(r:RelV v u):US u=true:=by
 cases v with
 | non=>cases r;rfl
 | bl b=>cases r;rfl
 | int i=>obtain⟨t,e⟩:=r;cases e;rfl
 | str x=>obtain⟨t,e⟩:=r;cases e;rfl
 | byt b=>obtain⟨t,e⟩:=r;cases e;rfl
 | flt b=>obtain⟨t,e⟩:=r;cases e;rfl
 | ref a=>cases r;rfl
 | ty n=>cases r;rfl
section
variable{fs fs':List (Str×V)}
def Qw(hok:HOk P w H h)(e:H a=u8 (.ins C dx fs)):∃mA,ObjM h a dx C mA/\(∀f,RelO (fs.lookup f) (mA f))/\SO mA (fs.map (·.1))/\fs.length<=1000/\H dx=u8 (.own a):=by
 obtain⟨d,z,ne,ob,mA,n,r,q⟩:=(hok a _ e);exact⟨mA,⟨ob,n,ne⟩,r,q,z,d⟩
end
structure Cls(K:As)(C:Addr):Prop where
 pg:KW K C Str.empty=true
 hd:LW K C=true
 po:OA K C=true
 sa:C2 K (.ref C) "__setattr__" = u8 (u8 (.builtin "object.__setattr__"))
def Cls.get(c:Cls K C)(f:Str):KW K C f=true:=c.pg
def NoAttr(K:As)(C:Addr)(f:Str):Prop:=C2 K (.ref C) f=u8 u9
def NoAttr.taker{f:Str}(n:NoAttr K C f):PF K C f=u8 u9:=by
 unfold PF;rw[show C2 K (.ref C) f=u8 u9 from n];rfl
structure Meth(K:As)(C:Addr)(m:Str)(f:Addr):Prop where
 at_:C2 K (.ref C) m=u8 (u8 (.ref f))
 fn:MQ K (.ref f)=true
 kp:C8 K (.ref f)=true
section
variable{fs:List (Str×V)}{f:Str}
def Wj{b:Bool}(I:Inv X aI σ H s)(e:H a=u8 (.ins C dx fs))(c:Cls X.K C)(n:NoAttr X.K C f)(l:fs.lookup f=u8 v)
  (h:∀u s',Inv X aI σ H s'->RelV v u->Q u s'):wpAny (AN X.prog X.w) A (getAttr (.ref a) f b) Q E s:=by
 obtain⟨mA,O,r,_,_,_⟩:=Qw I.hok e;obtain⟨u,hu,ru⟩:=vX (v:=v) (o:=mA f) (by rw[<- l];exact r f);exact get_map I.kIn O (c.get f) c.hd n hu (ABP ru) (h u _ (I.tok _) ru)
def Mp{m:Str}{g:Addr}{pl:Sem Bool}{Q:Au×vO->AA->Prop}(I:Inv X aI σ H s)(e:H a=u8 (.ins C dx fs))(c:Cls X.K C)(k:Meth X.K C m g)(l:fs.lookup m=u9)
  (h:Q (.ref g,[.ref a]) s):wpAny (AN X.prog X.w) A (SW (.ref a) m pl) Q E s:=by
 obtain⟨mA,O,r,_,_,_⟩:=Qw I.hok e;have hn:=vY (by rw[<- l];exact r m);exact ADd I.kIn O (c.get m) k.at_ k.fn hn h
def Xm{Q:vL}(I:Inv X aI σ H s)(e:H a=u8 (.ins C dx fs))(c:Cls X.K C)(n:NoAttr X.K C f)(hl:fs.length<1000)(ry:RelV y u)
  (h:∀s',Inv X aI σ (upd H a (.ins C dx (putF f y fs))) s'->Q () s'):wpAny (AN X.prog X.w) A (setAttr (.ref a) f u) Q E s:=by
 obtain⟨mA,O,r,wi,_,ho⟩:=Qw I.hok e;have hz:(fs.map (·.1)).length<=sizeLine:=by rw[AB,EW];lia
 refine AEl I.kIn O c.sa c.po n.taker c.hd wi hz λh' O' sb=>h _ ?_;have hd:∃o,h'.get? dx=u8 o:=by obtain⟨o,_,_,e',_⟩:=O'.ns;exact⟨o,e'⟩
 refine I.write (x:=a) (e:=dx) (by rw[e];exact IE) (.inr ho) (λb q hb z=>(sb.2 b hb).trans z) hd ?_;refine⟨by rw[Ag O.ne];exact ho,?_,O.ne,O'.obj,_,O'.ns,λg=>?_,λg hg=>?_⟩
 .have:=KY f y fs;exact xZ this hl
 .rw[Aj]
  by_cases q:g=f
  .rw[vB q,vB q];exact ry
  .rw[vA q,vA q];exact r g
 .by_cases q:g=f
  .rw[q];exact(Jt f y fs).1
  .refine(Jt f y fs).2 g (wi g λz=>hg ?_)
   show(if g=f then u8 u else mA g)=u9;rw[vA q];exact z
def Inv.made(I:Inv X aI σ H s):Inv X aI σ (upd (upd H s.heap.objs.size (.own (s.heap.objs.size+1))) (s.heap.objs.size+1) (.ins C s.heap.objs.size []))
  {s with heap:=(s.heap.push EI).push (FI C s.heap.objs.size)}:=by
 have e1:(s.heap.push EI).get? s.heap.objs.size=u8 EI:=AQ s.heap rfl;have e2:((s.heap.push EI).push (FI C s.heap.objs.size)).get? (s.heap.objs.size+1)=u8 (FI C s.heap.objs.size):=by
  have:=AQ (s.heap.push EI) (o:=FI C s.heap.objs.size) rfl
  rwa [DL] at this
 have e3:(s.heap.push EI).Ns s.heap.objs.size (λ_=>u9):=⟨EI,#[],_,e1,ξ,(λe he=>vF he θ),λ_=>rfl⟩;have I1:=I.laid (a:=s.heap.objs.size) (o:=.own (s.heap.objs.size+1)) (h':=s.heap.push EI) (t':=s.toks) (λb u q=>AE _ q) (AI _) ⟨_,e1⟩;refine I1.laid (a:=s.heap.objs.size+1) (o:=.ins C s.heap.objs.size []) (t':=s.toks) (λb u q=>AE _ q) (OU (DL _ _)) ?_;have ne:s.heap.objs.size≠s.heap.objs.size+1:=BF (ER _);refine⟨by rw[Ag ne,Ab],Bz _,ne,e2,λ_=>u9,(Heap.Ns1.of_empty e3).at λo q=>AE _ q,λ_=>IE,λy hy=>vF rfl hy⟩
def AFd{env:Env}{f:Str}(hb:K6 e f env (eval e env)=eval e env)
  (h:wpAny (AN prog w) A (eval e env) (λo s₁=>wpAny (AN prog w) A (getAttr o f true) Q E s₁) E s):wpAny (AN prog w) A (eval (.Attribute e f pos) env) Q E s :=
 Attribute_any_ h (by rw[arm_eval_Attribute,hb])
end
def AIz(K:As)(ta:TE)(f:Str):TE:=λσ H Q=>ta σ H λx H1=>E5 λa C dx fs v=>A6 (x=.ref a) (H1 a=u8 (.ins C dx fs)) (Cls K C) (NoAttr K C f) (fs.lookup f=u8 v) (Q v H1)
def AJA(K:As)(ta tv:TE)(f:Str):TS:=λD σ H=>tv σ H λy H1=>ta σ H1 λx H2=>∃a C dx fs,x=.ref a/\H2 a=u8 (.ins C dx fs)/\Cls K C/\NoAttr K C f/\fs.length<1000 /\
 D.nx σ (upd H2 a (.ins C dx (putF f y fs)))
section
variable{o:Expr}{f:Str}{ta tv:TE}
def Bk(he:PE X e ta)(hb:K6 e f X.env (eval e X.env)=eval e X.env):PE X (.Attribute e f pos) (AIz X.K ta f):=by
 intro aI s σ H Q I h;refine AFd hb (thn (he aI s σ H _ I h) λu s1 hq=>?_);obtain⟨x,H1,I1,rx,a,C,dx,fs,v,ex,ea,c,n,l,q⟩:=hq;subst ex;obtain rfl:u=A7 a:=rx;exact Wj I1 ea c n l λu' s2 I2 ru=>⟨v,H1,I2,ru,q⟩
def Dy(ha:PE X o ta)(hv:PE X bn tv)(hs:MA bn (u8 (.Attribute o f bX)) pos.line X.env=pure false):PS X (.Assign [.Attribute o f bX] bn pos) (AJA X.K ta tv f):=by
 intro aI s σ H D I h;refine plainObj_wpAny_Assign_Attribute (thn (hv aI s σ H _ I h) λu s1 ⟨y,H1,I1,ry,q⟩=>thn (ha aI s1 σ H1 _ I1 q) λov s2 hq=>?_) hs;obtain⟨x,H2,I2,rx,a,C,dx,fs,ex,ea,c,n,l,q2⟩:=hq;subst ex;obtain rfl:ov=A7 a:=rx;exact Xm I2 ea c n l ry λs3 I3=>⟨σ,_,I3,q2⟩
end
structure Room(k:Nat)(A:BM):Prop where
 hd:A.handled=u9
 dp:A.depth+3*k+5<We
 un:A.units+16*k+200<Cs
 gd:A.guards=u8 []
def Room.mono{k:Nat}(r:Room k A)(h:j<=k):Room j A:=⟨r.hd,by have:=r.dp;lia,by have:=r.un;lia,r.gd⟩
def Room.deeper{k:Nat}(r:Room (k+1) A)(env:Env):Room k (A.deeper env) :=
 ⟨r.hd,by have:=r.dp;show A.depth+1+3*k+5<_;exact yX this,by have:=r.un;show A.units+3+16*k+200<_;lia,r.gd⟩
def XF:(A.under (.builtin "type.__call__" ⟨.ref C::us,kw⟩)).depth=A.depth+1:=by
 first| rfl| simp[OZ,Code.weight,Code.isCreation,Code.isGuard,Code.isCaller,ZH,SY,guardIds]
def Wq:(A.under (.builtin "type.__call__" ⟨.ref C::us,kw⟩)).units=A.units+1:=by
 first| rfl| simp[OZ,Code.cUnits,ZH,SY]
def Vr(hg:A.guards=u8 []):(A.under (.builtin "type.__call__" ⟨.ref C::us,kw⟩)).guards=u8 []:=by
 have h:(Code.builtin "type.__call__" ⟨.ref C::us,kw⟩).isGuard=false:=by
  show guardIds.contains "type.__call__" = false;decide+kernel
 simp[OZ,Code.guards,h,pushGuards,hg]
def Room.make{k:Nat}(r:Room (k+1) A)(C:Addr)(us:vO)(kw:List (Str×Au)):Room k (A.under (.builtin "type.__call__" ⟨.ref C::us,kw⟩)) :=
 ⟨r.hd,by have:=r.dp;rw[XF];exact yX this,by have:=r.un;rw[Wq];lia,Vr r.gd⟩
def Room.depth{k:Nat}(r:Room k A):A.depth<We:=by have:=r.dp;lia
def Room.units{k:Nat}(r:Room k A):A.units+64<Cs:=by have:=r.un;lia
def AFP:TA:=λ_ H Q=>Q [] H
def AGX(ta:TE)(tr:TA):TA:=λσ H Q=>ta σ H λx H1=>tr σ H1 λxs H2=>Q (x::xs) H2
section
variable{t:TA}
def Ac:PA X [] AFP:=λ_ _ _ _ H Q I h=>IB ⟨[],H,I,.nil,h⟩
def Aa(ha:PE X e te)(hr:PA X es t)(hs:autoParam (B3 (e::es) X.env=(false,eval e X.env)::B3 es X.env) zA0._auto_1):PA X (e::es) (AGX te t):=by
 intro pos aI s σ H Q I h;rw[hs];refine F3 (thn (ha aI s σ H _ I h) λu s1 hq=>?_);obtain⟨x,H1,I1,r1,q1⟩:=hq;exact thn (hr pos aI s1 σ H1 _ I1 q1) λus s2 ⟨xs,H2,I2,r2,q2⟩=>⟨x::xs,H2,I2,.cons r1 r2,q2⟩
def AIy(t:TA):TE:=λσ H Q=>t σ H λxs H1=>xs.length<=sizeLine/\∀p,H1 p=none->Q (.ref p) (upd H1 p (.tup xs))
def AJD(t:TA):TE:=λσ H Q=>t σ H λxs H1=>xs.length<=sizeLine/\∀p,H1 p=none->Q (.ref p) (upd H1 p (.lst xs))
def Bs{x1}(h:PA X es t):PE X (.Tuple es x1 pos) (AIy t):=by
 intro aI s σ H Q I hq;refine wpAny_Tuple_spliced (thn (h pos aI s σ H _ I hq) λus s1 ⟨xs,H1,I1,r,z,q⟩=>⟨by rw[<- r.length];exact z,?_⟩);have hf:=I1.hok.fresh (AI _);refine⟨.ref s1.heap.objs.size,upd H1 s1.heap.objs.size (.tup xs),I1.laid (t':=s1.toks) (λb u e=>AE _ e) (AI _) ?_,ξ,q _ hf⟩;exact⟨z,us,r,⟨_,AQ _ rfl,ξ,_,ξ⟩⟩
def DG(h:PA X es t):PE X (.List es pos) (AJD t):=by
 intro aI s σ H Q I hq;refine wpAny_List_spliced (thn (h pos aI s σ H _ I hq) λus s1 ⟨xs,H1,I1,r,z,q⟩=>⟨by rw[<- r.length];exact z,?_⟩);have hf:=I1.hok.fresh (AI _);refine⟨.ref s1.heap.objs.size,upd H1 s1.heap.objs.size (.lst xs),I1.laid (t':=s1.toks) (λb u e=>AE _ e) (AI _) ?_,ξ,q _ hf⟩;exact⟨z,us,0,r,AQ _ rfl⟩
end
abbrev Sp:=List V->Hp->VK->XK->Prop
variable{sp:L2.Sp}
abbrev CXT:=List Env->Hp->AA->XK->Au->AA->Prop
variable{CX:L2.CXT}
structure Env0(P:AL)(w:AR)(K:As)(mg:vM)(base:Heap)(A:BM)(outer:List Env)(s:AA)(H:Hp):Prop where
 frames:A.frames=u8 outer
 mod:Mod K mg base
 bs:∀b o,base.get? b=u8 o->s.heap.get? b=u8 o/\H b=u9
 bsz:base.objs.size<=s.heap.objs.size
 funs:s.heap.FunFrames base outer
 frf:∀b∈frs outer,H b=u9
 hok:HOk P w H s.heap
 bare:My s.gens
def CE(outer:List Env)(P:AL)(w:AR)(H:Hp)(s:AA)(Q:VK)(u:Au)(s':AA):Prop :=
 ∃v H',s'.os=s.os/\My s'.gens/\Un (frs outer) [] H H' s.heap s'.heap/\HOk P w H' s'.heap/\RelV v u/\Q v H'
def CR(CX:CXT)(outer:List Env)(P:AL)(w:AR)(H:Hp)(s:AA)(Q:VK)(E:XK)(r:OY)(s':AA):Prop :=
 match r with
 | .ok (.ret u)=>CE outer P w H s Q u s'
 | .ok _=>False
 | .error e=>CX outer H s E e s'
structure FnOk(P:AL)(w:AR)(K:As)(mg:vM)(base:Heap)(CX:CXT)(k:Nat)(f:Addr)(fd:BA)(ps:vQ)(sp:Sp):Prop where
 len:∀vs H Q E,sp vs H Q E->vs.length=ps.length
 run:∀(A:BM) (outer:List Env) (s:AA) (H:Hp) (args:Args) (us:vO) (vs:List V) (Q:VK) (E:XK),Room k A->Env0 P w K mg base A outer s H->QY s fd args (ps.zip us)->Vals vs us->sp vs H Q E ->
  codeAny (AN P w) A (.call (.ref f) args) (CR CX outer P w H s Q E) s
def Env0.make{outer:List Env}(e:Env0 P w K mg base A outer s H)(C:Addr)(us:vO)(kw:List (Str×Au)) :
  Env0 P w K mg base (A.under (.builtin "type.__call__" ⟨.ref C::us,kw⟩)) outer s H:=⟨by first| exact e.frames| (simpa [OZ,Code.envs,SY,pushEnvs] using e.frames),e.mod,e.bs,e.bsz,e.funs,e.frf,e.hok,e.bare⟩
def Inv.env0(I:Inv X aI σ H s):Env0 X.prog X.w X.K X.mg X.base X.A X.stack s H :=
 ⟨I.ok.frames,I.ok.mod,I.bs,BQ I.ok.bsz I.sz,I.stack,I.stkFree,I.hok,I.bare⟩
def Inv.after{Q:VK}(I:Inv X aI σ H s)(h:CE X.stack X.prog X.w H s Q u s'):EP X aI σ Q u s':=by
 obtain⟨v,H',os,bare,un,hok,r,q⟩:=h;obtain⟨hh,g,d,t,os'⟩:=s';obtain rfl:os'=s.os:=os;exact⟨v,H',I.call (h':=hh) (g':=g) (d':=d) (t':=t) (ch:=[]) un hok bare (λb z=>vF z θ),r,q⟩
def AGU(sp:Sp)(eQ:List V)(E:XK)(t:TA):TE:=λσ H Q=>t σ H λvs H1=>sp (vs++eQ) H1 Q E
def AGZ(C:Addr)(m:Str)(sp:Sp)(eQ:List V)(E:XK)(ta:TE)(t:TA):TE:=λσ H Q=>ta σ H λx H1=>∃a dx fs,x=.ref a/\H1 a=u8 (.ins C dx fs)/\fs.lookup m=u9 /\
 t σ H1 λvs H2=>sp (x::(vs++eQ)) H2 Q E
def AIb(C:Addr)(sp:Sp)(eQ:List V)(E:XK)(t:TA):TE:=λσ H Q=>t σ H λvs H1=>∀x dx,H1 x=none->H1 dx=none->dx≠x ->
 sp (.ref x::(vs++eQ)) (upd (upd H1 dx (.own x)) x (.ins C dx [])) (λv H2=>v=.non/\Q (.ref x) H2) E
def Binds(K:As)(fd:BA)(ps:vQ)(ds:vO):Prop :=
 ∀(s:AA) (us:vO),K.In s.heap->(us++ds).length=ps.length->QY s fd ⟨us,[]⟩ (ps.zip (us++ds))
def Binds.all(h:∀us:vO,us.length=ps.length->UV fd ⟨us,[]⟩=pure (ps.zip us)):Binds K fd ps []:=λs us _ hl=>by
 rw[B5] at hl ⊢;exact .of_eq (h us hl)
def Passes(CX:CXT)(X:Cx)(E:XK):Prop:=∀(aI:vN) (σ:St) (H:Hp) (s:AA) (e:Au) (s':AA),Inv X aI σ H s->CX X.stack H s E e s'->X.xe e s'
section
variable{k:Nat}{eQ:List V}{ds:vO}{E:XK}{m:Str}{p:Pos}{o:Expr}{ta:TE}{t:TA}
def Wk{Q:VK}{vs:List V}(F:FnOk X.prog X.w X.K X.mg X.base CX k f fd ps sp)(hr:Room k X.A)(hb:Binds X.K fd ps ds)(hd:Vals eQ ds)(hx:Passes CX X E)
  (I:Inv X aI σ H s) (r:Vals vs us) (h:sp (vs++eQ) H Q E):wpAny (AN X.prog X.w) X.A (call (.ref f) us) (EP X aI σ Q) X.xe s:=by
 have r2:=r.append hd;have hl:(us++ds).length=ps.length:=by rw[<- r2.length];exact F.len _ _ _ _ h
 refine OH (EU (F.run X.A X.stack s H ⟨us,[]⟩ (us++ds) (vs++eQ) Q E hr I.env0 (hb s us I.kIn hl) r2 h) λr s' hq=>?_);cases r with
 | error e=>exact hx aI σ H s e s' I hq
 | ok fl =>
  cases fl with
  | ret u=>exact I.after hq
  | next=>exact EH hq
  | brk=>exact EH hq
  | cont=>exact EH hq
def HY(F:FnOk X.prog X.w X.K X.mg X.base CX k f fd ps sp)(hr:Room k X.A)(hg:Gl X x)(hm:X.mg x=u8 (.ref f))(hk:C8 X.K (.ref f)=true)(hb:Binds X.K fd ps ds)(hd:Vals eQ ds)(hx:Passes CX X E)
  (ha:PA X (e::es) t) (j3:autoParam ((x==("__debug__" : Str))=false) zA1._auto_1) (he:autoParam (B3 (e::es) X.env=(false,eval e X.env)::B3 es X.env) zA0._auto_1) (ic:autoParam ((FB pos (B3 es X.env)).any (·.1)=false) zA0._auto_1) :
  PE X (.Call (.Name x p) (e::es) [] pos) (AGU sp eQ E t):=by
 intro aI s σ H Q I h;refine EB (La I hg hm ?_ j3);refine NO (h₀:=X.base) I.ok.mod.kin hk (thn (ha pos aI s σ H _ I h) λus s1 ⟨vs,H1,I1,r,q⟩=>⟨I1.kIn,?_⟩) he ic;exact Wk F hr hb hd hx I1 r q
def Ci{pl:Sem Bool}(he:PE X o ta)(c:Cls X.K C)(hm:Meth X.K C m f)(F:FnOk X.prog X.w X.K X.mg X.base CX k f fd ps sp)(hr:Room k X.A)(hb:Binds X.K fd ps ds)(hd:Vals eQ ds)(hx:Passes CX X E)(ha:PA X (e::es) t)
  (dS:autoParam (B3 (e::es) X.env=(false,eval e X.env)::B3 es X.env) zA0._auto_1) (ic:autoParam ((FB pos (B3 es X.env)).any (·.1)=false) zA0._auto_1)
  (ht:autoParam (eval (.Call (.Attribute o m cf) (e::es) [] pos) X.env=(do
   let ov <- eval o X.env
   TD cf.atName
   let (f,first) <- Nl [ov] (SW ov m pl)
   callWith pos f first (FB pos (B3 (e::es) X.env)) (Ic pos (Fn [] X.env)))) zA0._auto_1) :
  PE X (.Call (.Attribute o m cf) (e::es) [] pos) (AGZ C m sp eQ E ta t):=by
 intro aI s σ H Q I h;refine Q0 (pl:=pl) (thn (he aI s σ H _ I h) λu s1 hq=>?_) ht;obtain⟨x,H1,I1,rx,a,dx,fs,ex,ea,l,q⟩:=hq;subst ex;obtain rfl:u=A7 a:=rx;refine Mp I1 ea c hm l ?_;refine NO (first:=[.ref a]) (h₀:=X.base) I.ok.mod.kin hm.kp (thn (ha pos aI s1 σ H1 _ I1 q) λus s2 ⟨vs,H2,I2,r,q2⟩=>⟨I2.kIn,?_⟩) dS ic;exact Wk (us:=.ref a::us) (vs:=.ref a::vs) F hr hb hd hx I2 (.cons rfl r) q2
def BZ{pl:Sem Bool}(he:PE X o ta)(c:Cls X.K C)(hm:Meth X.K C m f)(F:FnOk X.prog X.w X.K X.mg X.base CX k f fd ps sp)(hr:Room k X.A)(hb:Binds X.K fd ps ds)(hd:Vals eQ ds)(hx:Passes CX X E)
  (ht:autoParam (eval (.Call (.Attribute o m cf) [] [] pos) X.env=(do
   let ov <- eval o X.env
   TD cf.atName
   let (f,first) <- Nl [ov] (SW ov m pl)
   callWith pos f first (FB pos (B3 [] X.env)) (Ic pos (Fn [] X.env)))) zA0._auto_1) :
  PE X (.Call (.Attribute o m cf) [] [] pos) (AGZ C m sp eQ E ta AFP):=by
 intro aI s σ H Q I h;refine Q0 (pl:=pl) (thn (he aI s σ H _ I h) λu s1 hq=>?_) ht;obtain⟨x,H1,I1,rx,a,dx,fs,ex,ea,l,q⟩:=hq;subst ex;obtain rfl:u=A7 a:=rx;refine Mp I1 ea c hm l ?_;exact Sz (first:=[.ref a]) I1.kIn hm.kp (Wk (us:=[.ref a]) (vs:=[.ref a]) F hr hb hd hx I1 (.cons rfl .nil) q)
structure Mk(K:As)(C f:Addr):Prop where
 makes:HR K C=true
 init:C2 K (.ref C) "__init__" = u8 (u8 (.ref f))
 fn:MQ K (.ref f)=true
 kp:C8 K (.ref C)=true
def ACs{Q:VK}{vs:List V}(M:Mk X.K C f)(F:FnOk X.prog X.w X.K X.mg X.base CX k f fd ps sp)(hr:Room (k+1) X.A)(hb:Binds X.K fd ps ds)(hd:Vals eQ ds)
  (hx:Passes CX X E) (I:Inv X aI σ H s) (r:Vals vs us)
  (h:∀x dx,H x=none->H dx=none->dx≠x->sp (.ref x::(vs++eQ)) (upd (upd H dx (.own x)) x (.ins C dx [])) (λv H2=>v=.non/\Q (.ref x) H2) E) :
  wpAny (AN X.prog X.w) X.A (call (.ref C) us) (EP X aI σ Q) X.xe s:=by
 have hq:=h (s.heap.objs.size+1) s.heap.objs.size (I.hok.fresh (Ki _)) (I.hok.fresh (AI _)) (BF (ER _));have I2:=Inv.made (C:=C) I;have r2:Vals (V.ref (s.heap.objs.size+1)::(vs++eQ)) (A7 (s.heap.objs.size+1)::(us++ds)):=.cons rfl (r.append hd);have hl:(A7 (s.heap.objs.size+1)::us++ds).length=ps.length:=by
  have e:=r2.length;rw[F.len _ _ _ _ hq] at e;exact e.symm
 refine OH (ACr (f:=f) I.kIn M.makes M.init (beq_iff_eq.mp M.fn) (EU (F.run _ X.stack _ _ ⟨A7 (s.heap.objs.size+1)::us,[]⟩ (A7 (s.heap.objs.size+1)::(us++ds)) _ _ E (hr.make C us [])
  (I2.env0.make C us []) (hb _ (A7 (s.heap.objs.size+1)::us) I2.kIn hl) r2 hq) λr s' i6=>?_))
 cases r with
 | error e=>exact hx aI σ _ _ e s' I2 i6
 | ok fl =>
  cases fl with
  | ret u =>
   obtain⟨v,H',I3,rv,ev,q3⟩:=I2.after i6;subst ev;exact⟨rv,⟨V.ref (s.heap.objs.size+1),H',I3,ξ,q3⟩⟩
  | next=>exact EH i6
  | brk=>exact EH i6
  | cont=>exact EH i6
def Et(M:Mk X.K C f)(F:FnOk X.prog X.w X.K X.mg X.base CX k f fd ps sp)(hr:Room (k+1) X.A)(hg:Gl X x)(hm:X.mg x=u8 (.ref C))(hb:Binds X.K fd ps ds)(hd:Vals eQ ds)(hx:Passes CX X E)
  (ha:PA X (e::es) t) (j3:autoParam ((x==("__debug__" : Str))=false) zA1._auto_1) (he:autoParam (B3 (e::es) X.env=(false,eval e X.env)::B3 es X.env) zA0._auto_1) (ic:autoParam ((FB pos (B3 es X.env)).any (·.1)=false) zA0._auto_1) :
  PE X (.Call (.Name x p) (e::es) [] pos) (AIb C sp eQ E t):=by
 intro aI s σ H Q I h;refine EB (La I hg hm ?_ j3);refine NO (h₀:=X.base) I.ok.mod.kin M.kp (thn (ha pos aI s σ H _ I h) λus s1 ⟨vs,H1,I1,r,q⟩=>⟨I1.kIn,?_⟩) he ic;exact ACs M F hr hb hd hx I1 r q
end
def PK(X:Cx)(kM:List K9)(t:TA):Prop :=
 ∀(pos:Pos) (aI:vN) (s:AA) (σ:St) (H:Hp) (Q:List V->Hp->Prop),Inv X aI σ H s->t σ H Q->wpAny (AN X.prog X.w) X.A (evalAll ((Ic pos (Fn kM X.env)).map (·.2))) (AP X aI σ Q) X.xe s
section
variable{k:Nat}{ks:vQ}{E:XK}{m:Str}{p kpos:Pos}{o:Expr}{ta:TE}{t tk:TA}{nm:Option Str}
def AGk:PK X [] AFP:=λ_ _ _ _ H Q I h=>wpAny_evalAll_nil ⟨[],H,I,.nil,h⟩
def AFM(ha:PE X e te)(hr:PK X kM t):PK X (⟨nm,e,kpos⟩::kM) (AGX te t):=by
 intro pos aI s σ H Q I h;show wpAny _ _ (evalAll ((do let v <- eval e X.env;TD pos;pure v)::(Ic pos (Fn kM X.env)).map (·.2))) _ _ s;refine wpAny_evalAll_cons (Ap (thn (ha aI s σ H _ I h) λu s1 ⟨x,H1,I1,r1,q1⟩=>Ap (Mm (AC ?_))));exact thn (hr pos aI s1 σ H1 _ I1 q1) λus s2 ⟨xs,H2,I2,r2,q2⟩=>⟨x::xs,H2,I2,.cons r1 r2,q2⟩
variable{g:vO->vO->vO}{gV:List V->List V->List V}
end
structure FnScope(N P:vQ)(sc:F7):Prop where
 kind:sc.kind=.function
 co:sc.isCoroutine=false
 gen:sc.isGenerator=false
 nd:N.Nodup
 pre:N.take P.length=P
 par:∀x∈P,sc.names.lookup x=u8 .local\/sc.names.lookup x=u8 .cell
 nofree:∀y∈sc.names,y.2≠.free
abbrev zl0:vQ:=["self"]
noncomputable abbrev zl1:vQ:=["self","n","rows","head"]
noncomputable abbrev zl2:vQ:=["places","row"]
noncomputable abbrev zl3:vQ:=["n","some"]
noncomputable abbrev zl4:vQ:=["rows","number","lower"]
noncomputable abbrev zl5:vQ:=["points","ties"]
noncomputable abbrev zl6:vQ:=["many","tie"]
noncomputable abbrev zl7:vQ:=["self","many","ties"]
noncomputable abbrev zl8:vQ:=["self","point"]
noncomputable abbrev zl9:vQ:=["web","number"]
noncomputable abbrev zl10:vQ:=["self","web","rule"]
noncomputable abbrev zl11:vQ:=["self","state","point"]
noncomputable abbrev zl12:vQ:=["self","web","state"]
noncomputable abbrev zl13:vQ:=["self","web","state","number"]
noncomputable abbrev zl14:vQ:=["self","web","state","point"]
noncomputable abbrev zl15:vQ:=["self","a","b"]
noncomputable abbrev zl16:vQ:=["self","web"]
noncomputable abbrev zl17:vQ:=["_law_script","_law_k"]
noncomputable abbrev zl18:vQ:=["_law_one","_law_other"]
noncomputable abbrev zl19:vQ:=["_law_some","_law_order"]
noncomputable abbrev zl20:vQ:=["rows","top"]
noncomputable abbrev zl21:vQ:=["n","rows","top"]
noncomputable abbrev zl22:vQ:=["rows","sets"]
noncomputable abbrev zl23:vQ:=["many","ties"]
noncomputable abbrev zl24:vQ:=["self","number","reached"]
noncomputable abbrev zl25:vQ:=["state","tie"]
noncomputable abbrev zl26:vQ:=["self","state","tie"]
noncomputable abbrev zl27:vQ:=["web","rule"]
abbrev zl28:vQ:=["_law_cell"]
noncomputable abbrev zl29:vQ:=["_law_many","_law_number"]
noncomputable abbrev zl30:vQ:=["_law_sieve","_law_many"]
noncomputable abbrev zl31:vQ:=["sieve","some"]
noncomputable abbrev zl32:vQ:=["web","order"]
noncomputable abbrev zl33:vQ:=["_law_web_here","_law_other","_law_rules","_law_order","_law_script"]
def fscp{N P:vQ}(h:(sc.kind=.function/\sc.isCoroutine=false)/\sc.isGenerator=false/\N.Nodup/\N.take P.length=P/\(∀x∈P,sc.names.lookup x=u8 .local\/sc.names.lookup x=u8 .cell)/\∀y∈sc.names,y.2≠.free):FnScope N P sc :=
 ⟨h.1.1,h.1.2,h.2.1,h.2.2.1,h.2.2.2.1,h.2.2.2.2.1,h.2.2.2.2.2⟩
theorem Om{kindOf:Str->Option IT}{x:Str}:∀{binds:List (Str×Au)}{m:vM},(∀v,(x,v)∉binds)->RI kindOf binds m x=m x
 | [],_,_=>rfl
 | (n,v)::r,m,h=>by
  unfold RI;rw[Om λw hw=>h w (AJ _ hw)];split
  .have:x≠n:=by rintro rfl;exact h v AF
   simp[this]
  .rfl
theorem QT{kindOf:Str->Option IT}{x:Str}:∀{binds:List (Str×Au)}{m:vM},(∀v,(x,v)∉binds)->RO kindOf binds m x=m x
 | [],_,_=>rfl
 | (n,v)::r,m,h=>by
  unfold RO;rw[QT λw hw=>h w (AJ _ hw)];split
  .rfl
  .have:x≠n:=by rintro rfl;exact h v AF
   simp[this]
theorem Qc{kindOf:Str->Option IT}{x:Str}{v:Au}:∀{P:vQ}{vs:vO}{i:Nat}{m:vM},P.Nodup->P[i]?=u8 x->vs[i]?=u8 v->kindOf x=u8 .local ->
  RI kindOf (P.zip vs) m x=u8 v
 | [],_,_,_,_,h,_,_=>by simp at h
 | _::_,[],_,_,_,_,h,_=>by simp at h
 | p::P,w::vs,0,m,nd,h1,h2,hk=>by
  simp at h1 h2;subst h1;subst h2;show RI kindOf ((p,w)::P.zip vs) m p=_;unfold RI;rw[Om λv hv=>(DV.mp nd).1 (PH hv).1,vB hk];simp
 | p::P,w::vs,i+1,m,nd,h1,h2,hk=>by
  show RI kindOf ((p,w)::P.zip vs) m x=_;unfold RI;exact Qc (i:=i) (DV.mp nd).2 (by simpa using h1) (by simpa using h2) hk
theorem QL{kindOf:Str->Option IT}{x:Str}{v:Au}:∀{P:vQ}{vs:vO}{i:Nat}{m:vM},P.Nodup->P[i]?=u8 x->vs[i]?=u8 v->kindOf x≠u8 .local ->
  RO kindOf (P.zip vs) m x=u8 v
 | [],_,_,_,_,h,_,_=>by simp at h
 | _::_,[],_,_,_,_,h,_=>by simp at h
 | p::P,w::vs,0,m,nd,h1,h2,hk=>by
  simp at h1 h2;subst h1;subst h2;show RO kindOf ((p,w)::P.zip vs) m p=_;unfold RO;rw[QT λv hv=>(DV.mp nd).1 (PH hv).1,vA hk];simp
 | p::P,w::vs,i+1,m,nd,h1,h2,hk=>by
  show RO kindOf ((p,w)::P.zip vs) m x=_;unfold RO;exact QL (i:=i) (DV.mp nd).2 (by simpa using h1) (by simpa using h2) hk
noncomputable def start(N:vQ)(vs:List V):St:=vs.map u8++Wl (N.length-vs.length) u9
noncomputable def cxOf(CX:CXT)(P:AL)(w:AR)(K:As)(mg:vM)(base:Heap)(N:vQ)(qual:Str)(scope:F7)(f:Addr)(cd:Au)(A:BM)(outer:List Env)(s:AA)(H:Hp)(E:XK):Cx where
 prog:=P
 w:=w
 K:=K
 mg:=mg
 base:=base
 A:=A.deeper (NR qual scope s.heap.objs.size f cd)
 N:=N
 s₀:=s
 H₀:=H
 env:=NR qual scope s.heap.objs.size f cd
 outer:=outer
 stack:=NR qual scope s.heap.objs.size f cd::outer
 ex:=[]
 calm:=true
 fn:=λ_=>true
 pn:=[]
 xe:=λe s'=>wpAny (AN P w) (A.deeper (NR qual scope s.heap.objs.size f cd)) (leaving (NR qual scope s.heap.objs.size f cd) e) (λ_ uI=>CX outer H s E e uI) (λe' uI=>CX outer H s E e' uI) s'
def Vq(h:sc.names.lookup x=u8 .cell):∃c,(WO n sc.names []).lookup x=u8 c:=by
 have q:=Qb sc.names n [] (.inl h);exact G0.mp q
def Zx{N:vQ}{outer:List Env}{s1:AA}{E:XK}{vs:List V}
  (S:FnScope N ps scope) (hd:A.handled=u9) (e0:Env0 P w K mg base A outer s H) (hl:vs.length=ps.length) (r:Vals vs us)
  (x:InCallC s s.heap.objs.size (RI (NR qual scope s.heap.objs.size f cd).kindOf (ps.zip us) λ_=>u9) (WO (s.heap.objs.size+1) scope.names []) (RO (NR qual scope s.heap.objs.size f cd).kindOf (ps.zip us) λ_=>u9) s1) :
  Inv (cxOf CX P w K mg base N qual scope f cd A outer s H E) [] (start N vs) H s1:=by
 have ic:ps.length<=N.length:=by have:=congrArg Fu S.pre;rw[BV] at this;lia
 obtain⟨h1,tk,rfl,hk⟩:=x.done;have uT:∀b:Addr,b∉(cxOf CX P w K mg base N qual scope f cd A outer s H E).ex:=λb z=>vF (show b∈([]:vU) from z) θ;refine⟨⟨e0.mod,S.kind,ξ,ξ,AI _,λy z c h1 h2=>?_,λy hy=>?_,λy c _ h=>?_,λ_=>hd,Around.frames_deeper e0.frames,.inr ⟨ξ,ξ⟩,λb z=>vF z (uT b),e0.bs,e0.bsz,λb _ _=>uT b,λb z=>vF z (uT b),e0.funs,e0.frf⟩,
  rfl,e0.bare,Un.kept hk,⟨_,x.toInCall.ns,λi y v h1 h2 h3=>?_⟩,λy c h=>⟨_,x.cell y c h⟩,e0.hok.fresh (AI _),λy c h=>?_,λp hp=>vF (show p∈([]:vN) from hp) θ,e0.hok.kept hk,?_⟩
 .exact name_of_addr x.apart (Hc h1) (Hc h2)
 .have hy:=hy
  rcases hy with hy| hy
  .exact Vq hy
  .exact vF rfl (S.nofree _ (Hc hy))
 .exact D7 (x.above y c (Hc h))
 .have hi:i<vs.length:=by
   unfold start at h2;by_cases hi:i<vs.length
   .exact hi
   .rw[Cc (by simpa using hi)] at h2
    rw[Pm] at h2;split at h2<;>cases h2
  have ha:vs[i]?=u8 v:=by
   unfold start at h2;rw[BB (by simpa using hi),AV] at h2;cases e:vs[i]? with
   | none=>rw[e] at h2;cases h2
   | some a=>rw[e] at h2;cases h2;rfl
  obtain⟨u,hu,rv⟩:=r.get ha;have hp:ps[i]?=u8 y:=by
   rw[<- S.pre,G1 (wP hi hl)];exact h1
  have ndP:ps.Nodup:=by rw[<- S.pre];exact S.nd.sublist (Kk _ _)
  refine⟨u,rv,?_⟩;rcases S.par y (By hp) with k| k
  .exact .inl ⟨k,Qc ndP hp hu k⟩
  .obtain⟨c,e⟩:=Vq (n:=s.heap.objs.size+1) k
   refine .inr ⟨.inl k,c,e,?_⟩;have q:=x.cell y c e;rw[QL ndP hp hu (by show scope.names.lookup y≠_;rw[k];decide)] at q;exact q
 .exact e0.hok.fresh (D7 (x.above y c (Hc h)))
 .unfold start
  show _=N.length;rw[A2,AB,List.length_replicate];lia
def AIL{k:Nat}{params:Arguments}{dV kV:Au}{N:vQ} (lk:K.lookup f=u8 ⟨oc,od,.func (E6 name qual params body scope dV kV b9 pm an bt ct),qk⟩) (kc:IP K bt qual=true) (S:FnScope N ps scope)
  (len:∀vs H Q E,sp vs H Q E->vs.length=ps.length)
  (kq:∀(A:BM) (outer:List Env) (s:AA) (H:Hp) (vs:List V) (Q:VK) (E:XK),Room k (A.deeper (NR qual scope s.heap.objs.size f bt))->sp vs H Q E ->
   ∃t,PSs (cxOf CX P w K mg base N qual scope f bt A outer s H E) body t/\t {nx:=λ_ H'=>Q .non H',rt:=Q} (start N vs) H) :
  FnOk P w K mg base CX (k+1) f (E6 name qual params body scope dV kV b9 pm an bt ct) ps sp:=by
 refine⟨len,λA outer s H args us vs Q E hr e0 hb r kT=>?_⟩;have hl:=len _ _ _ _ kT;have KX:=e0.mod.kin.keeps λb o e=>(e0.bs b o e).1;have lim:=e0.mod.nolimit.keeps λb o e=>(e0.bs b o e).1;have uJ:∀y∈ps.zip us,scope.names.lookup y.1=u8 .local\/(scope.names.lookup y.1=u8 .cell/\((WO (s.heap.objs.size+1) scope.names []).lookup y.1).isSome=true):=by
  rintro⟨n,v⟩ hy;rcases S.par n (PH hy).1 with q| q
  .exact .inl q
  .exact .inr ⟨q,Qb _ _ _ (.inl q)⟩
 refine codeAny_call_function hr.depth (KX _ _ lk) rfl S.co S.gen rfl (PySem.W.codeRec_of KX kc) (hb _ _ _ _ ?_);refine wpAny_newFunctionEnv_cells S.kind uJ λenv he s1 x=>?_;subst he;refine⟨lim.keeps x.toInCall.keep,codeAny_func ?_⟩;obtain⟨t,ht,hq⟩:=kq A outer s H vs Q E (hr.deeper _) kT;have I:Inv (cxOf CX P w K mg base N qual scope f bt A outer s H E) [] (start N vs) H s1:=Zx S hr.hd e0 hl r x;refine D9 (ht [] s1 (start N vs) H _ I hq) (λfl s' hs=>?_) λe s' hs=>hs;have fin:∀{σ':St}{H':Hp}{v:V}{u:Au},Inv (cxOf CX P w K mg base N qual scope f bt A outer s H E) [] σ' H' s'->RelV v u->Q v H'->CE outer P w H s Q u s' :=
  λ{σ' H' v u} J rv q=>⟨v,H',J.os,J.bare,J.base,J.hok,rv,q⟩
 cases fl with
 | ret u =>
  obtain⟨v,σ',H',J,rv,q⟩:=hs;exact fin J rv q
 | next =>
  obtain⟨σ',H',J,q⟩:=hs;exact fin (v:=V.non) (u:=Db) J rfl q
 | brk =>
  obtain⟨_,_,_,q⟩:=hs;exact EH q
 | cont =>
  obtain⟨_,_,_,q⟩:=hs;exact EH q
section
variable{p:Pos}{t:TA}{id:String}{r:List V->Hp->VK->Prop}
def tCB(r:List V->Hp->VK->Prop)(t:TA):TE:=λσ H Q=>t σ H λvs H1=>r vs H1 Q
def Az(hc:CallR X (.builtin id) r)(hg:Gl X x)(hm:X.mg x=u9)(hv:HI x=u8 (.builtin id))(ha:PA X (e::es) t)(hn:autoParam (x≠"__name__") zA1._auto_1)(j3:autoParam ((x==("__debug__" : Str))=false) zA1._auto_1)
  (he:autoParam (B3 (e::es) X.env=(false,eval e X.env)::B3 es X.env) zA0._auto_1) (ic:autoParam ((FB pos (B3 es X.env)).any (·.1)=false) zA0._auto_1):PE X (.Call (.Name x p) (e::es) [] pos) (tCB r t):=by
 intro aI s σ H Q I h;refine EB (El I hg hm hv ?_ hn j3);exact MR (thn (ha pos aI s σ H _ I h) λus s1 ⟨vs,H1,I1,r1,q1⟩=>hc aI s1 σ H1 vs us Q I1 r1 q1) he ic
def BP(hc:CallR X (.type T) r)(hg:Gl X x)(hm:X.mg x=u9)(hv:HI x=u8 (.type T))(ha:PA X (e::es) t)(hn:autoParam (x≠"__name__") zA1._auto_1)(j3:autoParam ((x==("__debug__" : Str))=false) zA1._auto_1)
  (he:autoParam (B3 (e::es) X.env=(false,eval e X.env)::B3 es X.env) zA0._auto_1) (ic:autoParam ((FB pos (B3 es X.env)).any (·.1)=false) zA0._auto_1):PE X (.Call (.Name x p) (e::es) [] pos) (tCB r t):=by
 intro aI s σ H Q I h;refine EB (El I hg hm hv ?_ hn j3);exact DT (thn (ha pos aI s σ H _ I h) λus s1 ⟨vs,H1,I1,r1,q1⟩=>hc aI s1 σ H1 vs us Q I1 r1 q1) he ic
end
end L2
variable{xs ys:List L2.V}{H H' H1 H2 H0:L2.Hp}{X:L2.Cx}{σ τ:L2.St}{v y:L2.V}{tb:L2.TS}{te to tl tv td:L2.TE}{tc:L2.TT}{r:L2.V->List L2.V->L2.Hp->L2.VK->Prop}{CX:L2.CXT}{sp:L2.Sp}{J:L2.It}{aT:List (List L2.Key×L2.V)}{mr:List (L2.TE×L2.TE)}{fl:List (PySem.Str×L2.V)}
namespace HT
open PySem PyProof.Rows
noncomputable def lexLt:vG->vG->Bool
 | [],[]=>false
 | [],_::_=>true
 | _::_,[]=>false
 | x::xs,y::ys=>if x=y then lexLt xs ys else decide (x<y)
def CP(x y:Int)(xs ys:vG):lexLt (x::xs) (y::ys)=if x=y then lexLt xs ys else decide (x<y):=rfl
def OJ:lexLt [] []=false:=rfl
def Le(y:Int)(ys:vG):lexLt [] (y::ys)=true:=rfl
def NP(x:Int)(xs:vG):lexLt (x::xs) []=false:=rfl
def ACO(A:BM)(s:AA)(a:Int)(t:Tok)(c:Int)(u:Tok):∃e,LP A s (.int a t) (.int c u) e/\(e=true↔a=c) :=
 ⟨(a==c),LH a t c u,θ⟩
def ACX(A:BM)(s:AA)(a:Int)(t:Tok)(c:Int)(u:Tok)(prog:AL)(w:AR)(E:vJ)(Q:vJ)(h:Q (.bool (decide (a<c))) s) :
  wpAny (AN prog w) A (richCompare .Lt (.int a t) (.int c u)) Q E s :=
 (Z8 h:wpAny (AN prog w) A (DS .Lt (.int a t) (.int c u)) Q E s)
section
open PySem.SeqAt
open PySem.AutoSeq1 (wpAny_loadPart')
open PySem.MeetsSeq PySem.MeetsSeq2 PySem.MeetsSeq3
def Hr(l b:Addr)(items b5:vP)(n n2:Nat)(dd i7:Option Addr)(sl jI:Array vS)(ns ms:vG)(hi:F4 items.toList ns)(hj:F4 b5.toList ms) :
  Meets (Builtin.«tuple.__lt__» ⟨[.ref l,.ref b],[]⟩)
   (λ_ R s=>s.heap.get? l=u8 {cls:=.type "tuple",dict:=dd,data:=.seq items n,slots:=sl}/\s.heap.get? b=u8 {cls:=.type "tuple",dict:=i7,data:=.seq b5 n2,slots:=jI} /\
    R (.ok (.ret (.bool (lexLt ns ms)))) s) :=
 .of_wp λprog w A R s h=>by
  obtain⟨hp,g,d,tk,os⟩:=s;obtain⟨hl,hb,h⟩:=h;have f2:=AutoSeq1.sub_tuple_tuple;have z1:items.size=ns.length:=by rw[<- hi.length];simp
  have z2:b5.size=ms.length:=by rw[<- hj.length];simp
  wp_walk using wpAny_loadPart' hl,wpAny_loadPart' hb,FV _ (λbg b s'=>b.1=u9/\s'=⟨hp,g,d,tk,os⟩/\∃(vs ws:vO) (jb tJ:vG),bg=vs.zip ws /\
   F4 vs jb/\F4 ws tJ/\jb.length+b5.size=tJ.length+items.size/\R (.ok (.ret (.bool (lexLt jb tJ)))) ⟨hp,g,d,tk,os⟩) _
  case turn =>
   rintro⟨y,x⟩ bg b s' ⟨lv,rfl,vs,ws,jb,tJ,hz,ui,hwi,bh,hR⟩;cases ui with
   | nil=>rw[List.zip_nil_left] at hz;cases hz
   | cons a t hvi' =>
    cases hwi with
    | nil=>rw[List.zip_nil_right] at hz;cases hz
    | cons c u hwi' =>
     rw[SZ] at hz;injection hz with hyx hrest
     injection hyx with hy hx
     subst hy hx;rw[CP] at hR;simp only[C5] at bh;obtain⟨e,he,t9⟩:=ACO A.in1 ⟨hp,g,d,tk,os⟩ a t c u;refine Ap (he prog w _ _ ?_);cases e with
     | true =>
      rw[vB (t9.mp rfl)] at hR
      wp_walk
      exact⟨ξ,ξ,_,_,_,_,hrest,hvi',hwi',δ,hR⟩
     | false =>
      rw[vA (λq=>vF (t9.mpr q) BE)] at hR;have hri:=ACX A.in1 ⟨hp,g,d,tk,os⟩ a t c u prog w
      wp_walk using hri
      exact⟨_,ξ,by simpa using hR⟩
  case fin =>
   rintro⟨b1,b2⟩ s' ⟨lv,rfl,vs,ws,jb,tJ,hz,ui,hwi,bh,hR⟩;simp only at lv;subst lv;have hv:lexLt jb tJ=decide (items.size<b5.size):=by
    cases ui with
    | nil =>
     cases hwi with
     | nil =>
      rw[OJ];exact(vD δ).symm
     | cons c u hw =>
      simp only[HU,C5] at bh;rw[Le];exact(vC δ).symm
    | cons a t hv =>
     cases hwi with
     | nil =>
      simp only[HU,C5] at bh;rw[NP];exact(vD δ).symm
     | cons c u hw =>
      rw[SZ] at hz;cases hz
   rw[hv] at hR
   wp_walk
   exact⟨_,ξ,by simpa [U9] using hR⟩
  case h =>
   exact⟨ξ,ξ,items.toList,b5.toList,ns,ms,ξ,hi,hj,δ,h⟩
end
def YK{b5:vP}(hl:RE s.heap l items)(hb:RE s.heap b b5)(hi:F4 items.toList ns)(hj:F4 b5.toList ms)
  (hu:A.units<Cs) (h:Q (.bool (lexLt ns ms)) s):wpAny (AN prog w) A (DS .Lt (.ref l) (.ref b)) Q E s:=by
 obtain⟨⟨cls,dd,data,sl⟩,ho,hc,n,hd⟩:=id hl;obtain⟨⟨nc,i7,XW,jI⟩,gv,io,n2,dL⟩:=id hb;simp only at hc hd io dL;subst hc hd io dL;exact richCompare_meets_room (op:=.Lt) ⟨_,ho,ξ⟩ ⟨_,gv,ξ⟩ MB Qr (Po _ _) (Hr l b items b5 n n2 dd i7 sl jI ns ms hi hj)
  ⟨ho,gv,show KP (lexLt ns ms)≠Value.notImplemented/\Q (.bool (lexLt ns ms)) s from⟨(λx=>nomatch x),h⟩⟩ hu
def AFm{t:Addr}{ws:vO}(ht:RE s.heap t vs.toArray)(hb:RE s.heap b ws.toArray)(hv:vs≠[])
  (h1:ws=[]->Q (.ref t) s) (h2:ws≠[]->Q (.ref s.heap.objs.size) {s with heap:=s.heap.push {cls:=.type "tuple",data:=.seq (vs++ws).toArray}})
  (hsz:vs.length+ws.length<=sizeLine):wpAny (AN prog w) A (Hk .Add (.ref t) (.ref b)) Q E s:=by
 obtain⟨⟨cls,dd,data,sl⟩,ho,hc,n,hd⟩:=id ht;obtain⟨⟨nc,i7,XW,jI⟩,gv,io,n2,dL⟩:=id hb;simp only at hc hd io dL;subst hc hd io dL;have e:vs.toArray++ws.toArray=(vs++ws).toArray:=by simp
 by_cases hw:ws=[]
 .exact O0 ⟨_,ho,ξ⟩ ⟨_,gv,ξ⟩ O1 Sj Mb LU (LI _ _)
   (tuple_addW1 t b vs.toArray ws.toArray n n2 dd i7 sl jI (by simpa using hv) (by simp[hw])) ⟨ho,gv,h1 hw⟩
 .refine O0 ⟨_,ho,ξ⟩ ⟨_,gv,ξ⟩ O1 Sj Mb LU (LI _ _)
   (tuple_addW2 t b vs.toArray ws.toArray n n2 dd i7 sl jI (by simpa using hv) (by simpa using hw) (by rw[AO,AO];exact hsz)) ⟨ho,gv,?_⟩
  rw[e];exact h2 hw
noncomputable def sIx(n d:Nat):Option Int->Nat
 | none=>d
 | some v=>if v<0 then(v+(n:Int)).toNat else min v.toNat n
def AHa(n d:Nat)(hd:d<=n)(o:Option Int):sIx n d o<=n:=by
 cases o with
 | none=>exact hd
 | some v =>
  show(if v<0 then(v+(n:Int)).toNat else min v.toNat n)<=n;by_cases hv:v<0
  .rw[vB hv];lia
  .rw[vA hv];exact Nat.min_le_right _ _
def Yp(v:Int)(n d:Nat):(if v<0 then max (v+(n:Int)) 0 else min v (n:Int))=((sIx n d (u8 v):Nat):Int):=by
 show(if v<0 then max (v+(n:Int)) 0 else min v (n:Int))=(((if v<0 then(v+(n:Int)).toNat else min v.toNat n):Nat):Int);by_cases hv:v<0
 .simp only[vB hv];lia
 .simp only[vA hv];lia
def Xi(lo hi:Option Int)(n:Nat):Lv lo hi 1 (n:Int)=(((sIx n 0 lo:Nat):Int),((sIx n n hi:Nat):Int)):=by
 have h1:¬ ((1:Int)<0):=by lia
 unfold Lv;refine K0 ?_ ?_
 .cases lo with
  | none=>rfl
  | some v=>exact Yp v n 0
 .cases hi with
  | none=>rfl
  | some v=>exact Yp v n n
def WX(i j:Nat):IF (i:Int) (j:Int) 1=j-i:=by
 unfold IF;have h1:(1:Int)>0:=by lia
 split<;>lia
def Lq{v:Au}{o:Option Int}{Q:Option Int->AA->Prop}(p:O3 v o)(h:Q o s):wpAny (AN prog w) A (Wp v) Q E s:=by
 cases p with
 | none=>exact WA h
 | int i t=>exact slicePart_int h
def Jc{sl:Addr}{lo hi:Option Int}{Q:Int×Int×Nat->AA->Prop}(hs:s.heap.IsSliceOf sl vl vu .none)(pl:O3 vl lo)(pu:O3 vu hi)
  (h:Q (((sIx n 0 lo:Nat):Int),1,sIx n n hi-sIx n 0 lo) s):wpAny (AN prog w) A (N5 (.ref sl) (pure (n:Int))) Q E s:=by
 obtain⟨os,tW,hcs,hds⟩:=id hs;unfold N5 XX;refine Ap (Ap (Lc tW hds (x:=vl) rfl (Ap (Lc tW hds (x:=vu) rfl (Ap (Lc tW hds (x:=.none) rfl (AC ?_)))))));refine Ap (WA ?_);rw[vA ζ];refine Ap (Lq pl (Ap (Lq pu (Ap (AC ?_)))));show wpAny _ _ (match Lv lo hi 1 (n:Int) with| (lo,hi)=>pure (lo,(1:Int),IF lo hi 1)) _ _ s;rw[Xi lo hi n];show wpAny _ _ (pure (((sIx n 0 lo:Nat):Int),(1:Int),IF ((sIx n 0 lo:Nat):Int) ((sIx n n hi:Nat):Int) 1)) _ _ s;rw[WX];exact AC h
def ACo(xs:vP)(i k:Nat):((AX k).filterMap λ(m:Nat)=>xs[((i:Int)+(m:Int)*1).toNat]?).toArray=((xs.toList.drop i).take k).toArray:=by
 have e:(λ(m:Nat)=>xs[((i:Int)+(m:Int)*1).toNat]?)=λm=>xs[i+m]?:=by
  funext m
  have:((i:Int)+(m:Int)*1).toNat=i+m:=by lia
  rw[this]
 rw[e];have:=pick_run xs i k;rw[List.filterMap_map] at this;have e2:((λx=>xs[x]?) ∘ λx=>i+x)=λm=>xs[i+m]?:=rfl;rw[e2] at this;rw[this]
def JG{t sl:Addr}{lo hi:Option Int}(ht:RE s.heap t items)(hs:s.heap.IsSliceOf sl vl vu .none)(pl:O3 vl lo)(pu:O3 vu hi)
  (hw:¬ (sIx items.size 0 lo=0/\sIx items.size items.size hi=items.size))
  (h:Q (.ref s.heap.objs.size) {s with heap:=s.heap.push {cls:=.type "tuple",data:=.seq ((items.toList.drop (sIx items.size 0 lo)).take (sIx items.size items.size hi-sIx items.size 0 lo)).toArray}})
  (hsz:items.size<=sizeLine):wpAny (AN prog w) A (MC (.ref t) (.ref sl)) Q E s:=by
 have hG:sizeOk (.seq ((items.toList.drop (sIx items.size 0 lo)).take (sIx items.size items.size hi-sIx items.size 0 lo)).toArray):=by
  show((items.toList.drop (sIx items.size 0 lo)).take (sIx items.size items.size hi-sIx items.size 0 lo)).toArray.size<=sizeLine;rw[AO,BV,IU,AZ];lia
 have hj:sIx items.size items.size hi<=items.size:=AHa _ _ (AI _) hi;obtain⟨os,tW,hcs,hds⟩:=id hs;have hTs:s.TypeIs (.ref sl) "slice":=⟨os,tW,hcs⟩;unfold MC
 try with_reducible refine Dx ?_
 first| refine Ap (AC ?_)| skip
 refine Ap (wpAny_sequenceKey ht.typeIs ζ ?_);refine Ap (wpAny_callSpecial?_slot (name:=HK "__getitem__") ht.typeIs JP
  (DM JP ht.typeIs entry_tuple_getitem ?_ (args_tuple_getitem _ _)))
 show wpAny _ _ (N6 (.ref t) >>= _) _ _ s;refine Ap (tupleItemsOf_ ht ?_);refine Ap (KA hTs ?_);rw[vB ζ];refine Ap (Jc hs pl pu ?_);have f7:¬ ((((sIx items.size 0 lo:Nat):Int)==0&&(1:Int)==1&&(sIx items.size items.size hi-sIx items.size 0 lo)==items.size)=true):=by
  intro q;rw[ES,ES] at q;have q1:=eq_of_beq q.1.1;have q2:=eq_of_beq q.2;exact hw ⟨yT q1,δ⟩
 show wpAny _ _ (if(((sIx items.size 0 lo:Nat):Int)==0&&(1:Int)==1&&(sIx items.size items.size hi-sIx items.size 0 lo)==items.size)=true then _ else _) _ _ s;rw[vA f7,ACo]
 first
  | exact Ap (m:=E7 _) (C0 (AC ⟨_,ξ,AC h⟩) hG)
  | exact Ap (m:=E7 _) (C0 (Ap (AC (AC ⟨_,ξ,AC h⟩))) hG)
  | exact Ap (Ap (m:=E7 _) (C0 (AC (AC ⟨_,ξ,AC h⟩)) hG))
  | exact Ap (Ap (m:=E7 _) (C0 (AC ⟨_,ξ,AC h⟩) hG))
end HT
namespace L2
open PySem PySem.Spec PyProof.Rows
abbrev TO:=St->Hp->(Option Int->Hp->Prop)->Prop
def PO(X:Cx)(e:Option Expr)(t:TO):Prop :=
 ∀(aI:vN) (s:AA) (σ:St) (H:Hp) (Q:Option Int->Hp->Prop),Inv X aI σ H s->t σ H Q ->
  wpAny (AN X.prog X.w) X.A (evalPart e X.env) (λu s'=>∃o H',Inv X aI σ H' s'/\O3 u o/\Q o H') X.xe s
def AFz:TO:=λ_ H Q=>Q u9 H
def AHw(t:TE):TO:=λσ H Q=>t σ H λx H1=>∃i,x=.int i/\Q (u8 i) H1
def intsAre_of:∀{us:vO},Vals (ns.map V.int) us->F4 us ns:=by
 induction ns with
 | nil=>intro us r;rw[LJ] at r;cases r;exact .nil
 | cons n ns ih =>
  intro us r;rw[BO] at r;cases r with
  | cons r1 r2 =>
   obtain⟨t,e⟩:=r1;subst e;exact .cons n t (ih r2)
section
variable{lo hi:Option Expr}{tl th:TO}
def AFQ:PO X u9 AFz:=by
 intro aI s σ H Q I h;rw[evalPart_none];exact AC ⟨u9,H,I,.none,h⟩
def Qv(h:PE X e te):PO X (u8 e) (AHw te):=by
 intro aI s σ H Q I hw;rw[evalPart_some];refine thn (h aI s σ H _ I hw) λu s1 hq=>?_;obtain⟨x,H1,I1,r1,q1⟩:=hq;obtain⟨i,rfl,q⟩:=q1;obtain⟨t,rfl⟩:=r1;exact⟨u8 i,H1,I1,.int i t,q⟩
def SlR(X:Cx)(r:V->Option Int->Option Int->Hp->VK->Prop):Prop :=
 ∀(aI:vN) (s:AA) (σ:St) (H:Hp) (x:V) (v vl vu:Au) (lo hi:Option Int) (sl:Addr) (Q:VK),Inv X aI σ H s->RelV x v->s.heap.IsSliceOf sl vl vu .none->O3 vl lo->O3 vu hi->r x lo hi H Q ->
  ∃T id,OI (.type T) "__getitem__" = pure (u8 (.builtin id))/\s.TypeIs v T/\wpAny (AN X.prog X.w) X.A (MC v (.ref sl)) (EP X aI σ Q) X.xe s
def tSl(r:V->Option Int->Option Int->Hp->VK->Prop)(te:TE)(tl th:TO):TE:=λσ H Q=>te σ H λx H1=>tl σ H1 λl H2=>th σ H2 λu H3=>r x l u H3 Q
def Vc{r:V->Option Int->Option Int->Hp->VK->Prop}(hr:SlR X r)(he:PE X e te)(hl:PO X lo tl)(hu:PO X hi th):PE X (.Subscript e (.Slice lo hi u9 p2) pos) (tSl r te tl th):=by
 intro aI s σ H Q I h;refine VM (thn (he aI s σ H _ I h) λv s1 hq=>?_);obtain⟨x,H1,I1,r1,q1⟩:=hq;refine wpAny_Slice (thn (hl aI s1 σ H1 _ I1 q1) λvl s2 ⟨l,H2,I2,pl,q2⟩=>thn (hu aI s2 σ H2 _ I2 q2) λvu s3 hq=>?_);obtain⟨u,H3,I3,pu,q3⟩:=hq;rw[evalPart_none];refine AC ?_;have I4:Inv X aI σ H3 {s3 with heap:=s3.heap.push {cls:=.type "slice",data:=.fields #[vl,vu,.none]}}:=I3.kept (t':=s3.toks) λb ob q=>AE _ q;obtain⟨T,id,hT,ht,hg⟩:=hr aI {s3 with heap:=s3.heap.push {cls:=.type "slice",data:=.fields #[vl,vu,.none]}} σ H3 x v vl vu l u s3.heap.objs.size Q I4 r1 (ae ..) pl pu q3;exact tail_any (ops:=[.ref s3.heap.objs.size,v]) ht hT hg (by with_unfolding_all rfl)
noncomputable def cutV(xs:List V)(lo hi:Option Int):List V:=(xs.drop (HT.sIx xs.length 0 lo)).take (HT.sIx xs.length xs.length hi-HT.sIx xs.length 0 lo)
def KZ(xs:List V)(lo hi:Option Int):(cutV xs lo hi).length<=xs.length:=by
 unfold cutV;rw[BV,IU];lia
def rSlT(K:As):V->Option Int->Option Int->Hp->VK->Prop:=λx lo hi H Q=>∃a xs,x=.ref a/\SqT K H a xs /\
 ¬ (HT.sIx xs.length 0 lo=0/\HT.sIx xs.length xs.length hi=xs.length)/\∀p,H p=none->Q (.ref p) (upd H p (.tup (cutV xs lo hi)))
def AHQ:SlR X (rSlT X.K):=by
 intro aI s σ H x v vl vu lo hi sl Q I rx hs pl pu h;obtain⟨a,xs,rfl,hx,hw,q⟩:=h;cases rx;obtain⟨a5,r,ht,hz⟩:=I.tuple hx;have bh:a5.toArray.size=xs.length:=by rw[AO];exact r.length.symm
 refine⟨"tuple",_,JP.lookup,ht.typeIs,?_⟩;refine HT.JG ht hs pl pu (by rw[bh];exact hw) ?_ (by rw[bh];exact hz);rw[bh];refine⟨.ref s.heap.objs.size,_,I.laid (t':=s.toks) (o:=.tup (cutV xs lo hi)) (λb ob q=>AE _ q) (AI _) ?_,ξ,q _ (I.hok.fresh (AI _))⟩;exact⟨BQ (KZ xs lo hi) hz,_,(r.drop (HT.sIx xs.length 0 lo)).take (HT.sIx xs.length xs.length hi-HT.sIx xs.length 0 lo),WP _ _⟩
def rCatT(K:As):R2:=λx y H Q=>∃a b xs ys,x=.ref a/\y=.ref b/\SqT K H a xs/\SqT K H b ys/\xs≠[]/\xs.length+ys.length<=sizeLine /\
 (ys=[]->Q (.ref a) H)/\(ys≠[]->∀p,H p=none->Q (.ref p) (upd H p (.tup (xs++ys))))
def Vals.nil_iff(r:Vals xs us):us=[]↔xs=[]:=by
 cases r with
 | nil=>simp
 | cons _ _=>simp
def AEs:OpR X (Hk .Add) (rCatT X.K):=by
 intro aI s σ H x y v u Q I rx ry h;obtain⟨a,b,xs,ys,rfl,rfl,ha,hb,hx,hz,q1,q2⟩:=h;cases rx;cases ry;obtain⟨a5,r1,p1,_⟩:=I.tuple ha;obtain⟨gN,r2,p2,_⟩:=I.tuple hb;refine HT.AFm p1 p2 (λz=>hx (r1.nil_iff.mp z)) (λz=>⟨.ref a,H,I,ξ,q1 (r2.nil_iff.mp z)⟩) (λz=>?_) (by rw[<- r1.length,<- r2.length];exact hz);refine⟨.ref s.heap.objs.size,_,I.laid (t':=s.toks) (o:=.tup (xs++ys)) (λb ob q=>AE _ q) (AI _) ?_,ξ,q2 (λw=>z (r2.nil_iff.mpr w)) _ (I.hok.fresh (AI _))⟩;exact⟨by rw[A2];exact hz,_,r1.append r2,WP _ _⟩
end
noncomputable def ixN(n:Nat)(i:Int):vT:=if 0<=i then(if i<n then u8 i.toNat else u9) else if -(n:Int)<=i then u8 (i+n).toNat else u9
noncomputable def atI{α:Type}(xs:List α)(i:Int):Option α:=(ixN xs.length i).bind λj=>xs[j]?
def Rf{i:Int}(h:ixN n i=u8 j):WS i n=u8 j/\j<n/\-(n:Int)<=i/\i<n:=by
 unfold ixN at h;by_cases h0:0<=i
 .rw[vB h0] at h
  by_cases h1:i<n
  .rw[vB h1] at h
   have e:=AM h;exact⟨by rw[UC h0 h1,e],δ,δ,h1⟩
  .rw[vA h1] at h;cases h
 .rw[vA h0] at h
  by_cases h1:-(n:Int)<=i
  .rw[vB h1] at h
   have e:=AM h;exact⟨by rw[seqIndex_neg (wN h0) h1,e],δ,h1,δ⟩
  .rw[vA h1] at h;cases h
def atI_get{xs:List α}{i:Int}{v:α}(h:atI xs i=u8 v):∃j,WS i xs.length=u8 j/\xs[j]?=u8 v/\j<xs.length/\-(xs.length:Int)<=i/\i<xs.length:=by
 unfold atI at h;cases e:ixN xs.length i with
 | none=>rw[e] at h;cases h
 | some j =>
  rw[e] at h;obtain⟨h1,h2,h3,h4⟩:=Rf e;exact⟨j,h1,h,h2,h3,h4⟩
def Bv{xs:List α}{v:α}(h:xs[j]?=u8 v):atI xs (j:Int)=u8 v:=by
 have hj:=(AG.mp h).1;have e:ixN xs.length (j:Int)=u8 j:=by
  unfold ixN;rw[vB vt,vB (v7 hj)];simp
 unfold atI;rw[e];exact h
def AFK(b:Expr):Prop:=∀o i,QA b false o i=operate [o,i] (MC o i)
def IxR(X:Cx)(r:R2):Prop :=
 ∀(bn ci:Expr) (aI:vN) (s:AA) (σ:St) (H:Hp) (x y:V) (v u:Au) (Q:VK),Inv X aI σ H s->RelV x v->RelV y u->r x y H Q ->
  QA ci false v u=operate [v,u] (MC v u)->wpAny (AN X.prog X.w) X.A (subscriptTail bn ci v u) (EP X aI σ Q) X.xe s
def MtR(X:Cx)(id:String)(r:V->List V->Hp->VK->Prop):Prop :=
 ∀(aI:vN) (s:AA) (σ:St) (H:Hp) (x:V) (xs:List V) (v:Au) (us:vO) (Q:VK),Inv X aI σ H s->RelV x v->Vals xs us->r x xs H Q ->
  wpAny (AN X.prog X.w) X.A (call (.builtin id) (v::us)) (EP X aI σ Q) X.xe s
section
variable{a b:Expr}{ta tb:TE}
def Ax{r:R2}(hr:IxR X r)(ha:PE X a ta)(hb:PE X b tb)(hs:AFK b:=by exact λ_ _=>rfl):PE X (.Subscript a b pos) (tOp r ta tb):=by
 intro aI s σ H Q I h;exact VM (binT ha hb I h λv u s2 x y H2 I2 rx ry q=>hr a b aI s2 σ H2 x y v u Q I2 rx ry q (hs _ _))
def rIxL(K:As):R2:=λx y H Q=>E4 λp xs i v=>A5 (x=.ref p) (y=.int i) (SqL K H p xs) (atI xs i=u8 v) (Q v H)
def rIxT(K:As):R2:=λx y H Q=>E4 λp xs i v=>A5 (x=.ref p) (y=.int i) (SqT K H p xs) (atI xs i=u8 v) (Q v H)
def Cg:IxR X (rIxL X.K):=by
 intro bn ci aI s σ H x y v u Q I rx ry h hs;obtain⟨p,xs,i,z,rfl,rfl,hq,he,q⟩:=h;cases rx;obtain⟨t,rfl⟩:=ry;obtain⟨a5,r,pl,hz⟩:=I.list hq;obtain⟨j,h1,h2,h3,h4,h5⟩:=atI_get he;obtain⟨w,ew,eC⟩:=r.get h2;have hl:=r.length;have hn:=line63;have fin:EP X aI σ Q w s:=⟨z,H,I,eC,q⟩;by_cases h0:0<=i
 .have hj:i.toNat=j:=by
   rw[UC h0 h5] at h1;exact AM h1
  exact item_listR pl.isList h0 δ (by rw[hj];simpa using ew) fin hs
 .have hj:(i+(a5.toArray.size:Int)).toNat=j:=by
   rw[seqIndex_neg (wN h0) h4] at h1;rw[AO,<- hl];exact AM h1
  exact QE (x:=w) pl.isList.typeIs TR.lookup
   (wpAny_getItem_list_neg (Q:=λr s'=>r=w/\EP X aI σ Q r s') pl.isList (wN h0) (by rw[AO]<;>lia) δ (by rw[hj];simpa using ew) ⟨ξ,fin⟩) hs
def Bc:IxR X (rIxT X.K):=by
 intro bn ci aI s σ H x y v u Q I rx ry h hs;obtain⟨p,xs,i,z,rfl,rfl,hq,he,q⟩:=h;cases rx;obtain⟨t,rfl⟩:=ry;obtain⟨a5,r,pl,hz⟩:=I.tuple hq;obtain⟨j,h1,h2,h3,h4,h5⟩:=atI_get he;obtain⟨w,ew,eC⟩:=r.get h2;have hl:=r.length;have hn:=line63;have fin:EP X aI σ Q w s:=⟨z,H,I,eC,q⟩;exact QE (x:=w) pl.typeIs slot_tuple_getitem.lookup
  (getItem_tuple (j:=j) (Q:=λr s'=>r=w/\EP X aI σ Q r s') pl δ δ (by rw[AO,<- hl];exact h1) (by simpa using ew) ⟨ξ,fin⟩) hs
def XR(a5:vO)(n j:Nat)(u:Au):CO (·.setIfInBounds j u) {cls:=.type "list",data:=.seq a5.toArray n}={cls:=.type "list",data:=.seq (a5.set j u).toArray n}:=by
 simp[CO]
def Inv.lst(I:Inv X aI σ H s)(h:H p=u8 (.lst xs)) :
  ∃(a5:vO) (n:Nat),Vals xs a5/\s.heap.get? p=u8 {cls:=.type "list",data:=.seq a5.toArray n}/\xs.length<=sizeLine:=by
 obtain⟨z,a5,n,r,e⟩:=I.hok p _ h;exact⟨a5,n,r,e,z⟩
def Inv.lstUpd{n':Nat}{f:Obj->Obj}(I:Inv X aI σ H s)(h:H p=u8 (.lst xs))
  (ho:s.heap.get? p=u8 {cls:=.type "list",data:=.seq a5.toArray n}) (hf:f {cls:=.type "list",data:=.seq a5.toArray n}={cls:=.type "list",data:=.seq its'.toArray n'}) (r:Vals ys its') (hz:ys.length<=sizeLine) (t:Nat) :
  Inv X aI σ (upd H p (.lst ys)) {s with heap:=s.heap.update p f,toks:=t}:=by
 have e:(s.heap.update p f).get? p=u8 {cls:=.type "list",data:=.seq its'.toArray n'}:=by
  rw[Ev f ho (by rw[hf]<;>rfl),hf]
 refine I.write (x:=p) (e:=p) (by rw[h];trivial) (.inl rfl) (λb u hb q=>(D4 _ _ (BU hb)).trans q) ⟨_,e⟩ ?_;exact⟨hz,its',n',r,e⟩
def rSetL:V->V->V->Hp->(Hp->Prop)->Prop:=λo i v H Q=>E4 λp xs k j=>A5 (o=.ref p) (i=.int k) (H p=u8 (.lst xs)) (ixN xs.length k=u8 j) (Q (upd H p (.lst (xs.set j v))))
def set_list:PSet X rSetL:=by
 intro aI s σ H o i v ov iv u Q I ro ri rv h;obtain⟨p,xs,k,j,rfl,rfl,hp,hj,q⟩:=h;cases ro;obtain⟨t,rfl⟩:=ri;obtain⟨a5,n,r,ho,hz⟩:=I.lst hp;obtain⟨h1,h2,h3,h4⟩:=Rf hj;have hl:=r.length;have hn:=line63;have I':Inv X aI σ (upd H p (.lst (xs.set j v))) {s with heap:=s.heap.update p (CO (·.setIfInBounds j u))} :=
  I.lstUpd hp ho (XR a5 n j u) (r.set rv j) (by rw[EO];exact hz) s.toks
 by_cases h0:0<=k
 .have hk:k.toNat=j:=by
   rw[UC h0 h4] at h1;exact AM h1
  exact PySem.W.ki_setAt ho h0 δ (by rw[AO,<- hl];exact h4) (by rw[hk];exact⟨_,I',q⟩)
 .have hk:(k+(a5.toArray.size:Int)).toNat=j:=by
   rw[seqIndex_neg (wN h0) h3] at h1;rw[AO,<- hl];exact AM h1
  exact PySem.W.ki_setBack ho (wN h0) (by rw[AO,<- hl];exact h3) δ (by rw[hk];exact⟨_,I',q⟩)
def RJ(lo hi:Option Int)(n:Nat):(Ll lo hi u9 n).1=((HT.sIx n 0 lo:Nat):Int)/\(Ll lo hi u9 n).2.1=((HT.sIx n n hi:Nat):Int)/\(Ll lo hi u9 n).2.2=1:=by
 refine⟨?_,?_,ξ⟩
 .cases lo with
  | none=>simp[Ll,HT.sIx]
  | some i =>
   simp only[Ll,HT.sIx,UX,show(1:Int)>0 by decide,if_true];by_cases h:i<0
   .simp only[h,if_true]<;>exact zh h
   .simp only[h,if_false]<;>exact zi
 .cases hi with
  | none=>simp[Ll,HT.sIx]
  | some i =>
   simp only[Ll,HT.sIx,UX,show(1:Int)>0 by decide,if_true];by_cases h:i<0
   .simp only[h,if_true]<;>exact zh h
   .simp only[h,if_false]<;>exact zi
def Oa(a5:vO)(lo hi:Option Int):slicePick a5.toArray lo hi u9=((a5.drop (HT.sIx a5.length 0 lo)).take (HT.sIx a5.length a5.length hi-HT.sIx a5.length 0 lo)).toArray:=by
 obtain⟨h1,h2,h3⟩:=RJ lo hi a5.toArray.size;unfold slicePick;rw[h1,h2,h3];simp only[sliceRange_one,pick_run,AO]<;>rfl
def rSlL(K:As):V->Option Int->Option Int->Hp->VK->Prop:=λx lo hi H Q=>E2 λa xs=>A3 (x=.ref a) (SqL K H a xs) (∀p,H p=none->Q (.ref p) (upd H p (.lst (cutV xs lo hi))))
def AEr:SlR X (rSlL X.K):=by
 intro aI s σ H x v vl vu lo hi sl Q I rx hs pl pu h;obtain⟨a,xs,rfl,hx,q⟩:=h;cases rx;obtain⟨a5,r,ht,hz⟩:=I.list hx;have bh:=r.length;refine⟨"list",_,TR.lookup,ht.isList.typeIs,?_⟩;refine wpAny_getItem_list_slice ht.isList hs pl pu .none θ ?_ (by rw[AO]<;>exact v5 bh hz);rw[Oa,<- bh];refine⟨.ref s.heap.objs.size,_,I.laid (t':=s.toks) (o:=.lst (cutV xs lo hi)) (λb ob q=>AE _ q) (AI _) ?_,ξ,q _ (I.hok.fresh (AI _))⟩;exact⟨BQ (KZ xs lo hi) hz,_,0,(r.drop (HT.sIx xs.length 0 lo)).take (HT.sIx xs.length xs.length hi-HT.sIx xs.length 0 lo),AQ _ rfl⟩
noncomputable def flatV:V->Bool
 | .non=>true
 | .bl _=>true
 | .int _=>true
 | .str _=>true
 | _=>false
noncomputable def eqV:V->V->Bool
 | .non,.non=>true
 | .bl a,.bl b=>a==b
 | .bl a,.int b=>(if a then 1 else 0)==b
 | .int a,.bl b=>a==(if b then 1 else 0)
 | .int a,.int b=>a==b
 | .str a,.str b=>a==b
 | _,_=>false
def AHd{x:V}{v:Au}(ry:RelV y u)(rx:RelV x v)(fy:flatV y=true)(fx:flatV x=true):LP A s u v (eqV y x):=by
 cases y with
 | non =>
  cases ry;cases x with
  | non=>cases rx;exact LD _
  | bl b=>cases rx;exact SeqAt.EqAt.none_bool b
  | int b=>obtain⟨t,rfl⟩:=rx;exact M6 b t
  | str b=>obtain⟨t,rfl⟩:=rx;exact SeqAt.EqAt.none_str b t
  | _=>exact vF fx BE
 | bl a =>
  cases ry;cases x with
  | non=>cases rx;exact SeqAt.EqAt.bool_none a
  | bl b=>cases rx;exact SeqAt.EqAt.bool_bool a b
  | int b=>obtain⟨t,rfl⟩:=rx;exact SeqAt.EqAt.bool_int a b t
  | str b=>obtain⟨t,rfl⟩:=rx;exact SeqAt.EqAt.bool_str a b t
  | _=>exact vF fx BE
 | int a =>
  obtain⟨t',rfl⟩:=ry;cases x with
  | non=>cases rx;exact M7 a t'
  | bl b=>cases rx;exact SeqAt.EqAt.int_bool a t' b
  | int b=>obtain⟨t,rfl⟩:=rx;exact LH a t' b t
  | str b=>obtain⟨t,rfl⟩:=rx;exact SK a t' b t
  | _=>exact vF fx BE
 | str a =>
  obtain⟨t',rfl⟩:=ry;cases x with
  | non=>cases rx;exact SeqAt.EqAt.str_none a t'
  | bl b=>cases rx;exact SeqAt.EqAt.str_bool a t' b
  | int b=>obtain⟨t,rfl⟩:=rx;exact SL a t' b t
  | str b=>obtain⟨t,rfl⟩:=rx;exact SeqAt.EqAt.str_str a t' b t
  | _=>exact vF fx BE
 | _=>exact vF fy BE
noncomputable def eqU(x:V)(u:Au):Bool:=match u with
 | .none=>eqV .non x
 | .bool b=>eqV (.bl b) x
 | .int i _=>eqV (.int i) x
 | .str z _=>eqV (.str z) x
 | _=>false
def YH{x:V}(r:RelV y u)(f:flatV y=true):eqU x u=eqV y x:=by
 cases y with
 | non=>cases r;rfl
 | bl b=>cases r;rfl
 | int i=>obtain⟨t,rfl⟩:=r;rfl
 | str z=>obtain⟨t,rfl⟩:=r;rfl
 | _=>exact vF f BE
def LQ{x:V}:∀{xs:List V}{us:vO},Vals xs us->xs.all flatV=true->us.any (eqU x)=xs.any λy=>eqV y x:=by
 intro xs us h
 induction h with
 | nil=>intro _;rfl
 | cons r t ih =>
  intro f;rw[W0,ES] at f;rw[J3,J3,YH r f.1,ih f.2]
theorem FN{A:BM}{s:AA}{x:V}{v:Au}(rx:RelV x v)(fx:flatV x=true):∀{xs:List V}{us:vO},Vals xs us->xs.all flatV=true->∀u∈us,LP A s u v (eqU x u)
 | _,_,.nil,_=>λu hu=>by cases hu
 | y::xs,u::us,.cons r t,f=>λu' hu=>by
  rw[W0,ES] at f;rcases AY.mp hu with rfl| hu
  .rw[YH r f.1];exact AHd r rx f.1 fx
  .exact FN rx fx t f.2 u' hu
noncomputable def inV(x:V)(xs:List V):Bool:=xs.any λy=>eqV y x
def rIn(K:As)(neg:Bool):R2:=λx y H Q=>E2 λp xs=>A5 (y=.ref p) ((SqL K H p xs\/SqT K H p xs)) (flatV x=true) (xs.all flatV=true) (Q (.bl (if neg then !inV x xs else inV x xs)) H)
def QD:OpR X (DS .In) (rIn X.K false):=by
 intro aI s σ H x y v u Q I rx ry h;obtain⟨p,xs,rfl,hq,fx,fs,q⟩:=h;cases ry;rcases hq with hq| hq
 .obtain⟨a5,r,pl,hz⟩:=I.list hq
  refine VO (eqU x) pl.isList (λw hw=>FN rx fx r fs w (by simpa using hw)) ⟨.bl _,H,I,ξ,?_⟩;rw[show a5.toArray.any (eqU x)=a5.any (eqU x) by simp,LQ r fs];exact q
 .obtain⟨a5,r,pl,hz⟩:=I.tuple hq
  refine UY (eqU x) pl (λw hw=>FN rx fx r fs w (by simpa using hw)) ⟨.bl _,H,I,ξ,?_⟩;rw[show a5.toArray.any (eqU x)=a5.any (eqU x) by simp,LQ r fs];exact q
def Sg:OpR X (DS .NotIn) (rIn X.K true):=by
 intro aI s σ H x y v u Q I rx ry h;obtain⟨p,xs,rfl,hq,fx,fs,q⟩:=h;cases ry;rcases hq with hq| hq
 .obtain⟨a5,r,pl,hz⟩:=I.list hq
  refine SeqAt.notIn_listAt (eqU x) pl.isList (λw hw=>FN rx fx r fs w (by simpa using hw)) ⟨.bl _,H,I,ξ,?_⟩;rw[show a5.toArray.any (eqU x)=a5.any (eqU x) by simp,LQ r fs];exact q
 .obtain⟨a5,r,pl,hz⟩:=I.tuple hq
  refine SeqAt.notIn_tupleAt (eqU x) pl (λw hw=>FN rx fx r fs w (by simpa using hw)) ⟨.bl _,H,I,ξ,?_⟩;rw[show a5.toArray.any (eqU x)=a5.any (eqU x) by simp,LQ r fs];exact q
def Av:CallR X (.builtin "len") (λxs H Q=>∃p ys,xs=[.ref p]/\(SqL X.K H p ys\/SqT X.K H p ys)/\Q (.int ys.length) H):=by
 intro aI s σ H xs us Q I r h;obtain⟨p,ys,rfl,hq,q⟩:=h;obtain⟨u,rfl,rx⟩:=vals1 r;cases rx;have hn:=line63;rcases hq with hq| hq
 .obtain⟨a5,r',pl,hz⟩:=I.list hq
  have bh:=r'.length;exact Calls.call_len_list pl.isList (by simp only[AO]<;>lia) ⟨.int ys.length,H,I.tok _,⟨s.toks+1,by rw[AO,bh]⟩,q⟩
 .obtain⟨a5,r',pl,hz⟩:=I.tuple hq
  have bh:=r'.length;exact len_tuple pl (by simp only[AO]<;>lia) ⟨.int ys.length,H,I.tok _,⟨s.toks+1,by rw[AO,bh]⟩,q⟩
def Ec:CallR X (.type "list") (λxs H Q=>∃p ys,xs=[.ref p]/\(SqL X.K H p ys\/SqT X.K H p ys)/\∀l,H l=none->Q (.ref l) (upd H l (.lst ys))):=by
 intro aI s σ H xs us Q I r h;obtain⟨p,ys,rfl,hq,q⟩:=h;obtain⟨u,rfl,rx⟩:=vals1 r;cases rx;have fin:∀(a5:vO),Vals ys a5->ys.length<=sizeLine->∀(h':Heap) (c':Nat),(∀b o',s.heap.get? b=u8 o'->h'.get? b=u8 o') ->
   h'.get? s.heap.objs.size=u8 {cls:=.type "list",dict:=u9,data:=.seq a5.toArray c',slots:=#[]}->EP X aI σ Q (.ref s.heap.objs.size) {s with heap:=h'}:=λa5 r' hz h' c' kp e =>
  ⟨.ref s.heap.objs.size,_,I.laid (t':=s.toks) kp (AI _) (show ObjOk X.prog X.w _ h' _ (.lst ys) from⟨hz,a5,c',r',e⟩),ξ,q _ (I.hok.fresh (AI _))⟩
 rcases hq with hq| hq
 .obtain⟨a5,r',pl,hz⟩:=I.list hq
  have bh:=r'.length;obtain⟨o,ho,hc,n,hd⟩:=pl.isList;exact call_list_seq p (.inl rfl) ho hc hd (λh' c' kp e=>fin a5 r' hz h' c' kp e) (by simp only[AO]<;>exact v5 bh hz)
 .obtain⟨a5,r',pl,hz⟩:=I.tuple hq
  have bh:=r'.length;obtain⟨o,ho,hc,n,hd⟩:=pl;exact call_list_seq p (.inr rfl) ho hc hd (λh' c' kp e=>fin a5 r' hz h' c' kp e) (by simp only[AO]<;>exact v5 bh hz)
def Bp:CallR X (.type "tuple") (λxs H Q=>∃p ys,xs=[.ref p]/\((SqL X.K H p ys/\∀l,H l=none->Q (.ref l) (upd H l (.tup ys)))\/(SqT X.K H p ys/\Q (.ref p) H))):=by
 intro aI s σ H xs us Q I r h;obtain⟨p,ys,rfl,h⟩:=h;obtain⟨u,rfl,rx⟩:=vals1 r;cases rx;rcases h with⟨hq,q⟩| ⟨hq,q⟩
 .obtain⟨a5,r',pl,hz⟩:=I.list hq
  have bh:=r'.length;refine call_tuple_list pl.isList (λh' kp=>?_) (by simp only[AO]<;>exact v5 bh hz);have I1:=I.kept (t':=s.toks) kp;have I2:Inv X aI σ (upd H h'.objs.size (.tup ys)) {s with heap:=h'.push {cls:=.type "tuple",data:=.seq a5.toArray}} :=
   I1.laid (t':=s.toks) (λb o e=>AE _ e) (AI _) (⟨hz,a5,r',WP _ _⟩)
  exact⟨.ref h'.objs.size,_,I2,ξ,q _ (I1.hok.fresh (AI _))⟩
 .obtain⟨a5,r',pl,hz⟩:=I.tuple hq
  exact call_tuple_same pl ⟨.ref p,H,I,ξ,q⟩
def tyV(K:As)(T:String)(x:V)(H:Hp):Prop:=match x with
 | .str _=>T = "str"
 | .int _=>T = "int"
 | .ref p=>(T = "list"/\∃xs,SqL K H p xs)\/(T = "tuple"/\∃o,K.lookup p=u8 o/\o.cls=.type "tuple"/\o.dict=u9) \/
   (T = "dict"/\((∃aT,H p=u8 (.dK aT))\/∃aT,H p=u8 (.dT aT)))\/(T = "set"/\∃S n,H p=u8 (.set S n))
 | _=>False
def AHk{x:V}{v:Au}(I:Inv X aI σ H s)(r:RelV x v)(ty:tyV X.K T x H) :
  s.TypeIs v T/\∀a,v=.ref a->∃ob,s.heap.get? a=u8 ob/\ob.dict=u9:=by
 cases x with
 | str z =>
  obtain⟨t,rfl⟩:=r;cases ty;exact⟨typeIs_str s z t,λ_ e=>nomatch e⟩
 | int i =>
  obtain⟨t,rfl⟩:=r;cases ty;exact⟨typeIs_int s i t,λ_ e=>nomatch e⟩
 | ref p =>
  cases r;rcases ty with⟨rfl,xs,hq⟩| ⟨rfl,o,hk,hc,hd⟩| ⟨rfl,hk⟩| ⟨rfl,S,n,hk⟩
  .obtain⟨a5,_,pl,_⟩:=I.list hq
   refine⟨pl.isList.typeIs,λa e=>?_⟩;cases e;obtain⟨o,n,e,c,hd,_⟩:=pl;exact⟨o,e,hd⟩
  .refine⟨⟨o,I.kIn p o hk,hc⟩,λa e=>?_⟩
   cases e;exact⟨o,I.kIn _ o hk,hd⟩
  .have z:∃o,s.heap.get? p=u8 o/\o.ExactDict:=by
    rcases hk with⟨aT,hk⟩| ⟨aT,hk⟩
    .obtain⟨_,_,_,_,o,_,_,e,ex,_⟩:=I.hok p _ hk
     exact⟨o,e,ex⟩
    .obtain⟨_,_,_,_,o,_,_,e,ex,_⟩:=I.hok p _ hk
     exact⟨o,e,ex⟩
   obtain⟨o,e,ex⟩:=z;refine⟨⟨o,e,ex.1⟩,λa e2=>?_⟩;cases e2;exact⟨o,e,ex.2.1⟩
  .obtain⟨o,_,_,_,e,ex,_⟩:=I.hok p _ hk
   refine⟨⟨o,e,ex.1⟩,λa e2=>?_⟩;cases e2;exact⟨o,e,ex.2.1⟩
 | _=>exact EH ty
def tBM(K:As)(T:String)(r:V->List V->Hp->VK->Prop)(to:TE)(t:TA):TE:=λσ H Q=>to σ H λx H1=>tyV K T x H1/\t σ H1 λxs H2=>r x xs H2 Q
variable{o:Expr}{t:TA}{id:String}
def Ho(pa:PlainAttrs T)(slot:Slot T name id)(hty:typeOf (.builtin id)=pure (.type "method_descriptor"))(hm:MtR X id r)(ho:PE X o to)(ha:PA X (e::es) t)
  (kH:autoParam (K6 o name X.env (eval o X.env)=eval o X.env) zA0._auto_1)
  (gc:autoParam (((FB bq (B3 (e::es) X.env)).all (λx=>!x.1)&&(Ic bq (Fn [] X.env)).all (λx=>x.1.isSome)
   && decide ((e::es).length+([]:List K9).length+(if([]:List K9).isEmpty then 0 else 1)<30))=true) zA0._auto_1)
  (kx:autoParam ((cf.endLine==bq.line)=true) zA0._auto_1) (hs:autoParam (B3 (e::es) X.env=(false,eval e X.env)::B3 es X.env) zA0._auto_1) (f':autoParam ((FB bq (B3 es X.env)).any (·.1)=false) zA0._auto_1) :
  PE X (.Call (.Attribute o name cf) (e::es) [] bq) (tBM X.K T r to t):=by
 intro aI s σ H Q I h;refine wpAny_Call_method_late kH gc kx rfl (thn (ho aI s σ H _ I h) λv s1 hq=>?_);obtain⟨x,H1,I1,r1,ty,q1⟩:=hq;obtain⟨h1,h2⟩:=AHk I1 r1 ty;refine⟨T,id,pa,slot,hty,h1,h2,?_⟩;have hA:=ha bq aI s1 σ H1 _ I1 q1;rw[hs] at hA ⊢;refine QH (by show(false||(FB bq (B3 es X.env)).any (·.1))=false;rw[f']<;>rfl) (RR ?_);exact thn hA λus s2 ⟨vs,H2,I2,r2,q2⟩=>hm aI s2 σ H2 x vs v us Q I2 r1 r2 q2
end
def MtM(X:Cx)(id:String)(r:V->List V->Hp->VK->Prop):Prop :=
 ∀(aI:vN) (s:AA) (σ:St) (H:Hp) (x:V) (xs:List V) (v:Au) (us:vO) (Q:VK),Inv X aI σ H s->RelV x v->Vals xs us->r x xs H Q ->
  wpAny (AN X.prog X.w) X.A (call (.builtin id) (v::us)) (EP X aI σ Q) X.xe s
def Vals.one:∀{x:V}{us:vO},Vals [x] us->∃u,us=[u]/\RelV x u:=by
 intro x us h;cases h with| cons r h=>cases h;exact⟨_,ξ,r⟩
theorem Vals.eraseIdx:∀{xs:List V}{us:vO} (i:Nat),Vals xs us->Vals (xs.eraseIdx i) (us.eraseIdx i)
 | _,_,_,.nil=>.nil
 | _,_,0,.cons _ t=>t
 | _,_,i+1,.cons r t=>.cons r (Vals.eraseIdx i t)
theorem Pr{α:Type}:∀(l:List α) (i:Nat),(l.eraseIdx i).length<=l.length
 | [],_=>AI _
 | _::_,0=>Ki _
 | _::r,i+1=>UZ (Pr r i)
section
variable{zs:List V}
def Inv.lset{f:vP->vP}(I:Inv X aI σ H s)(hH:H l=u8 (.lst xs))
  (e:s.heap.get? l=u8 {cls:=.type "list",data:=.seq a5.toArray n}) (hf:f a5.toArray=its'.toArray) (hv:Vals ys its') (hz:ys.length<=sizeLine) :
  Inv X aI σ (upd H l (.lst ys)) {s with heap:=s.heap.update l (CO f),toks:=t'}:=by
 have q:=PySem.IsL.update e f;rw[hf] at q;refine I.write (x:=l) (e:=l) (by rw[hH];exact trivial) (.inl rfl) (λb' u hb hu=>(D4 s.heap (CO f) (BU hb)).trans hu) ⟨_,q⟩ ?_;exact⟨hz,its',_,hv,q⟩
def Inv.lstM(I:Inv X aI σ H s)(hH:H l=u8 (.lst xs)):xs.length<=sizeLine/\∃(a5:vO) (n:Nat),Vals xs a5/\xs.length=a5.length/\s.heap.get? l=u8 {cls:=.type "list",data:=.seq a5.toArray n}:=by
 obtain⟨z,a5,n,r,e⟩:=I.hok l _ hH;exact⟨z,a5,n,r,r.length,e⟩
def ACe(h:n<=sizeLine):LL n=false:=by
 unfold LL;exact vD δ
end
def AGG:V->List V->Hp->VK->Prop:=λx vs H Q=>∃l xs y,x=.ref l/\vs=[y]/\H l=u8 (.lst xs)/\xs.length<sizeLine/\Q .non (upd H l (.lst (xs++[y])))
def DY:MtM X "list.append" AGG:=by
 intro aI s σ H x vs v us Q I rx rv h;obtain⟨l,xs,y,rfl,rfl,hH,hz,q⟩:=h;cases rx;obtain⟨u,rfl,ru⟩:=rv.one;obtain⟨z,a5,n,r,hl,e⟩:=I.lstM hH;refine MS F.slot_list_append ⟨_,e,ξ⟩ F.entry_list_append (F.args_list_append_2 _ _) (PySem.list_append l a5.toArray n u (by rw[AO];exact yY hz hl)) ⟨e,?_⟩;refine⟨.non,_,I.lset (its':=a5++[u]) hH e θ (r.append (.cons ru .nil)) ?_,ξ,q⟩;rw[A2,DC];exact hz
def AEc:V->List V->Hp->VK->Prop:=λx vs H Q=>∃l b xs zs,x=.ref l/\vs=[.ref b]/\H l=u8 (.lst xs)/\H b=u8 (.lst zs)/\xs.length+zs.length<=sizeLine/\Q .non (upd H l (.lst (xs++zs)))
def AAb:MtM X "list.extend" AEc:=by
 intro aI s σ H x vs v us Q I rx rv h;obtain⟨l,b,xs,zs,rfl,rfl,hH,hB,hz,q⟩:=h;cases rx;obtain⟨u,rfl,ru⟩:=rv.one;cases ru;obtain⟨z,a5,n,r,hl,e⟩:=I.lstM hH;obtain⟨z2,gN,n2,r2,qv,e2⟩:=I.lstM hB;have hsz:a5.toArray.size+gN.toArray.size<=sizeLine:=by rw[AO,AO];exact yF hz hl qv
 have uq:¬ (!a5.toArray.isEmpty&&LL (a5.toArray.size+gN.toArray.size))=true:=by
  rw[ACe hsz,WB];exact BE
 refine MS F.slot_list_extend ⟨_,e,ξ⟩ F.entry_list_extend (F.args_list_extend_2 _ _)
  (AutoSeq1.list_extend_list_list_0 l a5.toArray n b gN.toArray n2 uq (by rw[AO];exact v5 hl z) (wG hsz)) ⟨e,e2,?_⟩
 refine⟨.non,_,I.lset (its':=a5++gN) hH e θ (r.append r2) ?_,ξ,q⟩;rw[A2];exact hz
def rPopAt:V->List V->Hp->VK->Prop:=λx vs H Q=>∃l xs i k y,x=.ref l/\vs=[.int i]/\H l=u8 (.lst xs)/\-(2 ^ 63)<=i/\i<2 ^ 63/\WS i xs.length=u8 k/\xs[k]?=u8 y/\Q y (upd H l (.lst (xs.eraseIdx k)))
def ABq:MtM X "list.pop" rPopAt:=by
 intro aI s σ H x vs v us Q I rx rv h;obtain⟨l,xs,i,k,y,rfl,rfl,hH,h1,h2,hk,hy,q⟩:=h;cases rx;obtain⟨u,rfl,ru⟩:=rv.one;obtain⟨t,rfl⟩:=ru;obtain⟨z,a5,n,r,hl,e⟩:=I.lstM hH;obtain⟨w,hw,eC⟩:=r.get hy;refine MS F.slot_list_pop ⟨_,e,ξ⟩ F.entry_list_pop (F.args_list_pop_2 _ _)
  (MeetsSeq.list_pop_at l a5.toArray n i t k w (fitsIndex_both h1 h2) (by rw[AO,<- hl];exact hk) (by rw[<- B4];exact hw) (by rw[AO];exact v5 hl z)) ⟨e,?_⟩
 refine⟨y,_,I.lset (its':=a5.eraseIdx k) hH e ?_ (r.eraseIdx k) ?_,eC,q⟩
 .rw[List.eraseIdxIfInBounds_toArray]
 .have:=Pr xs k
  exact wJ this z
end L2
namespace Att
open PySem PySem.W PySem.Calls PyProof.Rows
def Kc{P:YU}:∀(ns:vG) (vs:vO),WellAll P h vs (ns.map af)->F4 vs ns:=by
 intro ns
 induction ns with
 | nil =>
  intro vs w;rw[LJ] at w;cases w;exact .nil
 | cons n ns ih =>
  intro vs w;rw[BO] at w;cases w with
  | cons a b =>
   cases a;exact .cons _ _ (ih _ b)
def AAP{l:OpenLaw}(hn:l.most=u8 n){P:YU}{args:List WData}{vals:vO}
  (m3:l.row.toRowW.claim.pre args=true) (hwl:WellAll P h vals args) :
  ∃a vs ns,vals=[A7 a]/\args=[WData.list (ns.map af)]/\h.get? a=u8 {cls:=.type "list",data:=.seq vs.toArray}/\F4 vs ns/\ns.length<=n:=by
 have hsh:=(pre_splitW m3).1;have hc:l.pre.holds [] {args:=args}=true:=(pre_splitW m3).2;obtain⟨d,r,rfl,h1,h2⟩:=hasAllW_cons hsh;obtain rfl:=hasAllW_nil h2;obtain⟨xs,rfl,h3⟩:=hasW_list h1;obtain⟨ns,rfl⟩:=items_int h3;have bh:ns.length<=n:=by
  unfold OpenLaw.pre at hc;have h4:(WTm.not (.lt (.lit (.int (n:Int))) (.len (.arg 0)))).holds [] {args:=[.list (ns.map .int)]}=true:=by
   have h4:=(holds_andW hc).1;rw[hn] at h4;exact h4
  have h5:=condW_of h4 (w_not (w_lt w_lit (w_len_list (w_arg rfl))));rw[AB] at h5;refine UM λq=>?_;have q':(n:Int)<((ns.length:Nat):Int):=v7 q
  first
   | (rw[vC q'] at h5;exact vF h5 ζ)
   | (simp at h5;lia)
 cases hwl with
 | cons w1 w2 =>
  cases w2;cases w1 with
  | list ho ck=>exact⟨_,_,ns,ξ,ξ,ho,Kc ns _ ck,bh⟩
def AAz(l:OpenLaw)(args:List WData):l.row.toRowW.claim.post args (.bool true) args=true :=
 postW_of (r:=l.row.toRowW) (X:=(true==true))
  (show Z4 [] (.bool true) .bool=true by first| rfl| decide| simp[Z4,WShape.arms,WShape.armsAll])
  (w_eq_bool (w_res rfl) w_lit) rfl
def Vy{l:OpenLaw}{q:AL}{d:DefRec}
  (hn:l.most=u8 n) (tY:d.params.defaults=[])
  (call:∀(w:AR) (s₀ s₁:AA) (mg mb:vM) (fa:Addr) (o:Obj) (pm cd b9:Au) (a:Addr) (vs:vO) (ns:vG),
   Ground q eJ [] XP w s₀ mg mb s₁.heap->YP w s₁.heap ->
   s₁.heap.get? fa=u8 o->o.data=.func (docDef d.name d.params d.body d.scope pm cd b9)->s₁.heap.CodeRec cd d.name->mg d.name=u8 (.ref fa) ->
   s₁.heap.get? a=u8 {cls:=.type "list",data:=.seq vs.toArray}->F4 vs ns->ns.length<=n->s₁.gens=#[] ->
   codeAny (AN l.prog w) OR (.call (.ref fa) ⟨[.ref a],[]⟩) (λr s'=>r=.ok (.ret (.bool true))/\OldK s₁.heap s'.heap/\s'.os=s₁.os/\My s'.gens) s₁) :
  WalkO q eJ XP YP l.row.toRowW d [] (λf vs=>VQ f vs):=by
 intro w s₀ s₁ mg mb G Y fa o pm cd b9 dV kV ho hd kc hD hmg hg args vals as m3 hlay hrd hwl ie;obtain rfl:dV=.none:=Dflts.none hD tY;obtain rfl:kV=.none:=Dflts.noKw hD;obtain⟨a,vs,ns,rfl,rfl,rQ,kD,bh⟩:=AAP hn m3 hwl;refine enter_call (EU (call w s₀ s₁ mg mb fa o pm cd b9 a vs ns G Y ho (fd_plain hd) kc hmg rQ kD bh hg) λr s' hq=>?_);obtain⟨rfl,h2,h3,h4⟩:=hq;exact⟨.inl ⟨.bool true,.bool true,[],ξ,λ_=>rfl,.bool true,AAz l _,λ_=>⟨LX,λ_ hm=>(nomatch hm)⟩⟩,h2,h3,h4⟩
end Att
namespace L2
open PySem PySem.Spec PyProof.Rows
def AAc:∀{vs:vO}{ns:vG},F4 vs ns->Vals (ns.map V.int) vs:=by
 intro vs ns h
 induction h with
 | nil=>exact .nil
 | cons n t h ih=>exact .cons ⟨t,ξ⟩ ih
def Only(H:Hp):Prop:=∀b,H b=u9\/∃o xs,H b=u8 (.frz o (.lst xs))
def ADV{mb:vM}{k:Nat}{s₁:AA}
  (KX:K.In s₁.heap) (g6:s₁.heap.Ns DB mg) (hb:s₁.heap.Ns VA mb) (hbb:∀x:Str,x≠"__name__"->mb x=HI x) (hlim:s₁.heap.NoLimit) (hg:s₁.gens=#[])
  (ha:s₁.heap.get? a=u8 {cls:=.type "list",data:=.seq vs.toArray}) (hi:F4 vs ns) (hl:ns.length<=sizeLine) (hr:Room k OR)
  (F:∀base:Heap,K.In base->base.Ns DB mg->FnOk P w K mg base CX k fa fd [x] sp) (tX:∀(s:AA) (u:Au),QY s fd ⟨[u],[]⟩ [(x,u)])
  (kT:∀H:Hp,Only H->SqL K H a (ns.map V.int)->sp [.ref a] H (λv _=>v=.bl true) λ_ _ _=>False)
  (hCX:∀H e s',CX [] H s₁ (λ_ _ _=>False) e s'->False) :
  codeAny (AN P w) OR (.call (.ref fa) ⟨[.ref a],[]⟩) (λr s'=>r=.ok (.ret (.bool true))/\OldK s₁.heap s'.heap/\s'.os=s₁.os/\My s'.gens) s₁:=by
 have rv:=AAc hi;have lenV:=hi.length;have uW:∀H:Hp,Only H->SqL K H a (ns.map V.int)->HOk P w H s₁.heap->(∀b,H b≠none->b=a)->(H a≠none->K.lookup a=u9) ->
   codeAny (AN P w) OR (.call (.ref fa) ⟨[.ref a],[]⟩) (λr s'=>r=.ok (.ret (.bool true))/\OldK s₁.heap s'.heap/\s'.os=s₁.os/\My s'.gens) s₁:=by
  intro H hO hS hok hA hK;have base_of:∀{b:Addr}{o:Obj},s₁.heap.get? b=u8 o->H b=none->(hidT s₁.heap H).get? b=u8 o:=λe n=>ACN e n;have uT:∀{b:Addr}{o:Obj}{es:Array NS}{ep:Nat},s₁.heap.get? b=u8 o->o.data=.dict es ep->H b=u9:=λ{b o es ep} e d=>by
   cases q:H b with
   | none=>rfl
   | some u =>
    have e':=hA b (by rw[q];simp);subst e';rw[ha] at e;cases e;have d':=d;cases d'
  have nsK:∀{b:Addr}{m:vM},s₁.heap.Ns b m->(hidT s₁.heap H).Ns b m:=λ{b m} ⟨o,es,ep,e,d,r⟩=>⟨o,es,ep,base_of e (uT e d),d,r⟩;have hKb:K.In (hidT s₁.heap H):=λb o e=>base_of (KX b o e) (by
   cases q:H b with
   | none=>rfl
   | some u =>
    have e':=hA b (by rw[q];simp);subst e';rw[hK (by rw[q];simp)] at e;cases e)
  have hM:Mod K mg (hidT s₁.heap H):=⟨hKb,nsK g6,⟨mb,nsK hb,hbb⟩,by obtain⟨mc,h1,h2⟩:=hlim;exact⟨mc,nsK h1,h2⟩⟩;have e0:Env0 P w K mg (hidT s₁.heap H) OR [] s₁ H:=⟨ξ,hM,λb o e=>AFG e,OU (AAT _ _),trivial,λb hb=>vF (show b∈([]:vU) from hb) θ,hok,.of_eq hg⟩;refine EU ((F _ hKb (nsK g6)).run OR [] s₁ H ⟨[.ref a],[]⟩ [.ref a] [.ref a] _ _ hr e0 (tX s₁ (.ref a)) (.cons rfl .nil) (kT H hO hS)) λr s' h=>?_;cases r with
  | error e=>exact(hCX H e s' h).elim
  | ok fl =>
   cases fl with
   | next=>exact EH h
   | brk=>exact EH h
   | cont=>exact EH h
   | ret u =>
    obtain⟨v,H',os,bare,un,hok',r',q⟩:=h;have q':=q;subst q';obtain rfl:u=KP true:=r';refine⟨ξ,OldK.of_keep λb o e=>?_,os,bare⟩;cases q:H b with
    | none=>exact un.keep b o e q (by intro z;exact vF (show b∈([]:vU) from z) θ) θ
    | some u =>
     rcases hO b with z| ⟨ob,xs,z⟩
     .rw[q] at z;cases z
     .have z2:=un.frzs b ob _ z
      obtain⟨e1,_⟩:=hok b _ z;obtain⟨e2,_⟩:=hok' b _ z2;rw[e] at e1;cases e1;exact e2
 cases hk:K.lookup a with
 | some o =>
  have e:=KX a o hk;rw[ha] at e;cases e;refine uW (λ_=>u9) (λ_=>.inl rfl) (.inr ⟨_,vs.toArray,_,hk,ξ,ξ,ξ,by rw[AO,lenV];exact hl,by simpa using rv⟩) (λb u z=>by have z':=z;cases z') (λb z=>vF rfl z) λz=>vF rfl z
 | none =>
  refine uW (λb=>if b=a then u8 (.frz {cls:=.type "list",data:=.seq vs.toArray} (.lst (ns.map V.int))) else u9) (λb=>?_) (.inl (.inr ⟨{cls:=.type "list",data:=.seq vs.toArray},vB rfl⟩)) (λb u z=>?_) (λb z=>?_) λ_=>hk
  .by_cases hb:b=a
   .exact .inr ⟨_,_,vB hb⟩
   .exact .inl (vA hb)
  .by_cases hb:b=a
   .have z':=(vB hb).symm.trans z
    cases z';subst hb;exact⟨ha,by rw[AB];exact hl,vs,_,rv,ha⟩
   .have z':=(vA hb).symm.trans z
    cases z'
  .by_cases hb:b=a
   .exact hb
   .exact vF (vA hb) z
def AEo{l:PM}{k:Nat}{q:AL}{d:DefRec}{K:YU->As}{CX:AR->CXT}{sp:AR->Sp}
  (hn:l.most=u8 n) (hn2:n<=sizeLine) (tY:d.params.defaults=[]) (hr:Room k OR)
  (hY:∀(w:AR) (h:Heap),YP w h->(K w.params).In h)
  (F:∀(w:AR) (mg:vM) (fa:Addr) (h:Heap),(K w.params).In h->h.Ns DB mg->mg d.name=u8 (.ref fa) ->
   ∃fd:BA,(∀(s:AA) (u:Au),QY s fd ⟨[u],[]⟩ [(x,u)]) /\
    ∀base:Heap,(K w.params).In base->base.Ns DB mg->FnOk l.prog w (K w.params) mg base (CX w) k fa fd [x] (sp w))
  (kT:∀(w:AR) (H:Hp) (a:Addr) (ns:vG),ns.length<=n->Only H->SqL (K w.params) H a (ns.map V.int)->sp w [.ref a] H (λv _=>v=.bl true) λ_ _ _=>False)
  (hCX:∀(w:AR) (H:Hp) (s:AA) (e:Au) (s':AA),CX w [] H s (λ_ _ _=>False) e s'->False) :
  W3 q eJ XP YP l.row.toRowW d [] (λf vs=>VQ f vs):=by
 refine Att.Vy hn tY λw s₀ s₁ mg mb fa o pm cd b9 a vs ns G Y ho hd kc hmg rQ kD bh hg=>?_;have KX:=hY w _ Y;obtain⟨fd,hb,hF⟩:=F w mg fa _ KX G.T.g hmg;exact ADV KX G.T.g G.T.b G.T.builtins G.T.nolimit hg rQ kD (BQ bh hn2) hr hF hb (λH hO hS=>kT w H a ns bh hO hS) λH e s'=>hCX w H s₁ e s'
noncomputable def inClass(s:Stmt)(j:Nat):Stmt:=match s with
 | .ClassDef _ _ _ body _ _ _ _ _ _ _=>body.getD j (.Pass ⟨0,0,0,0⟩)
 | _=>.Pass ⟨0,0,0,0⟩
noncomputable def Dm(s:Stmt):Arguments:=match s with
 | .FunctionDef _ a _ _ _ _ _ _ _ _=>a
 | _=>{posonlyargs:=[],args:=[],vararg:=u9,kwonlyargs:=[],kw_defaults:=[],kwarg:=u9,defaults:=[]}
def DP(s:Stmt):List Stmt:=match s with
 | .FunctionDef _ _ b _ _ _ _ _ _ _=>b
 | _=>[]
noncomputable def Af(s:Stmt):F7:=match s with
 | .FunctionDef _ _ _ _ _ _ sc _ _ _=>sc
 | _=>{kind:=.function,names:=[],isGenerator:=false,isCoroutine:=false}
abbrev CX0:CXT:=λ_ _ _ _ _ _=>False
abbrev E0:XK:=λ_ _ _=>False
def pass0:Passes CX0 X E0:=λ_ _ _ _ _ _ _ h=>h.elim
structure Cal(P:AL)(w:AR)(K:As)(mg:vM)(base:Heap)(n:Nat)(f:Addr)(fd:BA)(x:Str)(ps:vQ)(sp:Sp):Prop where
 G:FnOk P w K mg base CX0 n f fd ps sp
 b:Binds K fd ps []
 k:C8 K (.ref f)=true
 m:mg x=u8 (.ref f)
def Ay{t:TA}{p:Pos}(c:Cal X.prog X.w X.K X.mg X.base n f fd x ps sp)(hr:Room n X.A)(hg:Gl X x)
  (ha:PA X (e::es) t) (j3:autoParam ((x==("__debug__" : Str))=false) zA1._auto_1) (he:autoParam (B3 (e::es) X.env=(false,eval e X.env)::B3 es X.env) zA0._auto_1) (ic:autoParam ((FB pos (B3 es X.env)).any (·.1)=false) zA0._auto_1) :
  PE X (.Call (.Name x p) (e::es) [] pos) (AGU sp [] E0 t):=HY c.G hr hg c.m c.k c.b .nil pass0 ha j3 he ic
structure Fun(K:As)(x qual:Str)(st:Stmt)(f:Addr)(fd:BA):Prop where
 ex:∃(oc:Au) (od:Option Addr) (kV b9 pm:Au) (an:Option Addr) (bt ct:Au) (qk:Array vS),
  fd=E6 x qual (Dm st) (DP st) (Af st) .none kV b9 pm an bt ct/\K.lookup f=u8 ⟨oc,od,.func fd,qk⟩/\IP K bt qual=true
 kp:C8 K (.ref f)=true
def Fun.ok{st:Stmt}{N:vQ}{k:Nat}(F:Fun K x qual st f fd)(S:FnScope N ps (Af st))
  (kq:∀(bt:Au) (A:BM) (outer:List Env) (s:AA) (H:Hp) (vs:List V) (Q:VK) (E:XK),Room k (A.deeper (NR qual (Af st) s.heap.objs.size f bt))->sp vs H Q E ->
   ∃t,PSs (cxOf CX0 P w K mg base N qual (Af st) f bt A outer s H E).nox (DP st) t/\t {nx:=λ_ H'=>Q .non H',rt:=Q} (start N vs) H) (len:∀vs H Q E,sp vs H Q E->vs.length=ps.length:=by intro _ _ _ _ h;repeat first| (obtain⟨rfl,_⟩:=h;rfl)| obtain⟨_,h⟩:=h):FnOk P w K mg base CX0 (k+1) f fd ps sp:=by
 obtain⟨oc,od,kV,b9,pm,an,bt,ct,qk,rfl,lk,kc⟩:=F.ex;refine AIL lk kc S len λA outer s H vs Q E hr kT=>?_;obtain⟨t,h,q⟩:=kq bt A outer s H vs Q E hr kT;exact⟨t,h.nox,q⟩
def Fun.binds{st:Stmt}(F:Fun K x qual st f fd)
  (h:∀(kV b9 pm:Au) (an:Option Addr) (bt ct:Au) (us:vO),us.length=ps.length->UV (E6 x qual (Dm st) (DP st) (Af st) .none kV b9 pm an bt ct) ⟨us,[]⟩=pure (ps.zip us)):Binds K fd ps []:=by
 obtain⟨oc,od,kV,b9,pm,an,bt,ct,qk,rfl,lk,kc⟩:=F.ex;exact .all (h kV b9 pm an bt ct)
def Np{st:Stmt}{kV:Au}(l:K.lookup f=u8 ⟨oc,od,.func (E6 x qual (Dm st) (DP st) (Af st) .none kV b9 pm an bt ct),qk⟩)
  (c:IP K bt qual=true) (k:C8 K (.ref f)=true):Fun K x qual st f (E6 x qual (Dm st) (DP st) (Af st) .none kV b9 pm an bt ct):=⟨⟨oc,od,kV,b9,pm,an,bt,ct,qk,ξ,l,c⟩,k⟩
def BK(h:n<=1000):n<sizeLine:=EQ h ζ
def pv(i:Nat)(hN:autoParam (X.N[i]?=u8 x) zA0._auto_1)(hv:Vis X.env.scope x:=by first| exact MM rfl| exact NM (MM rfl)| exact NM (NM rfl))(hd:autoParam ((x==("__debug__" : Str))=false) zA1._auto_1)
  (kc:autoParam ((x==("__classdict__" : Str))=false) zA1._auto_1):PE X (.Name x pos) (AIZ i):=AGo hN hv hd kc
def iteF{A B:Prop}(h:B):if false=true then A else B:=by
 rw[vA BE];exact h
def iteT{A B:Prop}(h:A):if true=true then A else B:=by
 rw[vB rfl];exact h
def ite2{c A B:Prop}[Decidable c](h1:c->A)(h2:¬ c->B):if c then A else B:=by
 by_cases h:c
 .rw[vB h]
  exact h1 h
 .rw[vA h]
  exact h2 h
def Same(H H':Hp):Prop:=∀b o,H b=u8 o->H' b=u8 o
def Same.refl(H:Hp):Same H H:=λ_ _ h=>h
def vf:=@Same.refl
def Same.trans(a:Same H H1)(b:Same H1 H2):Same H H2:=λc o h=>b c o (a c o h)
def Same.free(e:Same H H')(h:H' l=ZI):H l=ZI:=by
 cases q:H l with
 | none=>rfl
 | some o =>
  rw[e l o q] at h;cases h
def Same.seq(e:Same H H')(h:SqL K H a xs):SqL K H' a xs:=by
 rcases h with(h| ⟨o,h⟩)| h
 .exact .inl (.inl (e _ _ h))
 .exact .inl (.inr ⟨o,e _ _ h⟩)
 .exact .inr h
noncomputable def cloOf(cells:List (Str×Addr)):List (Str×IT)->List (Str×Addr)->List (Str×Addr)
 | [],cs=>cs
 | (n,k)::r,cs=>cloOf cells r (if k == .free then match cells.lookup n with| some c=>(n,c)::cs| none=>cs else cs)
theorem Ow{cells:List (Str×Addr)}:∀{names:List (Str×IT)}{cs:List (Str×Addr)},(∀x c,cs.lookup x=u8 c->cells.lookup x=u8 c)->∀x c,(cloOf cells names cs).lookup x=u8 c->cells.lookup x=u8 c
 | [],_,h=>h
 | (n,k)::r,cs,h=>by
  unfold cloOf;refine Ow (names:=r) ?_;intro x c e;by_cases hk:(k==C3)=true
  .rw[vB hk] at e
   cases q:cells.lookup n with
   | none=>rw[q] at e;exact h x c e
   | some d =>
    rw[q] at e;rw[EE] at e;cases hx:x==n with
    | true =>
     rw[hx] at e;have hxn:x=n:=eq_of_beq hx;subst hxn;rw[q];exact e
    | false=>rw[hx] at e;exact h x c e
  .rw[vA hk] at e;exact h x c e
theorem cloOf_mono{cells:List (Str×Addr)}{x:Str}:∀{names:List (Str×IT)}{cs:List (Str×Addr)},(cs.lookup x).isSome=true->((cloOf cells names cs).lookup x).isSome=true
 | [],_,h=>h
 | (n,k)::r,cs,h=>by
  unfold cloOf;refine cloOf_mono (names:=r) ?_;by_cases hk:(k==C3)=true
  .rw[vB hk]
   cases q:cells.lookup n with
   | none=>exact h
   | some d =>
    show(FR x ((n,d)::cs)).isSome=true;rw[EE];cases hx:x==n with
    | true=>rfl
    | false=>exact h
  .rw[vA hk];exact h
theorem QZ{cells:List (Str×Addr)}{x:Str}(hc:(cells.lookup x).isSome=true):∀{names:List (Str×IT)}{cs:List (Str×Addr)},(x,C3)∈names->((cloOf cells names cs).lookup x).isSome=true
 | [],_,h=>by cases h
 | (n,k)::r,cs,h=>by
  unfold cloOf;rcases AY.mp h with e| h
  .cases e
   refine cloOf_mono ?_;rw[vB (show(C3==C3)=true from rfl)];obtain⟨d,q⟩:=G0.mp hc;rw[q];rw[EE,beq_self_eq_true];rfl
  .exact QZ hc h
theorem Wf{env:Env}:∀(names:List (Str×IT)) (cs:List (Str×Addr)),(∀y∈names,y.2=.free->(env.cells.lookup y.1).isSome=true) ->
  (forIn names cs λ(x:Str×IT) (r:List (Str×Addr))=>match x with
   | (name,kind)=>if(kind == .free)=true then do let c <- cellOf env name;pure (C1 ((name,c)::r)) else pure (C1 r):Sem (List (Str×Addr)))=pure (cloOf env.cells names cs)
 | [],cs,_=>rfl
 | (n,k)::r,cs,h=>by
  have hr:∀y∈r,y.2=.free->(env.cells.lookup y.1).isSome=true:=λy hy=>h y (AJ _ hy);rw[List.forIn_cons];unfold cloOf;by_cases hk:(k==C3)=true
  .have hf:k=.free:=by simpa using hk
   obtain⟨d,q⟩:=G0.mp (h (n,k) AF hf);have q':=q;have ig:cellOf env n=pure d:=by unfold cellOf;rw[q']
   simp only[hk,if_true,ig,pure_bind,q'];exact Wf r _ hr
  .simp only[hk,if_false,pure_bind,BY]
   exact Wf r _ hr
def ADp{env:Env}(h:∀y∈scope.names,y.2=.free->(env.cells.lookup y.1).isSome=true):closureFor scope env=pure (cloOf env.cells scope.names []):=by
 unfold closureFor;have e:=Wf (env:=env) scope.names [] h;simp only[bind_pure];exact e
theorem Dz{env:Env}:∀{names:List (Str×IT)}{x:Str},names.lookup x=u8 .free ->
  (names.map λ(n,k)=>if(k==C3&&env.scope.kind == .function&&env.kindOf n==u8 .cell) then(n,Iq) else(n,k)).lookup x=u8 .cell \/
  (names.map λ(n,k)=>if(k==C3&&env.scope.kind == .function&&env.kindOf n==u8 .cell) then(n,Iq) else(n,k)).lookup x=u8 .free
 | [],_,h=>by simp at h
 | (n,k)::r,x,h=>by
  have ih:=@Dz env r x;rw[BO];show FR x ((if(k==C3&&env.scope.kind == .function&&env.kindOf n==u8 .cell)=true then(n,Iq) else(n,k))::_)=_\/FR x ((if(k==C3&&env.scope.kind == .function&&env.kindOf n==u8 .cell)=true then(n,Iq) else(n,k))::_)=_;cases hx:x==n with
  | true =>
   rw[EE,hx] at h;have hk:k=.free:=by simpa using h
   by_cases hc:(k==C3&&env.scope.kind == .function&&env.kindOf n==u8 .cell)=true
   .rw[vB hc];left;rw[EE,hx]
   .rw[vA hc];right;rw[EE,hx,hk]
  | false =>
   rw[EE,hx] at h;by_cases hc:(k==C3&&env.scope.kind == .function&&env.kindOf n==u8 .cell)=true
   .rw[vB hc];rw[EE,hx];exact ih h
   .rw[vA hc];rw[EE,hx];exact ih h
theorem KQ{env:Env}{x:Str}:∀{names:List (Str×IT)},(∀y∈names,y.2≠.cell) ->
  (
   (names.map λ(n,k)=>if(k==C3&&env.scope.kind == .function&&env.kindOf n==u8 .cell) then(n,Iq) else(n,k)).lookup x=u8 .cell \/
   (names.map λ(n,k)=>if(k==C3&&env.scope.kind == .function&&env.kindOf n==u8 .cell) then(n,Iq) else(n,k)).lookup x=u8 .free)->(x,C3)∈names
 | [],_,h=>by simp at h
 | (n,k)::r,hc,h=>by
  have ih:=@KQ env x r λy hy=>hc y (AJ _ hy);rw[BO] at h;have h':FR x ((if(k==C3&&env.scope.kind == .function&&env.kindOf n==u8 .cell)=true then(n,Iq) else(n,k))::_)=_\/FR x ((if(k==C3&&env.scope.kind == .function&&env.kindOf n==u8 .cell)=true then(n,Iq) else(n,k))::_)=_:=h;by_cases hb:(k==C3&&env.scope.kind == .function&&env.kindOf n==u8 .cell)=true
  .rw[vB hb] at h'
   have hk:k=.free:=by simp at hb;exact hb.1.1
   rw[EE] at h';cases hx:x==n with
   | true =>
    have:x=n:=eq_of_beq hx;subst this;subst hk;exact AF
   | false=>rw[hx] at h';exact AJ _ (ih h')
  .rw[vA hb] at h'
   rw[EE] at h';cases hx:x==n with
   | true =>
    rw[hx] at h';have:x=n:=eq_of_beq hx;subst this;rcases h' with h' | h'
    .exact vF (AM h') (hc (x,k) AF)
    .have hk:=AM h'
     subst hk;exact AF
   | false=>rw[hx] at h';exact AJ _ (ih h')
noncomputable def compOk(hJ sc:F7):Bool :=
 (decide (sc.kind=.function))&&sc.names.all (λy=>decide (y.2≠.cell))&&sc.names.all (λy=>decide (y.2=.local->sc.names.lookup y.1=u8 .local)) &&
  sc.names.all (λy=>decide (y.2=.free->hJ.names.lookup y.1=u8 .cell\/hJ.names.lookup y.1=u8 .free))
structure CompOk(hJ sc:F7):Prop where
 kind:sc.kind=.function
 nocell:∀y∈sc.names,y.2≠.cell
 loc:∀y∈sc.names,y.2=.local->sc.names.lookup y.1=u8 .local
 free:∀y∈sc.names,y.2=.free->hJ.names.lookup y.1=u8 .cell\/hJ.names.lookup y.1=u8 .free
def CompOk.of{hJ:F7}(h:compOk hJ sc=true):CompOk hJ sc:=by
 unfold compOk at h;rw[ES,ES,ES] at h;obtain⟨⟨⟨h1,h2⟩,h3⟩,h4⟩:=h;exact⟨vE h1,λy hy=>vE (E8.mp h2 y hy),λy hy=>vE (E8.mp h3 y hy),λy hy=>vE (E8.mp h4 y hy)⟩
noncomputable abbrev cloX(X:Cx)(scope:F7):List (Str×Addr):=cloOf X.env.cells scope.names []
noncomputable def cxComp(X:Cx)(N':vQ)(scope:F7)(fp:vU)(s:AA)(H:Hp):Cx where
 prog:=X.prog
 w:=X.w
 K:=X.K
 mg:=X.mg
 base:=X.base
 A:=X.A
 N:=N'
 s₀:=s
 H₀:=H
 env:=YV scope (cloX X scope) s.heap.objs.size X.env
 outer:=X.stack
 stack:=X.stack
 ex:=fp
 fn:=λ_=>false
 calm:=X.calm
 pn:=[]
 xe:=λ_ _=>False
def FreeAt(X:Cx)(sc:F7):vQ->vI->Prop
 | [],[]=>True
 | x::fr,j::ix=>(X.N[j]?=u8 x/\sc.names.lookup x=u8 .free)/\FreeAt X sc fr ix
 | _,_=>False
noncomputable def start2(σ:St)(own:vQ)(ix:vI):St:=Wl own.length u9++ix.map λj=>(σ[j]?).join
def Wi:∀{fr:vQ}{ix:vI},FreeAt X sc fr ix->(start2 σ own ix).length=(own++fr).length:=by
 intro fr ix h;have:fr.length=ix.length:=by
  induction fr generalizing ix with
  | nil=>cases ix with
   | nil=>rfl
   | cons _ _=>exact h.elim
  | cons x fr ihf=>cases ix with
   | nil=>exact h.elim
   | cons j ix=>simp[ihf h.2]
 simp[start2,this]
theorem Mh{X:Cx}{sc:F7}{σ:St}{x:Str}{v:V}:∀{fr:vQ}{ix:vI}{i:Nat},FreeAt X sc fr ix->fr[i]?=u8 x->(ix.map λj=>(σ[j]?).join)[i]?=u8 (u8 v) ->
  ∃j:Nat,X.N[j]?=u8 x/\σ[j]?=u8 (u8 v)/\sc.names.lookup x=u8 .free
 | [],_,_,_,h,_=>by simp at h
 | _::_,[],_,h,_,_=>h.elim
 | y::fr,j::ix,0,h,h1,h2=>by
  have e1:y=x:=by simpa using h1
  subst e1;have e2:(σ[j]?).join=u8 v:=by simpa using h2
  refine⟨j,h.1.1,?_,h.1.2⟩;cases q:σ[j]? with
  | none=>rw[q] at e2;cases e2
  | some o=>rw[q] at e2;cases o with
   | none=>cases e2
   | some z =>
         have:z=v:=by simpa using e2
         rw[this]
 | y::fr,j::ix,i+1,h,h1,h2=>Mh (fr:=fr) (ix:=ix) (i:=i) h.2 (by simpa using h1) (by simpa using h2)
def Xw(h:FreeAt X sc fr ix)(h1:(own++fr)[i]?=u8 x)(h2:(start2 σ own ix)[i]?=u8 (u8 v)) :
  ∃j:Nat,X.N[j]?=u8 x/\σ[j]?=u8 (u8 v)/\sc.names.lookup x=u8 .free:=by
 by_cases hi:i<own.length
 .unfold start2 at h2
  rw[BB (by simpa using hi),Pm,vB hi] at h2;cases h2
 .unfold start2 at h2
  rw[Cc (by simpa using hi)] at h2;rw[Cc (by simpa using hi)] at h1;exact Mh h h1 (by simpa using h2)
def PIfs(X:Cx)(fz:vR)(t:TT):Prop :=
 ∀(aI:vN) (s:AA) (σ:St) (H:Hp) (Q:Bool->Hp->Prop),Inv X aI σ H s->t σ H Q ->
  wpAny (AN X.prog X.w) X.A (forIn fz true λc r=>if r=true then do let ok <- VE c X.env (eval c X.env);pure (C1 ok) else pure (C1 r)) (TP X aI σ Q) X.xe s
def AGh:TT:=λ_ H Q=>Q true H
def Cv:PIfs X [] AGh:=λ_ _ _ H _ I h=>wpAny_tests_nil ⟨H,I,h⟩
def Cm{t:TT}(h:PT X c t):PIfs X [c] t:=λaI s σ H Q I hw=>wpAny_tests_one (h aI s σ H Q I hw)
theorem GF{dQ iter:Expr}{it acc:Au}{env:Env}(I:Nat->AA->Prop)
  (turn:∀n s,I n s->wpAny (AN prog w) A (L9 it) (λr s₁=>match r with
   | none=>R (.ok .next) s₁
   | some v=>wpAny (AN prog w) A (MO dQ it v) (λ_ s₁'=>wpAny (AN prog w) A (SU dQ env v) (λ_ s₂ =>
     wpAny (AN prog w) A (forIn fz true λc r=>if r=true then do let ok <- VE c env (eval c env);pure (C1 ok) else pure (C1 r)) (λok s₃ =>
      if ok=true then wpAny (AN prog w) A (eval gI env) (λx s₄ =>
       wpAny (AN prog w) A (call (.builtin "list.append") [acc,x]) (λ_ s₅=>∃m,m<n/\I m s₅) (λ_ _=>False) s₄) (λ_ _=>False) s₃
      else ∃m,m<n/\I m s₃) (λ_ _=>False) s₂) (λ_ _=>False) s₁') (λ_ _=>False) s₁) (λ_ _=>False) s)
  (n:Nat) (h:I n s) :
  codeAny (AN prog w) A (.compLoop (.ListComp gI [⟨dQ,iter,fz,0⟩] scope pos) 0 it acc env) R s:=by
 refine codeAny_loop rfl I (λn s hI=>?_) n h;refine wpAny_noted ?_;rw[compTurn_list];refine Ap (Mm (Ap (D9 (turn n s hI) (λr s₁ h₁=>?_) λ_ _ h'=>h'.elim)));cases r with
 | none=>exact AC h₁
 | some v =>
  refine Ap (D9 h₁ (λ_ s₁' h₁'=>?_) λ_ _ h'=>h'.elim);refine Ap (D9 h₁' (λ_ s₂ h₂=>Ap (D9 h₂ (λok s₃ h₃=>?_) λ_ _ h'=>h'.elim)) λ_ _ h'=>h'.elim);cases ok with
  | false=>exact AC ⟨ξ,h₃⟩
  | true =>
   exact Ap (Ap (D9 h₃ (λx s₄ h₄=>Ap (D9 h₄ (λ_ s₅ h₅=>AC (AC ⟨ξ,h₅⟩)) λ_ _ h'=>h'.elim)) λ_ _ h'=>h'.elim))
def Behind(X:Cx)(aI:vN)(σ:St)(R:Hp->Prop)(C:Addr)(s':AA):Prop :=
 ∃(H':Hp) (m:vM),Inv X aI σ H' s'/\s'.heap.Ns C m/\FpOk X aI H' C/\R H'
def Inv.sameBut(I:Inv X aI σ H s)(f:FpOk X aI H C)(sb:ET C s.heap h'):Inv X aI σ H {s with heap:=h'}:=by
 obtain⟨f0,f1,f2,f3,f4,f5⟩:=f;exact I.turned (t':=s.toks) (λb o hb e=>(sb.2 b hb).trans e) f0 f1 f3 f4 f5
def DX(J:It)(D:Addr)(g:TG)(tc:TT)(te:TE)(R:Hp->Prop)(τ:St)(H:Hp):Prop :=
 ∃W:Nat->Nat->St->Hp->Prop,(∃m,W 0 m τ H)/\∀i m τ H,W i m τ H ->
  (J.stop i H/\R H)\/(J.go i H/\∃N:St->Hp->Prop,(∀τ' H',N τ' H'->∃m',m'<m/\W (i+1) m' τ' H')/\∀x H',J.yld i H x H'->g x τ H' λτ2 H2=>tc τ2 H2 λb H3 =>
   if b=true then te τ2 H3 λv H4=>∃ys,H4 D=u8 (.lst ys)/\ys.length<sizeLine/\N τ2 (upd H4 D (.lst (ys++[v]))) else N τ2 H3)
section
variable{iter:Expr}{g:TG}
def YS{R:Hp->Prop}{h₁:Heap}{m0:vM}(hc:X.calm=true)(ok:CompOk X.env.scope scope)(n5:FreeAt X scope fr ix)
  (hg:PG (cxComp X (own++fr) scope fp s H) tg g) (hi:PIfs (cxComp X (own++fr) scope fp s H) fz tc) (he:PE (cxComp X (own++fr) scope fp s H) gI te)
  (I3:Inv X aI σ H s) (T:Turn X.prog X.w X.K tg J fp it tn) (eA:tn 0 s.heap) (f3:∀b∈fp,FpOk X aI H b)
  (g6:h₁.Ns s.heap.objs.size m0) (hsb:ET s.heap.objs.size (s.heap.push ob) h₁) (hq:DX J D g tc te R (start2 σ own ix) H) :
  codeAny (AN X.prog X.w) X.A (.compStart (.ListComp gI [⟨tg,iter,fz,0⟩] scope pos) 0 (.ref it) (.ref D) (YV scope (cloX X scope) s.heap.objs.size X.env))
   (λr s'=>r=.ok .next/\Behind X aI σ R s.heap.objs.size s') {s with heap:=h₁,toks:=tk}:=by
 have bv:∀b o,s.heap.get? b=u8 o->h₁.get? b=u8 o:=λb o e=>hsb.extBut b o (BF (Be e)) (AE _ e);have sub:∀x c,(cloX X scope).lookup x=u8 c->X.env.cells.lookup x=u8 c:=Ow (λx c e=>by simp at e);have kX:∀x,(x,C3)∈scope.names->X.env.kindOf x=u8 .cell\/X.env.kindOf x=u8 .free:=λx hx=>ok.free (x,.free) hx rfl;have has:∀x,(x,C3)∈scope.names->∃c,(cloX X scope).lookup x=u8 c:=λx hx=>by
  obtain⟨c,gT⟩:=I3.ok.has x (kX x hx);exact G0.mp (QZ (by rw[gT];rfl) hx)
 have lt3:∀b∈fp,b<s.heap.objs.size:=λb hb=>by
  obtain⟨o,ho,_⟩:=T.obj 0 _ eA b hb;exact Be ho
 have oe:∀b∈fp,b∉frs X.stack:=λb hb hs=>by
  rcases AY.mp (I3.stkSub b hs) with z| z
  .exact(f3 b hb).2.1 z
  .exact(f3 b hb).2.2.1 z
 have qo:∀b∈fp,∀x c,(cloX X scope).lookup x=u8 c->c≠b:=λb hb x c h=>(f3 b hb).2.2.2.2.1 x c (sub x c h);have I4:Inv (cxComp X (own++fr) scope fp s H) [] (start2 σ own ix) H {s with heap:=h₁,toks:=tk}:=by
  refine⟨⟨I3.ok.mod,ok.kind,I3.ok.glob,I3.ok.blt,AI _,?inj,?has,?cab,I3.ok.hd,I3.ok.frames,.inl rfl,?exf,I3.bs,BQ I3.ok.bsz I3.sz,?noex,oe,I3.stack,I3.stkFree⟩,
   rfl,I3.bare,Un.kept bv,⟨m0,g6,?loc⟩,?cell,I3.hok.fresh (AI _),?freeC,?pin,I3.hok.kept bv,?len⟩
  case inj=>exact λx y c h1 h2=>I3.ok.inj x y c (sub x c h1) (sub y c h2)
  case has=>exact λx hx=>has x (KQ ok.nocell hx)
  case cab=>exact λx c h=>by cases h
  case exf=>exact λb hb=>⟨BF (lt3 b hb),qo b hb⟩
  case noex =>
   intro b o e hb;rcases (f3 b hb).2.2.2.1 with z| z
   .exact I3.ok.noex b o e z
   .exact vF (Cn (Cn (Be e) I3.ok.bsz) z) (Ex _)
  case loc =>
   intro i x v e1 e2 e3;obtain⟨j,a1,a2,a3⟩:=Xw n5 e1 e2;have mem:=Hc a3;obtain⟨m,hn,hl⟩:=I3.loc;have ok1:=kX x mem;obtain⟨u,r,l⟩:=hl j x v a1 a2 (ok1.elim (λz=>.inr (.inl z)) λz=>.inr (.inr z));rcases l with⟨k,_⟩| ⟨k,c,gT,o,ho,hd⟩
   .rcases ok1 with z| z
    .rw[k] at z;cases z
    .rw[k] at z;cases z
   .obtain⟨c',uC⟩:=has x mem
    have e:=sub x c' uC;rw[gT] at e;cases e;exact⟨u,r,.inr ⟨Dz a3,c,uC,o,bv _ _ ho,hd⟩⟩
  case cell =>
   intro x c h;obtain⟨v,o,ho,hd⟩:=I3.cell x c (sub x c h);exact⟨v,o,bv _ _ ho,hd⟩
  case freeC=>exact λx c h=>I3.freeC x c (sub x c h)
  case pin=>exact λp hp=>vF (show p∈([]:vN) from hp) θ
  case len=>exact Wi n5
 have st4:=T.keep 0 _ _ eA λb _ o e=>bv b o e;have gg:∀{H':Hp},(∀b∈fp,H' b=u9)->∀b∈fp,FpOk (cxComp X (own++fr) scope fp s H) [] H' b:=λ{H'} hn b hb =>
  ⟨hn b hb,BF (lt3 b hb),oe b hb,.inl hb,qo b hb,λp hp=>vF (show p∈([]:vN) from hp) θ⟩
 obtain⟨W,⟨m1,w0⟩,turn⟩:=hq;have loop:codeAny (AN X.prog X.w) X.A (.compLoop (.ListComp gI [⟨tg,iter,fz,0⟩] scope pos) 0 (.ref it) (.ref D) (YV scope (cloX X scope) s.heap.objs.size X.env))
   (λr s'=>r=.ok .next/\Behind X aI σ R s.heap.objs.size s') {s with heap:=h₁,toks:=tk}:=by
  refine GF (λn s'=>∃i τ H',Inv (cxComp X (own++fr) scope fp s H) [] τ H' s'/\tn i s'.heap/\(∀b∈fp,H' b=u9)/\W i n τ H') ?_ m1 ⟨0,_,H,I4,st4,λb hb=>(f3 b hb).1,w0⟩;rintro n s5 ⟨i,τ5,H5,I5,sK,fr5,w5⟩;rcases turn i n τ5 H5 w5 with⟨stop,qn⟩| ⟨go,N,hN,step⟩
  .refine thn (T.done (cxComp X (own++fr) scope fp s H) rfl rfl rfl hc i [] s5 τ5 H5 _ I5 (gg fr5) sK stop) λr s6 hq=>?_
   obtain⟨hr,I6⟩:=hq;subst hr;obtain⟨m6,hn6,_⟩:=I6.loc;exact⟨ξ,H5,m6,I3.call' (ch:=fp) I6.os I6.base I6.hok I6.bare (λb hb=>⟨(f3 b hb).2.2.2.1,(f3 b hb).2.1,(f3 b hb).2.2.2.2.1,(f3 b hb).2.2.2.2.2⟩),hn6,I3.fpOk (AI _) I6.free,qn⟩
  .refine thn (T.item (cxComp X (own++fr) scope fp s H) rfl rfl rfl hc i [] s5 τ5 H5 _ I5 (gg fr5) sK go) λr s6 hq=>?_
   obtain⟨u,hr,h6⟩:=hq;subst hr;refine thn h6 λ_ s7 hq=>?_;obtain⟨x,H7,I7,r7,y7,st7,fr7⟩:=hq;have I7':=I7.pinned (gg fr7) (T.obj _ _ st7);have again:∀{τ8:St}{H8:Hp}{s8:AA},Inv (cxComp X (own++fr) scope fp s H) ([]++pinsAt fp s7.heap) τ8 H8 s8->N τ8 H8 ->
     ∃m,m<n/\∃i τ H',Inv (cxComp X (own++fr) scope fp s H) [] τ H' s8/\tn i s8.heap/\(∀b∈fp,H' b=u9)/\W i m τ H':=λ{τ8 H8 s8} I8 n8=>by
    obtain⟨m',hm,w8⟩:=hN τ8 H8 n8;refine⟨m',hm,i+1,τ8,H8,I8.unpinned,T.keep _ _ _ st7 λb hb o e=>(I8.pin (b,o) (Co _ (Co _ (Fx hb e)))).1,λb hb=>?_,w8⟩;obtain⟨o,e,d⟩:=T.obj _ _ st7 b hb;exact(I8.pin (b,o) (Co _ (Co _ (Fx hb e)))).2.1
   refine thn (hg _ s7 τ5 H7 x u _ I7' r7 (step x H7 y7)) λ_ s8 hq=>?_;obtain⟨τ8,H8,I8,q8⟩:=hq;refine thn (hi _ s8 τ8 H8 _ I8 q8) λb s9 hq=>?_;obtain⟨H9,I9,q9⟩:=hq;cases b with
   | false=>exact again I9 q9
   | true =>
    refine thn (he _ s9 τ8 H9 _ I9 q9) λuv uk hq=>?_;obtain⟨v,H10,I10,r10,ys,hD,hz,q10⟩:=hq;refine thn (DY (X:=cxComp X (own++fr) scope fp s H) _ uk τ8 H10 (.ref D) [v] (.ref D) [uv] (λ_ H'=>N τ8 H') I10 rfl (.cons r10 .nil) ⟨D,ys,v,ξ,ξ,hD,hz,q10⟩) λ_ s11 hq=>?_;obtain⟨_,H11,I11,_,q11⟩:=hq;exact again I11 q11
 exact codeAny_compStart_list loop (T.self X.A 0 _ _ _ st4 loop)
def VG{R:V->Hp->Prop}(hc:X.calm=true)(ok:CompOk X.env.scope scope)(n5:FreeAt X scope fr ix)
  (hg:∀fp s H,PG (cxComp X (own++fr) scope fp s H) tg g) (hi:∀fp s H,PIfs (cxComp X (own++fr) scope fp s H) fz tc) (he:∀fp s H,PE (cxComp X (own++fr) scope fp s H) gI te)
  (I2:Inv X aI σ H s) (T:Turn X.prog X.w X.K tg J fp it tn) (bE:tn 0 s.heap) (f2:∀b∈fp,FpOk X aI H b)
  (hq:∀D,H D=none->DX J D g tc te (R (.ref D)) (start2 σ own ix) (upd H D (.lst []))) :
  wpAny (AN X.prog X.w) X.A (newList []) (λacc s₃=>wpAny (AN X.prog X.w) X.A (newFunctionEnv scope X.env.globals (cloX X scope) [] X.env.qual u9 .none (u8 X.env)) (λuy s₄ =>
   codeAny (AN X.prog X.w) X.A (.compStart (.ListComp gI [⟨tg,iter,fz,0⟩] scope pos) 0 (.ref it) acc {uy with scope:=relabel scope X.env})
    (λr s'=>r=.ok .next/\∃v,RelV v acc/\Behind X aI σ (R v) uy.locals s') s₄) E s₃) E s:=by
 refine C0 (wpAny_newFunctionEnv ok.nocell (by intro y hy;simp at hy) (λh₁ hns₁ hsb₁=>?_) ok.kind);have hD:=I2.hok.fresh (AI _);have I3:Inv X aI σ (upd H s.heap.objs.size (.lst [])) {s with heap:=s.heap.push {cls:=.type "list",dict:=u9,data:=.seq ([]:vO).toArray}} :=
  I2.laid (t':=s.toks) (λb u e=>AE _ e) (AI _) ⟨Bz _,[],0,.nil,AQ _ rfl⟩
 have eA:tn 0 (s.heap.push {cls:=.type "list",dict:=u9,data:=.seq ([]:vO).toArray}):=T.keep 0 _ _ bE λb _ o e=>AE _ e;have f3:∀b∈fp,FpOk X aI (upd H s.heap.objs.size (.lst [])) b:=λb hb=>by
  obtain⟨f0,fr⟩:=f2 b hb;obtain⟨o,ho,_⟩:=T.obj 0 _ bE b hb;exact⟨by rw[Ag (BF (Be ho))];exact f0,fr⟩
 refine EU (YS (R:=R (.ref s.heap.objs.size)) (D:=s.heap.objs.size) hc ok n5 (hg _ _ _) (hi _ _ _) (he _ _ _) I3 T eA f3 hns₁ hsb₁ (hq _ hD)) λr s' ⟨e,b⟩=>⟨e,V.ref s.heap.objs.size,ξ,b⟩
def AGT(own:vQ)(ix:vI)(wi:TI)(g:TG)(tc:TT)(te:TE):TE:=λσ H Q=>wi σ H λJ H1=>∀D,H1 D=none->DX J D g tc te (Q (.ref D)) (start2 σ own ix) (upd H1 D (.lst []))
end
section
variable{iter:Expr}{g:TG}{wi:TI}
def Pn(I:Inv X aI σ H s)(ok:CompOk X.env.scope scope):∀y∈scope.names,y.2=.free->(X.env.cells.lookup y.1).isSome=true:=λy hy hf=>by
 obtain⟨c,h⟩:=I.ok.has y.1 (ok.free y hy hf);rw[h];rfl
def Bu(hJ:F7)(own fr:vQ)(ix:vI)(hc:X.calm=true)(ho:X.env.scope=hJ)(hok:compOk hJ scope=true)(n5:FreeAt X scope fr ix)(br:PI X tg iter wi)
  (hg:∀fp s H,PG (cxComp X (own++fr) scope fp s H) tg g) (hi:∀fp s H,PIfs (cxComp X (own++fr) scope fp s H) fz tc) (he:∀fp s H,PE (cxComp X (own++fr) scope fp s H) gI te)
  (hs:autoParam (∀x,Oy iter X.env x=pure x) zA2._auto_1):PE X (.ListComp gI [⟨tg,iter,fz,0⟩] scope pos) (AGT own ix wi g tc te):=by
 intro aI s σ H Q I h;have ok:=CompOk.of (ho ▸ hok);rw[eval_ListComp];refine O4 (use:=u9) rfl hs (ADp (Pn I ok)) ok.kind ok.loc (thn (br aI s σ H _ I h) λxv s₁ h₁=>thn h₁ λitv s₂ h₂=>?_);obtain⟨it,fp,tn,J,H2,rfl,I2,T,bE,f2,hq⟩:=h₂;refine thn (VG (R:=Q) hc ok n5 hg hi he I2 T bE f2 hq) λacc s₃ h₃=>thn h₃ λuy s₄ h₄=>EU h₄ λr s' hq=>?_;obtain⟨hr,v,rv,H',m,I',hn,tQ,q⟩:=hq;subst hr;exact⟨m,hn,λh' sb=>⟨v,H',I'.sameBut tQ sb,rv,q⟩⟩
set_option tactic.hygienic true in
theorem Yj{uR:Pos}(hJ:F7)(own fr:vQ)(ix:vI)(hN:X.N.Nodup)(hx:X.N[i]?=u8 x)(hl:Loc X.env.scope x)(hc:X.calm=true)(ho:X.env.scope=hJ)(hok:compOk hJ scope=true)(n5:FreeAt X scope fr ix)(br:PI X tg iter wi)
  (hg:∀fp s H,PG (cxComp X (own++fr) scope fp s H) tg g) (hi:∀fp s H,PIfs (cxComp X (own++fr) scope fp s H) fz tc) (he:∀fp s H,PE (cxComp X (own++fr) scope fp s H) gI te)
  (hsw:autoParam (MA (.ListComp gI [⟨tg,iter,fz,0⟩] scope pos) (u8 (.Name x bX)) uR.line X.env=pure true) zA0._auto_1) (hs:autoParam (∀x,Oy iter X.env x=pure x) zA2._auto_1)
  (hf:autoParam (X.fn x=true\/X.env.scope.names.lookup x=u8 .local) zB1._auto_1) :
  PS X (.Assign [.Name x bX] (.ListComp gI [⟨tg,iter,fz,0⟩] scope pos) uR) (AFv (AGT own ix wi g tc te) (gName i)):=by
 intro aI s σ H D I h;have ok:=CompOk.of (ho ▸ hok);rw[exec_Assign_Name_used _ _ _ _ hsw];refine Ap (Mm (Ap ?_));refine Ap (D9 (O4 (use:=u8 (SU (.Name x bX) X.env)) (Q:=λ_ s'=>SP X aI D .next s') rfl hs (ADp (Pn I ok)) ok.kind ok.loc
  (thn (br aI s σ H _ I h) λxv s₁ h₁=>thn h₁ λitv s₂ h₂=>?_)) (λ_ s' hq=>AC (AC hq)) λ_ _ e=>e)
 obtain⟨it,fp,tn,J,H2,rfl,I2,T,bE,f2,hq⟩:=h₂;refine thn (VG (R:=λv H'=>D.nx (σ.set i (u8 v)) H') hc ok n5 hg hi he I2 T bE f2 hq) λacc s₃ h₃=>thn h₃ λuy s₄ h₄=>EU h₄ λr s' hq=>?_;obtain⟨hr,v,rv,H',m,I',hn,tQ,q⟩:=hq;subst hr;refine TL (PL I' hN hx hl rv (λuI I'' jv=>?_) hf);obtain⟨a,sb,ha⟩:=jv;have hCa:uy.locals≠a:=by
  rcases ha with z| z
  .rw[z];exact tQ.2.1
  .exact λe=>tQ.2.2.2.2.1 x a z e.symm
 exact⟨m,hn.sameBut sb hCa,λh' sb'=>⟨_,H',I''.sameBut tQ sb',q⟩⟩
end
def JB{items}{x:Au}(br:s.heap.IsTupleIter it l i)
  (hl:s.heap.IsTuple l items) (hx:items[i]?=u8 x)
  (hQ:∀h',h'.IsTupleIter it l (i+1)->ET it s.heap h'->Q x {s with heap:=h'}) :
  wpAny (AN prog w) A (IG (.ref it)) Q E s:=by
 obtain⟨o,ho,hc,hd⟩:=id br;obtain⟨ol,gm,_,nl,sG⟩:=hl;unfold IG;refine Ap (wpAny_callSpecial?_slot (name:=HK "__next__") br.typeIs Ix
  (DM Ix br.typeIs NU ?_ (Nw _)))
 show wpAny _ _ (field (.ref it) 0 >>= _) _ _ s;refine Ap (Lc ho hd (x:=.ref l) rfl ?_);rw[vA (show ¬ ((A7 l==Db)=true) from BE)];refine Ap (Lc ho hd (x:=.int i 0) rfl ?_);refine Ap (IQ gm sG ?_);simp only[B9,hx];refine Ap (IR ho hd θ (AC ⟨x,ξ,AC (hQ _ ?_ (Ee ..))⟩));exact⟨_,Ev _ ho (KB (E9 hd _)),(LY ..).trans hc,by
  rw[E9 hd];simp[EZ]⟩
def Jh{items}(hh:A.handled=u9)
  (br:s.heap.IsTupleIter it l i) (hl:s.heap.IsTuple l items) (hx:items[i]?=u9)
  (hE:∀h' e,UD it s.heap h'->(∃o,h'.get? e=u8 o/\o.cls=.type "StopIteration")->E (.ref e) {s with heap:=h'}) :
  wpAny (AN prog w) A (IG (.ref it)) Q E s:=by
 obtain⟨o,ho,hc,hd⟩:=id br;obtain⟨ol,gm,_,nl,sG⟩:=hl;unfold IG;refine Ap (wpAny_callSpecial?_slot (name:=HK "__next__") br.typeIs Ix
  (DM Ix br.typeIs NU ?_ (Nw _)))
 show wpAny _ _ (field (.ref it) 0 >>= _) _ _ s;refine Ap (Lc ho hd (x:=.ref l) rfl ?_);rw[vA (show ¬ ((A7 l==Db)=true) from BE)];refine Ap (Lc ho hd (x:=.int i 0) rfl ?_);refine Ap (IQ gm sG ?_);simp only[B9,hx];refine Ap (IH (Ap (IR ho hd θ ?_)));refine Ap ?_;refine Ap (C0 ?_ (by size_fits));refine Ap (m:=KF _ _) (Lm (a:=Db) (by first| rfl| (simp only[KF];rfl)) ?_);refine C0 ?_ (by size_fits);refine Ap (Sk ?_)
 first| rw[show A.in1.handled=u9 from hh]| rw[hh]
 refine Ap (AC (UE ?_));exact hE _ _ (((Ee ..).extBut.push _).push _) ⟨_,AQ _ rfl,ξ⟩
def KC(hh:A.handled=u9)(it l:Addr)(cS:l≠it)(items:vP) :
  XY prog w A it [it,l] items.size (λi v=>items[i]?=u8 v) (λi h=>h.IsTupleIter it l i/\h.IsTuple l items) where
 live:=λ_ _ st=>by obtain⟨o,ho,_⟩:=st.1;exact⟨o,ho⟩
 frame:=λ_ _ _ st hk=>⟨st.1.at λo e=>hk it θ o e,st.2.at λo e=>hk l θ o e⟩
 item:=λi s Q E hi st hQ=>by
  refine JB st.1 st.2 (x:=items[i]) (by simp[hi]) λh' iL lT=>?_;exact hQ _ h' s.toks (by simp[hi]) ⟨iL,st.2.extBut lT.extBut cS⟩ lT
 done:=λs Q E st hE=>Jh hh st.1 st.2 θ hE
section
open AutoSeq1 (wpAny_loadPart')
set_option tactic.hygienic true in
theorem Gd(l:Addr)(items:vP)(n:Nat)(kS:Option Addr)(sl:Array vS) :
  Meets (Builtin.«enumerate.__new__» ⟨[.type "enumerate",.ref l],[]⟩) (λ_ R s=>s.heap.get? l=u8 {cls:=.type "tuple",dict:=kS,data:=.seq items n,slots:=sl} /\
   R (.ok (.ret (.ref (s.heap.push {cls:=.type "tuple_iterator",data:=.fields #[.ref l,.int 0 0]}).objs.size)))
    {s with heap:=(s.heap.push {cls:=.type "tuple_iterator",data:=.fields #[.ref l,.int 0 0]}).push {cls:=.type "enumerate",data:=.fields #[.none,.bool false,.ref s.heap.objs.size,EZ 0,.none,.none]}}) :=
 .of_wp λprog w A R s h=>by
  obtain⟨hp,g,d,tk,os⟩:=s;obtain⟨hl,h⟩:=h;have iE:=Sm;have hL:YY (UF ⟨hp,g,d,tk,os⟩) l items:=⟨_,hl,ξ,n,ξ⟩
  wp_walk using wpAny_loadPart' hl
  refine PQ λst=>AC ?_;split
  .rename_i c _ _ _ _ _
   cases (c==CM "enumerate")
   .wp_walk using wpAny_loadPart' hl,E3 hL
    exact⟨_,ξ,h⟩
   .wp_walk using wpAny_loadPart' hl,E3 hL
    exact⟨_,ξ,h⟩
  .wp_walk using wpAny_loadPart' hl,E3 hL
   exact⟨_,ξ,h⟩
end
def Gp(hL:s.heap.IsTuple l items)
  (h:∀h',K7 h' (s.heap.objs.size+1) s.heap.objs.size 0 .none->h'.IsTupleIter s.heap.objs.size l 0->h'.objs.size=s.heap.objs.size+2 ->
   (∀b o,s.heap.get? b=u8 o->h'.get? b=u8 o)->Q (.ref (s.heap.objs.size+1)) {s with heap:=h'}) :
  wpAny (AN prog w) A (call (.type "enumerate") [.ref l]) Q E s:=by
 obtain⟨⟨c,kS,dt,sl⟩,hl,hc,n,hd⟩:=hL
 replace hc:c=.type "tuple":=hc
 replace hd:dt=.seq items n:=hd
 subst hc hd;refine callType_new F.called_enumerate ζ (F.typeCall_enumerate_1 _) (F.newCall_enumerate_1 _) (λobj=>F.args_object_init_2 obj _) F.entry_enumerate_new
  (Gd l items n kS sl) ⟨hl,?_⟩
 have hz:(s.heap.push {cls:=.type "tuple_iterator",data:=.fields #[.ref l,.int 0 0]}).objs.size=s.heap.objs.size+1:=DL ..;rw[hz];have he:K7 ((s.heap.push {cls:=.type "tuple_iterator",data:=.fields #[.ref l,.int 0 0]}).push
   {cls:=.type "enumerate",data:=.fields #[.none,.bool false,.ref s.heap.objs.size,EZ 0,.none,.none]}) (s.heap.objs.size+1) s.heap.objs.size 0 .none:=by
  have:=AQ (s.heap.push {cls:=.type "tuple_iterator",data:=.fields #[.ref l,.int 0 0]})
   (o:={cls:=.type "enumerate",data:=.fields #[.none,.bool false,.ref s.heap.objs.size,EZ 0,.none,.none]}) rfl
  rw[hz] at this;exact this
 refine⟨⟨_,he,ξ⟩,h _ he ⟨_,AE _ (AQ _ rfl),ξ,ξ⟩ (by rw[DL,hz]) λb o x=>AE _ (AE _ x)⟩
def Inv.walked(I:Inv X aI σ H s)(k:∀b o,b∉wr->s.heap.get? b=u8 o->h'.get? b=u8 o)(hf:∀b∈wr,FpOk X aI H b):Inv X aI σ H {s with heap:=h',toks:=t'}:=by
 have uG:∀b u,H b=u8 u->b∉wr:=λb u e z=>by rw[(hf b z).1] at e;cases e
 refine I.step (g':=s.gens) (d':=s.drawn) (ch:=wr) (λb hb=>?_) (λb o _ _ hc e _=>k b o hc e) (λb o _ _ hc e _=>⟨o.slots,k b o hc e⟩) (λ_ _ _ _ n=>n)
  (λb o hc e=>⟨o,k b o hc e⟩) (λ_ _ e=>e) (λ_ _ _ e=>e) (λb ps e=>⟨#[],by rw[e];simp⟩) (λm hm=>?_) (λb u e=>?_) I.bare
 .obtain⟨f0,f1,f2,f3,f4,f5⟩:=hf b hb
  exact⟨f3,f1,f4,f5⟩
 .obtain⟨o,es,ep,ho,r⟩:=hm
  exact⟨o,es,ep,k _ o (λz=>(hf _ z).2.1 rfl) ho,r⟩
 .refine(I.hok b u e).stay (λc v hc q=>k c v ?_ q) (λ_ q=>q) λ_ _ q=>q
  rcases hc with z| z
  .rw[z];exact uG b u e
  .exact uG c _ z
def Inv.track{o:HO}(I:Inv X aI σ H s)(f:FpOk X aI H a)(new:ObjOk X.prog X.w (upd H a o) s.heap a o):Inv X aI σ (upd H a o) s:=by
 obtain⟨f0,f1,f2,f3,f4,f5⟩:=f;have ne:∀b u,H b=u8 u->b≠a:=λb u e z=>by rw[z,f0] at e;cases e
 obtain⟨hh,g,d,t,os⟩:=s;refine I.step (h':=hh) (g':=g) (d':=d) (t':=t) (ch:=[a]) (λb hb=>?_) (λb o _ _ _ e _=>e) (λb o _ _ _ e _=>⟨o.slots,e⟩) (λb o hc _ n=>?_) (λb o _ e=>⟨o,e⟩)
  (λb xs e=>?_) (λb u xs e=>?_) (λb ps e=>⟨#[],?_⟩) (λm hm=>hm) (λb u e=>?_) I.bare
 .have e:b=a:=by simpa using hb
  subst e;exact⟨f3,f1,f4,f5⟩
 .rw[Ag (λz=>hc (by simp[z]))];exact n
 .rw[Ag (ne b _ e)];exact e
 .rw[Ag (ne b _ e)];exact e
 .rw[Ag (ne b _ e),e];simp
 .by_cases hb:b=a
  .subst hb;rw[Ab] at e;cases e;exact new
  .rw[Ag hb] at e
   exact(I.hok b u e).stay (λ_ _ _ q=>q) (λc q=>by rw[Ag (ne c _ q)];exact q) λc xs q=>by rw[Ag (ne c _ q)];exact q
def Ien(S:Hp->List V->Prop):It :=
 ⟨λi H=>∃xs x,S H xs/\xs[i]?=u8 x,λi H v H'=>∃T x,v=.ref T/\H T=u9/\H'=upd H T (.tup [.int i,x])/\∀xs,S H xs->xs[i]?=u8 x,λi H=>∃xs,S H xs/\xs.length=i⟩
def ABS{k:Nat}{S:Hp->List V->Prop}{e l:Addr}
  (g7:e≠it)
  (obj:∀i h,St0 i h->∃o,h.get? it=u8 o/\∀v,o.data≠.cell v)
  (keep:∀i h h',St0 i h->(∀o,h.get? it=u8 o->h'.get? it=u8 o)->St0 i h')
  (tM:∀(X:Cx),X.prog=P->X.w=w->X.K=K->X.calm=true->∀(i:Nat) (aI:vN) (s:AA) (σ:St) (H:Hp) (xs:List V),Inv X aI σ H s->St0 i s.heap->(∃bv,K7 s.heap e it i bv)->S H xs ->
   ∃(a5:vO) (fp:vU) (St:Nat->Heap->Prop),Vals xs a5/\XY P w X.A.in1 it fp a5.toArray.size (λi v=>a5.toArray[i]?=u8 v) St/\St i s.heap/\e∉fp/\it∈fp/\(∀j h,St j h->St0 j h))
  (inj:∀(X:Cx),X.K=K->∀(aI:vN) (s:AA) (σ:St) (H:Hp) (xs ys:List V),Inv X aI σ H s->S H xs->S H ys->xs=ys) :
  Turn P w K (.Tuple cw k tp) (Ien S) [e,it] e (λi h=>(∃bv,K7 h e it i bv)/\St0 i h) where
 mem:=by simp
 obj:=λi h st b hb=>by
  obtain⟨⟨bv,he⟩,hs⟩:=st;rcases AY.mp hb with rfl| hb
  .exact⟨_,he,λv z=>by
    have z':=z;cases z'⟩
  .have e1:b=it:=by simpa using hb
   subst e1;exact obj i h hs
 keep:=λi h h' st k=>⟨by obtain⟨bv,he⟩:=st.1;exact⟨bv,k e θ _ he⟩,keep i h h' st.2 λo q=>k it θ o q⟩
 item:=by
  intro X hP hw hK hc i aI s σ H E I hf st hg;obtain⟨xs,x,hq,hx⟩:=hg;obtain⟨a5,fp,St,rv,Dr,dS,sf,rq,fk⟩:=tM X hP hw hK hc i aI s σ H xs I st.2 st.1 hq;subst hP hw;obtain⟨u,hu,ru⟩:=rv.get hx;have hi:i<a5.toArray.size:=by rw[AO];exact(AG.mp hu).1
  have fi:a5.toArray[i]?=u8 u:=by simpa using hu
  have WT:=LZ Dr e g7 sf rq;refine WT.item i s _ _ hi ⟨st.1,dS⟩ λT vals h' tk hPt hsz hT kN hk=>⟨.ref T,ξ,?_⟩;obtain⟨t,y,hy,rfl⟩:=hPt;have hTw:=WT.apart i T _ kN;rw[fi] at hy;have ue:=AM hy;subst ue;have hwr:=hf;have I1:Inv X aI σ H {s with heap:=h',toks:=tk}:=I.walked hk hwr;have uD:=I.hok.fresh hsz;have I2:Inv X aI σ (upd H T (.tup [.int i,x])) {s with heap:=h',toks:=tk}:=by
   refine I1.track (I.fpOk hsz uD) ⟨by show 2<=sizeLine;decide,[.int i t,u],.cons ⟨t,ξ⟩ (.cons ru .nil),?_⟩;exact hT
  have kF:∀b∈[e,it],FpOk X aI (upd H T (.tup [.int i,x])) b:=λb hb=>by
   obtain⟨f0,fr⟩:=hf b hb;have ne:b≠T:=λz=>hTw (by rw[<- z];exact hb);exact⟨by rw[Ag ne];exact f0,fr⟩
  refine WT.go cw k tp i T _ _ _ kN λh'' fo rh=>?_;refine⟨.ref T,_,I2.walked (t':=tk) rh kF,ξ,⟨T,x,ξ,uD,ξ,λys hy=>by rw[inj X hK aI s σ H ys xs I hy hq];exact hx⟩,⟨fo.1,fk _ _ fo.2⟩,λb hb=>(kF b hb).1⟩
 done:=by
  intro X hP hw hK hc i aI s σ H E I hf st hg;obtain⟨xs,hq,hx⟩:=hg;obtain⟨a5,fp,St,rv,Dr,dS,sf,rq,fk⟩:=tM X hP hw hK hc i aI s σ H xs I st.2 st.1 hq;subst hP hw;have hl:=rv.length;have hi:i=a5.toArray.size:=by rw[AO];exact y8 hx hl
  subst hi;exact(LZ Dr e g7 sf rq).done s _ _ ⟨st.1,dS⟩ λh' tk hk=>⟨ξ,I.walked hk hf⟩
 self:=λA i s Q E st h=>by
  obtain⟨⟨bv,he⟩,_⟩:=st;exact Kn he h
def Ja{u:Obj}(ha:h.get? a=u8 o)(hb:h.get? b=u8 u)(hc:o.cls≠u.cls):a≠b:=λe=>by
 subst e;rw[ha] at hb;cases hb;exact hc rfl
def Wm{k:Nat}{e:Addr}(g7:e≠it) :
  Turn P w K (.Tuple cw k tp) (Ien λH xs=>SqT K H a xs) [e,it] e (λi h=>(∃bv,K7 h e it i bv)/\h.IsTupleIter it a i):=by
 refine ABS (l:=a) g7 (λi h st=>?_) (λi h h' st k=>st.at k) (λX hP hw hK hc i aI s σ H xs I st he hq=>?_) (λX hK aI s σ H xs ys I h1 h2=>?_)
 .obtain⟨o,e,c,d⟩:=st
  exact⟨o,e,λv z=>by rw[d] at z;cases z⟩
 .subst hP hw hK
  obtain⟨a5,rv,p,hz⟩:=I.tuple hq;obtain⟨bv,he⟩:=he;obtain⟨ol,gm,gT,_⟩:=id p;obtain⟨oi,l8,sw,_⟩:=id st;have h1:=Ja gm l8 (by rw[gT,sw];decide);have h2:=Ja he gm (by rw[gT];show CM "enumerate"≠CM "tuple";decide);exact⟨a5,[it,a],_,rv,KC (A:=X.A.in1) (I.ok.hd hc) it a h1 a5.toArray,⟨st,p⟩,by simp[g7,h2],θ,λj h z=>z.1⟩
 .subst hK
  exact I.tuple_inj h1 h2
section
variable{k:Nat}
def AIv(K:As)(ta:TA):TI:=λσ H R=>ta σ H λvs H1=>∃a,vs=[.ref a]/\(∃xs,SqT K H1 a xs)/\R (Ien λH xs=>SqT K H a xs) H1
def VR{l:Expr}{ta:TA}{p:Pos}(hg:Gl X "enumerate")(hm:X.mg "enumerate" = u9)(ha:PA X [l] ta)(hs:autoParam (B3 [l] X.env=[(false,eval l X.env)]) zA0._auto_1) :
  PI X (.Tuple cw k tp) (.Call (.Name "enumerate" p) [l] [] pos) (AIv X.K ta):=by
 intro aI s σ H R I h;refine Call_ (El I hg hm WC (DT (thn (ha pos aI s σ H _ I h) λus s1 hq=>?_) hs rfl));obtain⟨vs,H1,I1,r1,q1⟩:=hq;obtain⟨a,rfl,⟨xs,hq⟩,q⟩:=q1;obtain⟨u,rfl,ru⟩:=r1.one;cases ru;obtain⟨a5,rv,pl,hz⟩:=I1.tuple hq;refine Gp pl λh' he br hsz hk=>Kn he ?_;have I2:=I1.kept (t':=s1.toks) hk;refine⟨s1.heap.objs.size+1,[s1.heap.objs.size+1,s1.heap.objs.size],_,_,H1,ξ,I2,Wm (O5 _),⟨⟨_,he⟩,br⟩,λb hb=>?_,q⟩;have e:s1.heap.objs.size<=b:=by
  rcases AY.mp hb with rfl| hb
  .exact Ki _
  .rw[B8.mp hb];exact AI _
 exact I1.fpOk e (I1.hok.fresh e)
end
def Iv{g:TG}{R:Hp->Prop}(n:Nat)(Pv:Nat->St->Hp->Prop)(h0:Pv 0 τ H)(hgo:∀i τ H,i<n->Pv i τ H->J.go i H)(t8:∀τ H,Pv n τ H->J.stop n H)
  (hs:∀i τ H x H',i<n->Pv i τ H->J.yld i H x H'->g x τ H' λτ2 H2=>tc τ2 H2 λb H3=>if b=true then te τ2 H3 λv H4=>∃ys,H4 D=u8 (.lst ys)/\ys.length<sizeLine/\Pv (i+1) τ2 (upd H4 D (.lst (ys++[v]))) else Pv (i+1) τ2 H3)
  (hd:∀τ H,Pv n τ H->R H):DX J D g tc te R τ H:=by
 refine⟨λi m τ H=>m=n-i/\i<=n/\Pv i τ H,⟨n,θ,Bz _,h0⟩,?_⟩;rintro i m τ H ⟨rfl,hi,p⟩;by_cases ce:i<n
 .exact .inr ⟨hgo i τ H ce p,Pv (i+1),λτ' H' p'=>⟨n-(i+1),wL ce,ξ,ce,p'⟩,λx H' y=>hs i τ H x H' ce p y⟩
 .have e:i=n:=wB hi ce
  subst e;exact .inl ⟨t8 τ H p,hd τ H p⟩
def Og{Q:vO->AA->Prop}(hl:s.heap.IsTuple l vs.toArray)
  (h:Q vs {s with heap:=(s.heap.push (DH "list" #[] 0)).update s.heap.objs.size (CO (·++vs.toArray))}) (hsz:vs.length<=sizeLine:=by size_fits) :
  wpAny (AN prog w) A (Q1 (.ref l)) Q E s:=by
 obtain⟨o,ho,hc,n,hd⟩:=id hl;unfold Q1;refine Ap (NA (D5 entry_proto_collect' ?_));refine Ap (Mn (AC ⟨NV _ ψ,D5 entry_list_iadd' ?_⟩));show wpAny _ _ (DU (.ref s.heap.objs.size) (.ref l) (.ref s.heap.objs.size)) _ _ {s with heap:=s.heap.push (DH "list" #[] 0)};unfold DU;have fh:(s.heap.push (DH "list" #[] 0)).get? l=u8 o:=AE _ ho;refine Ap (KA (T:="tuple") ⟨o,fh,hc⟩ ?_);have ht:(CM "tuple" == CM "tuple")=true:=by rfl
 rw[vB (by rw[ht];simp)];refine Ap (O6 fh hd ?_);refine Ap (O6 (xs:=#[]) (n:=0) (AQ _ rfl) rfl ?_);rw[vA θ];refine Ap (N7 (xs:=#[]) (n:=0) (AQ _ rfl) rfl ?_ (Bz _) (by simp only[Array.size_append,AO,HU];lia));refine AC ?_;show wpAny (AN prog w) A (do
   let o <- load s.heap.objs.size
   match o.data with
   | .seq xs _=>pure xs.toList
   | _=>unsupported "internal:collect") Q E {s with heap:=(s.heap.push (DH "list" #[] 0)).update s.heap.objs.size (CO (·++vs.toArray))}
 refine Ap (RF (get?_update_seq (AQ _ rfl) _) ?_);show wpAny _ _ (pure ((#[]:vP)++vs.toArray).toList) Q E _;rw[show((#[]:vP)++vs.toArray).toList=vs by simp];exact AC h
def Qp(hl:s.heap.IsTuple l vs.toArray)(hI:F4 vs ns)(tI:vs.length<64)
  (h:∀(out:vP) (jb:vG),F4 out.toList jb->jb.Perm ns->jb.Pairwise (·<=·)->Q (.ref (s.heap.objs.size+1)) {s with heap:=sortedAll s.heap vs out}) :
  wpAny (AN prog w) A (call (.builtin "sorted") [.ref l]) Q E s:=by
 refine IJ UH S3 S4 (S5 _) ?_;unfold O7;refine Ap (m:=VS "sorted" 1 1 _) (AC ?_);refine Ap (Og hl ?_ (by
                       have:(64:Nat)<=sizeLine:=by decide
                       exact xX tI this))
 refine Ap (Mn ?_);have hsz:((s.heap.push (DH "list" #[] 0)).update s.heap.objs.size (CO (·++vs.toArray))).objs.size=s.heap.objs.size+1:=by
  rw[U0,size_push']
 have i8:(((s.heap.push (DH "list" #[] 0)).update s.heap.objs.size (CO (·++vs.toArray))).push (DH "list" vs.toArray 0)).get? (s.heap.objs.size+1)=u8 (DH "list" vs.toArray 0):=by
  rw[<- hsz];exact AQ _ rfl
 rw[hsz];refine Ap (Dx (DM Q2 ⟨_,i8,ξ⟩ PU (list_sort_tree i8 hI tI λout jb a1 a2 a3=>⟨_,ξ,?_⟩) (Q3 _)));exact AC ⟨_,ξ,h out jb a1 a2 a3⟩
def AGA(K:As):List V->Hp->VK->Prop:=λxs H Q=>∃(p:Addr) (ns:vG),xs=[.ref p]/\(SqL K H p (ns.map V.int)\/SqT K H p (ns.map V.int))/\ns.length<64/\∀(l:Addr) (ms:vG),H l=none->ms.Perm ns->ms.Pairwise (·<=·)->Q (.ref l) (upd H l (.lst (ms.map V.int)))
def TX:∀{us:vO}{ns:vG},F4 us ns->Vals (ns.map V.int) us:=by
 intro vs ns h
 induction h with
 | nil=>exact .nil
 | cons n t h ih=>exact .cons ⟨t,ξ⟩ ih
def GZ:CallR X (.builtin "sorted") (AGA X.K):=by
 intro aI s σ H xs us Q I r h;obtain⟨p,ns,rfl,hq,tI,q⟩:=h;obtain⟨u,rfl,ru⟩:=r.one;cases ru;have fin:∀(a5:vO) (out:vP) (ms:vG),F4 out.toList ms->ms.Perm ns->ms.Pairwise (·<=·)->EP X aI σ Q (.ref (s.heap.objs.size+1)) {s with heap:=sortedAll s.heap a5 out}:=λa5 out ms a1 a2 a3=>by
  obtain⟨e,he⟩:=sortedAll_at s.heap a5 out;have hn:=I.hok.fresh (Ki _);have hv:=TX a1;have hms:=a2.length_eq;refine⟨.ref (s.heap.objs.size+1),_,I.laid (a:=s.heap.objs.size+1) (o:=.lst (ms.map V.int)) (t':=s.toks) (λb o=>sortedAll_old) (Ki _) ⟨?_,out.toList,e,hv,?_⟩,ξ,q _ ms hn a2 a3⟩
  .rw[AB,hms]
   exact BQ (D7 tI) ζ
  .rw[RU]
   exact he
 rcases hq with hq| hq
 .obtain⟨a5,rv,pl,hz⟩:=I.list hq
  have hl:=rv.length;rw[AB] at hl;exact sorted_ints pl.isList (intsAre_of rv) (xt tI hl) λout ms a1 a2 a3=>fin a5 out ms a1 a2 a3
 .obtain⟨a5,rv,pl,hz⟩:=I.tuple hq
  have hl:=rv.length;rw[AB] at hl;exact Qp pl (intsAre_of rv) (xt tI hl) λout ms a1 a2 a3=>fin a5 out ms a1 a2 a3
abbrev Rep(α:Type):=Hp->α->V->Prop
def rInt:Rep Int:=λ_ i v=>v=.int i
def rTup(K:As){α:Type}(R:Rep α):Rep (List α):=λH as v=>∃p xs,v=.ref p/\SqT K H p xs/\A9 (R H) as xs
def rLst(K:As){α:Type}(R:Rep α):Rep (List α):=λH as v=>∃p xs,v=.ref p/\SqL K H p xs/\A9 (R H) as xs
theorem Paired.get{F:α->β->Prop}:∀{l₁:List α}{l₂:List β}{i:Nat}{b:β},A9 F l₁ l₂->l₂[i]?=u8 b->∃a,l₁[i]?=u8 a/\F a b
 | _,_,_,_,.nil,e=>by simp at e
 | _,_,0,_,.cons r _,e=>by simp at e;subst e;exact⟨_,ξ,r⟩
 | _,_,i+1,b,.cons _ t,e=>by
  obtain⟨a,h1,h2⟩:=Paired.get (i:=i) (b:=b) t (by simpa using e);exact⟨a,by simpa using h1,h2⟩
def vZ{F:α->β->Prop}:∀{l₁:List α}{l₂:List β}{i:Nat}{a:α},A9 F l₁ l₂->l₁[i]?=u8 a->∃b,l₂[i]?=u8 b/\F a b:=by
 intro l m i a h
 induction h generalizing i with
 | nil=>intro e;simp at e
 | cons r t ih =>
  intro e;cases i with
  | zero=>simp at e;subst e;exact⟨_,ξ,r⟩
  | succ i =>
   obtain⟨b,h1,h2⟩:=ih (i:=i) (by simpa using e);exact⟨b,by simpa using h1,h2⟩
def Paired.app{F:α->β->Prop}:∀{l₁ m₁:List α}{l₂ m₂:List β},A9 F l₁ l₂->A9 F m₁ m₂->A9 F (l₁++m₁) (l₂++m₂):=by
 intro l l' m m' h s
 induction h with
 | nil=>exact s
 | cons r t ih=>exact .cons r ih
def vg:=@Paired.app
def Paired.one{F:α->β->Prop}{a:α}{b:β}(h:F a b):A9 F [a] [b]:=.cons h .nil
def vh:=@Paired.one
def va{F:α->β->Prop}(fn:∀a a' b,F a b->F a' b->a=a'):∀{l₁ l₁':List α}{l₂:List β},A9 F l₁ l₂->A9 F l₁' l₂->l₁=l₁':=by
 intro l l' m h
 induction h generalizing l' with
 | nil=>intro h;cases h;rfl
 | cons r t ih=>intro h;cases h with| cons r' t'=>rw[fn _ _ _ r r',ih t']
theorem paired_ints{H:Hp}:∀(ns:vG),A9 (rInt H) ns (ns.map V.int)
 | []=>.nil
 | _::r=>.cons rfl (paired_ints r)
def Gm:∀{ns:vG}{xs:List V},A9 (rInt H) ns xs->xs=ns.map V.int:=by
 intro ns xs h
 induction h with
 | nil=>rfl
 | cons r t ih=>rw[BO,<- ih];exact congrArg (·::_) r
structure Dat(X:Cx){α:Type}[DecidableEq α](n:Nat)(R:Rep α):Prop where
 eq:∀(aI:vN) (s:AA) (σ:St) (H:Hp) (A:BM) (a b:α) (x y:V) (u v:Au),Inv X aI σ H s->A.units+n<Cs->R H a x->R H b y->RelV x u->RelV y v->LP A s u v (decide (a=b))
 fn:∀(aI:vN) (s:AA) (σ:St) (H:Hp) (a b:α) (x:V),Inv X aI σ H s->R H a x->R H b x->a=b
section
variable[DecidableEq α]{R:Rep α}
def Cy:Dat X 0 rInt where
 eq:=λaI s σ H A a b x y u v I hu ha hb ru rv=>by
  cases ha;cases hb;obtain⟨t,rfl⟩:=ru;obtain⟨t',rfl⟩:=rv;have e:=LH (A:=A) (s:=s) a t b t';rw[MD] at e;exact e
 fn:=λaI s σ H a b x I ha hb=>by
  cases ha;exact(V.int.inj hb)
def Fe{as bs:List α}{k:Nat}(h1:as.length=m)(h2:bs.length=k):((AX (min m k)).all (λj=>decide (as[j]?=bs[j]?))&&m==k)=decide (as=bs):=by
 subst h1;subst h2;by_cases e:as=bs
 .subst e
  simp
 .rw[vD e]
  cases q:((AX (min as.length bs.length)).all (λj=>decide (as[j]?=bs[j]?))&&as.length==bs.length) with
  | false=>rfl
  | true =>
   rw[ES] at q;obtain⟨q1,q2⟩:=q;have hl:as.length=bs.length:=by simpa using q2
   refine vF (FF λj=>?_) e;by_cases hj:j<as.length
   .exact vE (E8.mp q1 j (AU.mpr δ))
   .rw[DZ (vo hj),DZ δ]
def Vm{as bs:List α}(h1:as.length=m)(h2:bs.length=m):((AX m).all (λj=>decide (as[j]?=bs[j]?)))=decide (as=bs):=by
 have e:=Fe h1 h2;rw[Nat.min_self,beq_self_eq_true,Bool.and_true] at e;exact e
def Dat.place(D:Dat X n R)(I:Inv X aI σ H s)(hu:A.units+n<Cs){as bs:List α}{fg:vO}
  (pa:A9 (R H) as xs) (pb:A9 (R H) bs ys) (ra:Vals xs a5) (rb:Vals ys fg):∀(j:Nat) (h1:j<a5.toArray.size) (h2:j<fg.toArray.size),LP A s a5.toArray[j] fg.toArray[j] (decide (as[j]?=bs[j]?)):=by
 intro j h1 h2;rw[AO] at h1 h2;have hx:j<xs.length:=by rw[ra.length];exact h1
 have hy:j<ys.length:=by rw[rb.length];exact h2
 have ex:=AK hx;have ey:=AK hy;obtain⟨u,rX,ru⟩:=ra.get ex;obtain⟨v,hv1,rv⟩:=rb.get ey;obtain⟨a,ha,qa⟩:=Paired.get pa ex;obtain⟨b,hb,qb⟩:=Paired.get pb ey;have e1:a5.toArray[j]=u:=by
  rw[RY];rw[AK h1] at rX;exact AM rX
 have e2:fg.toArray[j]=v:=by
  rw[RY];rw[AK h2] at hv1;exact AM hv1
 rw[e1,e2,ha,hb];have e3:decide (u8 a=u8 b)=decide (a=b):=by simp
 rw[e3];exact D.eq aI s σ H A a b _ _ u v I hu qa qb ru rv
def Fw(D:Dat X n R):Dat X (n+1) (rTup X.K R) where
 eq:=λaI s σ H A as bs x y u v I hu ha hb ru rv=>by
  obtain⟨p,xs,rfl,hp,pa⟩:=ha;obtain⟨q,ys,rfl,hq,pb⟩:=hb;cases ru;cases rv;by_cases e:p=q
  .subst e
   have rY:=I.tuple_inj hp hq;subst rY;have eab:=va (λa a' b h1 h2=>D.fn aI s σ H a a' b I h1 h2) pa pb;subst eab;rw[vC rfl];exact LD _
  .obtain⟨a5,ra,ta,_⟩:=I.tuple hp
   obtain⟨fg,rb,tb,_⟩:=I.tuple hq;have l1:as.length=a5.toArray.size:=by rw[AO,<- ra.length];exact AT pa
   have l2:bs.length=fg.toArray.size:=by rw[AO,<- rb.length];exact AT pb
   have r:=SeqAt.RcAt.tuples (A:=A) (s:=s) (e:=λj=>decide (as[j]?=bs[j]?)) ta tb (vp hu) (D.place (A:=A.in1) I (by show A.units+1+n<Cs;exact wx hu) pa pb ra rb);rw[Fe l1 l2] at r;exact .of_refs e r
 fn:=λaI s σ H as bs x I ha hb=>by
  obtain⟨p,xs,rfl,hp,pa⟩:=ha;obtain⟨q,ys,e,hq,pb⟩:=hb;cases e;have rY:=I.tuple_inj hp hq;subst rY;exact va (λa a' b h1 h2=>D.fn aI s σ H a a' b I h1 h2) pa pb
def Mz(D:Dat X n R)(I:Inv X aI σ H s)(hu:A.units+(n+1)<Cs){q:Addr}{as bs:List α}
  (hp:SqL X.K H p xs) (hq:SqL X.K H q ys) (pa:A9 (R H) as xs) (pb:A9 (R H) bs ys):SeqAt.RcAt A s (.ref p) (.ref q) (decide (as=bs))/\SeqAt.RcNeAt A s (.ref p) (.ref q) (!decide (as=bs)):=by
 obtain⟨a5,ra,ta,_⟩:=I.list hp;obtain⟨fg,rb,tb,_⟩:=I.list hq;have l1:as.length=a5.toArray.size:=by rw[AO,<- ra.length];exact AT pa
 have l2:bs.length=fg.toArray.size:=by rw[AO,<- rb.length];exact AT pb
 by_cases hs:a5.toArray.size=fg.toArray.size
 .have r:=SeqAt.RcAt.lists (A:=A) (s:=s) (e:=λj=>decide (as[j]?=bs[j]?)) ta.isList tb.isList hs (vp hu) (D.place (A:=A.in1) I (by show A.units+1+n<Cs;exact wx hu) pa pb ra rb)
  have r':=ag (A:=A) (s:=s) (e:=λj=>decide (as[j]?=bs[j]?)) ta.isList tb.isList hs (vp hu) (D.place (A:=A.in1) I (by show A.units+1+n<Cs;exact wx hu) pa pb ra rb);rw[Vm l1 (l2.trans hs.symm)] at r r';exact⟨r,r'⟩
 .have hb:(a5.toArray.size != fg.toArray.size)=true:=by simpa using hs
  have e:as≠bs:=λe=>hs (by rw[<- l1,<- l2,e]);rw[vD e];exact⟨SeqAt.RcAt.lists_lengths ta.isList tb.isList hb (vp hu),W4 ta.isList tb.isList hb (vp hu)⟩
def AFh(D:Dat X n R):Dat X (n+1) (rLst X.K R) where
 eq:=λaI s σ H A as bs x y u v I hu ha hb ru rv=>by
  obtain⟨p,xs,rfl,hp,pa⟩:=ha;obtain⟨q,ys,rfl,hq,pb⟩:=hb;cases ru;cases rv;by_cases e:p=q
  .subst e
   have rY:=I.list_inj hp hq;subst rY;have eab:as=bs:=va (λa a' b h1 h2=>D.fn aI s σ H a a' b I h1 h2) pa pb;subst eab;rw[vC rfl];exact LD _
  .exact .of_refs e (Mz D I hu hp hq pa pb).1
 fn:=λaI s σ H as bs x I ha hb=>by
  obtain⟨p,xs,rfl,hp,pa⟩:=ha;obtain⟨q,ys,e,hq,pb⟩:=hb;cases e;have rY:=I.list_inj hp hq;subst rY;exact va (λa a' b h1 h2=>D.fn aI s σ H a a' b I h1 h2) pa pb
def rEqL(K:As){α:Type}[DecidableEq α](R:Rep α):R2:=λx y H Q=>∃as bs,rLst K R H as x/\rLst K R H bs y/\Q (.bl (decide (as=bs))) H
def rNeL(K:As){α:Type}[DecidableEq α](R:Rep α):R2:=λx y H Q=>∃as bs,rLst K R H as x/\rLst K R H bs y/\Q (.bl (!decide (as=bs))) H
def Xg(D:Dat X n R)(hu:X.A.units+(n+1)<Cs):OpR X (DS .Eq) (rEqL X.K R):=by
 intro aI s σ H x y v u Q I rx ry h;obtain⟨as,bs,⟨p,xs,rfl,hp,pa⟩,⟨q,ys,rfl,hq,pb⟩,h⟩:=h;cases rx;cases ry;exact(Mz D I hu hp hq pa pb).1 X.prog X.w _ _ ⟨.bl _,H,I,ξ,h⟩
def Wx(D:Dat X n R)(hu:X.A.units+(n+1)<Cs):OpR X (DS .NotEq) (rNeL X.K R):=by
 intro aI s σ H x y v u Q I rx ry h;obtain⟨as,bs,⟨p,xs,rfl,hp,pa⟩,⟨q,ys,rfl,hq,pb⟩,h⟩:=h;cases rx;cases ry;exact(Mz D I hu hp hq pa pb).2 X.prog X.w _ _ ⟨.bl _,H,I,ξ,h⟩
open Classical in
noncomputable def isDat(R:Rep α)(H:Hp)(a:α)(u:Au):Bool:=decide (∃z,RelV z u/\R H a z)
def Lh(D:Dat X n R)(I:Inv X aI σ H s){a b:α}{z:V}(rz:RelV z u)(hb:R H b z):isDat R H a u=decide (b=a):=by
 unfold isDat;by_cases e:b=a
 .subst e
  rw[vC rfl];exact @decide_eq_true _ (Pp _) ⟨z,rz,hb⟩
 .rw[vD e]
  refine @decide_eq_false _ (Pp _) ?_;rintro⟨z',rz',h'⟩;have ez:=rz'.inj rz;subst ez;exact e (D.fn aI s σ H b a z' I hb h')
def ZV(D:Dat X n R)(I:Inv X aI σ H s){a:α}:∀{as:List α}{xs:List V}{a5:vO},A9 (R H) as xs->Vals xs a5->a5.any (isDat R H a)=decide (a∈as):=by
 intro as xs a5 h hv
 induction h generalizing a5 with
 | nil=>cases hv;simp
 | @cons b _ as _ r t ih =>
  cases hv with
  | cons rv tv =>
   rw[J3,Lh D I rv r,ih tv];by_cases e:b=a
   .subst e;simp
   .have e':¬ a=b:=λz=>e z.symm
    simp[e,e']
theorem Ld(D:Dat X n R){aI:vN}{s:AA}{σ:St}{H:Hp}{A:BM}(I:Inv X aI σ H s)(hu:A.units+n<Cs){a:α}{x:V}{v:Au}(rx:RelV x v)(ha:R H a x) :
  ∀{as:List α}{xs:List V}{a5:vO},A9 (R H) as xs->Vals xs a5->∀u∈a5,LP A s u v (isDat R H a u)
 | _,_,_,.nil,.nil=>λu hm=>by cases hm
 | _,_,_,.cons r t,.cons rv tv=>λu hm=>by
  rcases AY.mp hm with rfl| hm
  .rw[Lh D I rv r]
   exact D.eq aI s σ H A _ a _ x _ v I hu r ha rv rx
  .exact Ld D I hu rx ha t tv u hm
def rInL(K:As){α:Type}[DecidableEq α](R:Rep α)(neg:Bool):R2:=λx y H Q=>∃a as,R H a x/\(rLst K R H as y\/rTup K R H as y)/\Q (.bl (if neg then !decide (a∈as) else decide (a∈as))) H
def AHo(D:Dat X n R)(hu:X.A.units+(n+1)<Cs):OpR X (DS .In) (rInL X.K R false):=by
 intro aI s σ H x y v u Q I rx ry h;obtain⟨a,as,ha,hs,h⟩:=h;have rX:X.A.in1.units+n<Cs:=by show X.A.units+1+n<Cs;exact wx hu
 rcases hs with⟨p,xs,rfl,hp,pa⟩| ⟨p,xs,rfl,hp,pa⟩
 .cases ry
  obtain⟨a5,r,pl,_⟩:=I.list hp;refine VO (isDat R H a) pl.isList (λw hw=>Ld D I rX rx ha pa r w (by simpa using hw)) ⟨.bl _,H,I,ξ,?_⟩;rw[show a5.toArray.any (isDat R H a)=a5.any (isDat R H a) by simp,ZV D I pa r];exact h
 .cases ry
  obtain⟨a5,r,pl,_⟩:=I.tuple hp;refine UY (isDat R H a) pl (λw hw=>Ld D I rX rx ha pa r w (by simpa using hw)) ⟨.bl _,H,I,ξ,?_⟩;rw[show a5.toArray.any (isDat R H a)=a5.any (isDat R H a) by simp,ZV D I pa r];exact h
end
def TSm(H H':Hp):Prop:=∀b u,H b=u8 u->(∃xs,u=.tup xs\/∃o,u=.frz o (.tup xs))->H' b=u8 u
def TSm.trans(a:TSm H H1)(b:TSm H1 H2):TSm H H2:=λc u h t=>b c u (a c u h t) t
def Same.ts(e:Same H H'):TSm H H':=λb u h _=>e b u h
def TSm.lst{o:HO}(h:H l=u8 (.lst xs)):TSm H (upd H l o):=λb u hb t=>by
 rw[Ag ?_]
 .exact hb
 .rintro rfl
  rw[h] at hb;cases hb;obtain⟨ys,e| ⟨o,e⟩⟩:=t
  .cases e
  .cases e
def vi:=@TSm.lst
def TSm.new{o:HO}(h:H p=u9):TSm H (upd H p o):=λb u hb _=>by rw[Ag (Ai hb h)];exact hb
def TSm.seq(e:TSm H H')(h:SqT K H a xs):SqT K H' a xs:=by
 rcases h with(h| ⟨o,h⟩)| h
 .exact .inl (.inl (e _ _ h ⟨xs,.inl rfl⟩))
 .exact .inl (.inr ⟨o,e _ _ h ⟨xs,.inr ⟨o,ξ⟩⟩⟩)
 .exact .inr h
def Paired.imp{F G:α->β->Prop}(f:∀a b,F a b->G a b):∀{l₁:List α}{l₂:List β},A9 F l₁ l₂->A9 G l₁ l₂:=by
 intro l m h
 induction h with
 | nil=>exact .nil
 | cons r t ih=>exact .cons (f _ _ r) ih
def vj:=@Paired.imp
def TRep{α:Type}(R:Rep α):Prop:=∀H H' a x,TSm H H'->R H a x->R H' a x
def Am:TRep rInt:=λ_ _ _ _ _ h=>h
def Ak{R:Rep α}(t:TRep R):TRep (rTup K R):=λH H' as x e h=>by
 obtain⟨p,xs,rfl,hp,pa⟩:=h;exact⟨p,xs,ξ,e.seq hp,vj (λa b=>t H H' a b e) pa⟩
def Hf{R:Rep α}(t:TRep R){as:List α}{x:V}(e:Same H H')(h:rLst K R H as x):rLst K R H' as x:=by
 obtain⟨p,xs,rfl,hp,pa⟩:=h;exact⟨p,xs,ξ,e.seq hp,vj (λa b=>t H H' a b e.ts) pa⟩
def Same.new(h:H p=u9)(o:HO):Same H (upd H p o):=λb u q=>by rw[Ag (Ai q h)];exact q
def vk:=@Same.new
def Same.put(s:Same H H')(h:H p=u9)(o:HO):Same H (upd H' p o):=λb u q=>by rw[Ag (Ai q h)];exact s b u q
def Same.obj{q:Addr}(h:H p=u9)(g:H q=u9)(o u:HO):Same H (upd (upd H q u) p o):=(vk g u).put h o
def vn:=@Same.obj
abbrev rPair(K:As):Rep vG:=rTup K rInt
def Dt(h:H p=u8 (.tup (ns.map V.int))):rPair K H ns (.ref p):=⟨p,_,ξ,ve h,paired_ints ns⟩
def Bq{x:V}(h:rPair K H ns x):∃p,x=.ref p/\SqT K H p (ns.map V.int):=by
 obtain⟨p,xs,rfl,hp,pa⟩:=h;rw[Gm pa] at hp;exact⟨p,ξ,hp⟩
def rSeq(K:As):Rep vG:=λH t x=>rLst K rInt H t x\/rPair K H t x
def Vh{x:V}(h:rSeq K H ns x):∃p,x=.ref p/\(SqL K H p (ns.map V.int)\/SqT K H p (ns.map V.int)):=by
 rcases h with⟨p,xs,rfl,hp,pa⟩| h
 .rw[Gm pa] at hp
  exact⟨p,ξ,.inl hp⟩
 .obtain⟨p,e,hp⟩:=Bq h
  exact⟨p,e,.inr hp⟩
section
variable{g:TG}{R:Hp->Prop}
abbrev putD(D:Addr)(N:St->Hp->Prop)(te:TE)(τ2:St):Bool->Hp->Prop:=λb H3=>if b=true then te τ2 H3 λv H4=>∃ys,H4 D=u8 (.lst ys)/\ys.length<sizeLine/\N τ2 (upd H4 D (.lst (ys++[v]))) else N τ2 H3
def yesD{N:St->Hp->Prop}(h:te τ H λv H4=>∃ys,H4 D=u8 (.lst ys)/\ys.length<sizeLine/\N τ (upd H4 D (.lst (ys++[v])))):AGh τ H (putD D N te τ):=by
 show putD D N te τ true H;unfold putD;rw[vB rfl];exact h
def yesN{N:St->Hp->Prop}{x:V}(h:te (τ.set i (u8 x)) H λv H4=>∃ys,H4 D=u8 (.lst ys)/\ys.length<sizeLine/\N (τ.set i (u8 x)) (upd H4 D (.lst (ys++[v])))):gName i x τ H λτ2 H2=>AGh τ2 H2 (putD D N te τ2):=yesD h
def Bw(Pv:Nat->St->Hp->Prop)(h0:Pv 0 τ H)(hl:∀i τ H,i<=xs.length->Pv i τ H->SqL K H a xs)
  (hs:∀i x τ H,xs[i]?=u8 x->Pv i τ H->g x τ H λτ2 H2=>tc τ2 H2 (putD D (Pv (i+1)) te τ2)) (hd:∀τ H,Pv xs.length τ H->R H):DX (Itl K a) D g tc te R τ H:=by
 refine Iv xs.length Pv h0 (λi τ H hi p=>⟨xs,xs[i],hl i τ H (D7 hi) p,by simp[hi]⟩) (λτ H p=>⟨xs,hl _ τ H (AI _) p,AI _⟩) (λi τ H x H' hi p y=>?_) hd;obtain⟨e,y⟩:=y;subst e;exact hs i x τ _ (y xs (hl i τ _ (D7 hi) p)) p
def PX(Pv:Nat->St->Hp->Prop)(h0:Pv 0 τ H)(hl:∀i τ H,i<=xs.length->Pv i τ H->SqT K H a xs)
  (hs:∀i x τ H,xs[i]?=u8 x->Pv i τ H->g x τ H λτ2 H2=>tc τ2 H2 (putD D (Pv (i+1)) te τ2)) (hd:∀τ H,Pv xs.length τ H->R H):DX (Itt K a) D g tc te R τ H:=by
 refine Iv xs.length Pv h0 (λi τ H hi p=>⟨xs,xs[i],hl i τ H (D7 hi) p,by simp[hi]⟩) (λτ H p=>⟨xs,hl _ τ H (AI _) p,AI _⟩) (λi τ H x H' hi p y=>?_) hd;obtain⟨e,y⟩:=y;subst e;exact hs i x τ _ (y xs (hl i τ _ (D7 hi) p)) p
def Cj{lo:Int}(Pv:Nat->St->Hp->Prop)(h0:Pv 0 τ H)
  (hs:∀i τ H,i<n->Pv i τ H->g (.int (lo+i)) τ H λτ2 H2=>tc τ2 H2 (putD D (Pv (i+1)) te τ2)) (hd:∀τ H,Pv n τ H->R H):DX (Itr lo n) D g tc te R τ H:=by
 refine Iv n Pv h0 (λi τ H hi p=>hi) (λτ H p=>AI _) (λi τ H x H' hi p y=>?_) hd;obtain⟨e,y⟩:=y;subst e y;exact hs i τ _ hi p
def Nm{S:Hp->List V->Prop}(Pv:Nat->St->Hp->Prop)(h0:Pv 0 τ H)(hl:∀i τ H,i<=xs.length->Pv i τ H->S H xs)
  (hs:∀i x τ H T,xs[i]?=u8 x->H T=none->Pv i τ H->g (.ref T) τ (upd H T (.tup [.int i,x])) λτ2 H2=>tc τ2 H2 (putD D (Pv (i+1)) te τ2)) (hd:∀τ H,Pv xs.length τ H->R H):DX (Ien S) D g tc te R τ H:=by
 refine Iv xs.length Pv h0 (λi τ H hi p=>⟨xs,xs[i],hl i τ H (D7 hi) p,by simp[hi]⟩) (λτ H p=>⟨xs,hl _ τ H (AI _) p,ξ⟩) (λi τ H x H' hi p y=>?_) hd;obtain⟨T,z,rfl,hT,rfl,y⟩:=y;exact hs i z τ H T (y xs (hl i τ _ (D7 hi) p)) hT p
end
def CK{k:Nat}(hr:Room k A)(h:autoParam (n<=64) zA1._auto_1):A.units+n<Cs:=EQ (Nat.add_le_add_left h _) hr.units
def Gv(hK:X.K=K){k:Nat}{t:TGs}(hc:X.calm=true)(h:PGs X es t)
  (hn:autoParam ((KU es X.env).length=n) zA0._auto_1) (dS:autoParam ((KU es X.env).findIdx? (·.1)=u9) zA0._auto_1):PG X (.Tuple es k pos) (gTup K n t):=by subst hK;exact Xa hc h hn dS
def Ib(hK:X.K=K):OpR X (DS .In) (rIn K false):=by subst hK;exact QD
def Hj(hK:X.K=K):OpR X (DS .NotIn) (rIn K true):=by subst hK;exact Sg
def Lg(hK:X.K=K):IxR X (rIxL K):=by subst hK;exact Cg
def TQ(hK:X.K=K):IxR X (rIxT K):=by subst hK;exact Bc
theorem FW(x:Int):∀(tie:vG),inV (.int x) (tie.map V.int)=decide (x∈tie)
 | []=>rfl
 | z::r=>by
  have ih:=FW x r;unfold inV at ih ⊢;rw[BO,J3,ih];show((z==x)||decide (x∈r))=decide (x∈z::r);by_cases e:z=x
  .subst e;simp
  .have e':¬ x=z:=λq=>e q.symm
   simp[e,e']
def iteNN{c A B:Prop}{inst:Decidable c}(hc:¬ c)(h:A):if(!decide c)=true then A else B:=by
 rw[vD hc];exact iteT h
def iteNP{c A B:Prop}{inst:Decidable c}(hc:c)(h:B):if(!decide c)=true then A else B:=by
 rw[vC hc];exact iteF h
def iteN{c A B:Prop}{inst:Decidable c}(hc:¬ c)(h:B):if decide c=true then A else B:=by
 rw[vD hc];exact iteF h
def iteP{c A B:Prop}{inst:Decidable c}(hc:c)(h:A):if decide c=true then A else B:=by
 rw[vC hc];exact iteT h
def ACW{k:Int}(h0:0<=k)(h:k<(ns.length:Int)):∃v:Int,atI (ns.map V.int) k=u8 (.int v):=by
 have hk:k.toNat<ns.length:=wF h0 h;have ek:k=((k.toNat:Nat):Int):=yg h0;have q:atI (ns.map V.int) ((k.toNat:Nat):Int)=u8 (.int ns[k.toNat]):=Bv (by rw[AV,AK hk]<;>rfl);rw[<- ek] at q;exact⟨_,q⟩
def small(h:n<=1000):n<=sizeLine:=D7 (BK h)
noncomputable def srt:vG->vG
 | [a,b]=>if b<a then [b,a] else [a,b]
 | t=>t
def Bx(a b:Int):srt [a,b]=if b<a then [b,a] else [a,b]:=rfl
def Zo{a b:Int}(h:ms.Perm [a,b])(s:ms.Pairwise (·<=·)):ms=srt [a,b]:=by
 have hl:=h.length_eq
 match ms,hl,h,s with
 | [x,y],_,h,s =>
  have hxy:x<=y:=by simpa using s
  have hx:x∈[a,b]:=h.mem_iff.mp θ;have hy:y∈[a,b]:=h.mem_iff.mp θ;have ha:a∈[x,y]:=h.mem_iff.mpr θ;have hb:b∈[x,y]:=h.mem_iff.mpr θ;simp only[AY,K1,or_false] at hx hy ha hb;rw[Bx];split
  .have e1:x=b:=by lia
   have e2:y=a:=by lia
   rw[e1,e2]
  .have e1:x=a:=by lia
   have e2:y=b:=by lia
   rw[e1,e2]
def OkTie(m:Int)(t:vG):Prop:=∃a b,t=[a,b]/\0<=a/\a<m/\0<=b/\b<m/\a≠b
structure OkTies(m:Int)(as:vH):Prop where
 ok:∀t∈as,OkTie m t
 nd:(as.map srt).Nodup
def OkTies.take_new{m:Int}{t:vG}(h:OkTies m as)(ht:as[i]?=u8 t):srt t∉(as.take i).map srt:=by
 intro hm;obtain⟨u,hu,e⟩:=A1.mp hm;obtain⟨j,hj,ej⟩:=CS.mp hu;have hji:j<i:=by rw[BV] at hj;exact xj hj
 have hi:=(AG.mp ht).1;have et:=(AG.mp ht).2;have eu:as[j]'(vw hji hi)=u:=by rw[<- ej,Kt]
 have hnd:=h.nd;have:=(UR (h₀:=by rw[AB];exact vw hji hi) (h₁:=by rw[AB];exact hi) hnd (i:=j) (j:=i)).mp (by rw[FX,FX,et,eu,e]);exact wj hji this
noncomputable def BW(p:Int):Nat->vH->vG
 | _,[]=>[]
 | k,t::r=>if p∈t then(k:Int)::BW p (k+1) r else BW p (k+1) r
theorem Pz(p:Int)(t:vG):∀(k:Nat) (as:vH),BW p k (as++[t])=BW p k as++(if p∈t then [((k+as.length:Nat):Int)] else [])
 | k,[]=>by
  show(if p∈t then(k:Int)::BW p (k+1) [] else BW p (k+1) [])=_;split<;>simp[BW]
 | k,u::r=>by
  have ih:=Pz p t (k+1) r;have e:k+1+r.length=k+(u::r).length:=by simp;exact wz
  rw[e] at ih;show(if p∈u then(k:Int)::BW p (k+1) (r++[t]) else BW p (k+1) (r++[t]))=(if p∈u then(k:Int)::BW p (k+1) r else BW p (k+1) r)++_;rw[ih];split<;>rfl
abbrev hits(p:Int)(as:vH):vG:=BW p 0 as
def Qa{p:Int}{t:vG}(h:as[i]?=u8 t):hits p (as.take (i+1))=hits p (as.take i)++(if p∈t then [(i:Int)] else []):=by
 have hi:=(AG.mp h).1;have e:as.take (i+1)=as.take i++[t]:=by rw[DA,h];rfl
 rw[e,hits,Pz];have:0+(as.take i).length=i:=by rw[BV];lia
 rw[this]
theorem Nq(p:Int):∀(k:Nat) (as:vH),(BW p k as).length<=as.length
 | _,[]=>AI _
 | k,t::r=>by
  have ih:=Nq p (k+1) r;show(if p∈t then(k:Int)::BW p (k+1) r else BW p (k+1) r).length<=r.length+1;split
  .simp;exact ih
  .exact wG ih
def max_list(hc:X.calm=true):CallR X (.builtin "max") (λxs H Q=>∃(p:Addr) (ns:vG),xs=[.ref p]/\SqL X.K H p (ns.map V.int)/\0<ns.length/\∀m,m∈ns->(∀a∈ns,a<=m)->Q (.int m) H):=by
 intro aI s σ H xs us Q I r h;obtain⟨p,ns,rfl,hq,cS,q⟩:=h;obtain⟨u0,rfl,ru⟩:=r.one;cases ru;obtain⟨a5,rv,pl,hz⟩:=I.list hq;have hi:=intsAre_of rv;have hl:=pl.isList;obtain⟨ys,e⟩:=hi.allInts.items;have g6:ns=ys.toList.map (·.1):=by rw[<- hi.numsOf,<- nums_intItems,<- e]
 have hsz:0<ys.size:=by
  rw[g6,AB,AZ] at cS;exact cS
 rw[e] at hl;refine max_intList (I.ok.hd hc) hl hsz λv h' tk hv hk=>?_;obtain⟨t,rfl⟩:=intItems_at hv;obtain⟨h1,h2⟩:=argBest_gt (R6 ys) (ys.size-1);refine⟨.int (R6 ys (argBest (λi j=>decide (R6 ys i>R6 ys j)) (ys.size-1))),H,I.kept hk,⟨t,ξ⟩,q _ ?_ λa ha=>?_⟩
 .rw[g6,U1]
  exact getD_mem (by rw[AB,AZ];exact zY h1 hsz)
 .rw[g6] at ha
  obtain⟨j,hj,rfl⟩:=mem_getD ha;rw[AB,AZ] at hj;rw[<- U1];exact h2 j (wD hj)
noncomputable def upTo(n:Nat)(f:Int->Bool):vG:=((AX n).map λ(i:Nat)=>(i:Int)).filter f
def Qk(n:Nat)(f:Int->Bool):upTo (n+1) f=upTo n f++(if f n=true then [(n:Int)] else []):=by
 unfold upTo;rw[G2,BI,CI,NX]
 congr 1
 rw[C6];split<;>rfl
def ACb(n:Nat)(f:Int->Bool):(upTo n f).length<=n:=by
 unfold upTo;refine BQ (CY _ _) ?_;simp
set_option tactic.hygienic true in
theorem Ik{p x:Int}:∀{k:Nat}{as:vH},x∈BW p k as↔∃i:Nat,∃t,as[i]?=u8 t/\p∈t/\x=((k+i:Nat):Int)
 | k,[]=>by simp[BW]
 | k,u::r=>by
  have ih:=@Ik p x (k+1) r;have e:BW p k (u::r)=if p∈u then(k:Int)::BW p (k+1) r else BW p (k+1) r:=rfl
  rw[e];constructor
  .intro h
   split at h
   .rename_i hu
    rcases AY.mp h with h| h
    .exact⟨0,u,ξ,hu,by simpa using h⟩
    .obtain⟨i,t,h1,h2,h3⟩:=ih.mp h
     exact⟨i+1,t,by simpa using h1,h2,by rw[h3];congr 1;exact wz⟩
   .obtain⟨i,t,h1,h2,h3⟩:=ih.mp h
    exact⟨i+1,t,by simpa using h1,h2,by rw[h3];congr 1;exact wz⟩
  .rintro⟨i,t,h1,h2,h3⟩
   cases i with
   | zero =>
    have:u=t:=by simpa using h1
    subst this;rw[vB h2];exact AY.mpr (.inl (by simpa using h3))
   | succ i =>
    have hm:=ih.mpr ⟨i,t,by simpa using h1,h2,by rw[h3];congr 1;lia⟩;split
    .exact AJ _ hm
    .exact hm
theorem Je(p:Int):∀(k:Nat) (as:vH),(BW p k as).Pairwise (· < ·)
 | _,[]=>LX
 | k,u::r=>by
  have ih:=Je p (k+1) r;have e:BW p k (u::r)=if p∈u then(k:Int)::BW p (k+1) r else BW p (k+1) r:=rfl
  rw[e];split
  .refine S6 (λx hx=>?_) ih
   obtain⟨i,t,_,_,h3⟩:=Ik.mp hx;rw[h3];lia
  .exact ih
theorem Rh:∀{ns:vG} (h:ns≠[]),ns.Pairwise (· < ·)->∀x∈ns,x<=ns.getLast h
 | [],h,_,_,_=>vF rfl h
 | [a],_,_,x,hx=>by
  have:x=a:=by simpa using hx
  subst this;exact Kj _
 | a::b::r,_,pw,x,hx=>by
  have h2:=B0.mp pw;have e:(a::b::r).getLast θ=(b::r).getLast θ:=by simp
  rw[e];have l:=Rh (ns:=b::r) θ h2.2;rcases AY.mp hx with hx| hx
  .subst hx
   have h3:=h2.1 b θ;have h4:=l b θ;exact Ty h3 h4
  .exact l x hx
end L2
namespace L2
noncomputable def gh(h:vG)(p:Int):Int:=h.getD p.toNat 0
abbrev below(n:Nat):vG:=(AX n).map λ(i:Nat)=>(i:Int)
theorem Ij:∀{l m:vG},l.Pairwise (· < ·)->m.Pairwise (· < ·)->(∀x,x∈l↔x∈m)->l=m
 | [],[],_,_,_=>rfl
 | [],b::m,_,_,h=>by have:=(h b).mpr θ;cases this
 | a::l,[],_,_,h=>by have:=(h a).mp θ;cases this
 | a::l,b::m,pl,pm,h=>by
  obtain⟨l1,l2⟩:=B0.mp pl;obtain⟨m1,m2⟩:=B0.mp pm;have ab:a=b:=by
   have ha:=(h a).mp θ;have hb:=(h b).mpr θ;rcases AY.mp ha with ha| ha
   .exact ha
   .rcases AY.mp hb with hb| hb
    .exact hb.symm
    .have h1:=m1 a ha
     have h2:=l1 b hb;lia
  subst ab;refine congrArg (a::·) (Ij l2 m2 λx=>?_);constructor
  .intro hx
   rcases AY.mp ((h x).mp (AJ _ hx)) with e| e
   .have:=l1 x hx
    lia
   .exact e
  .intro hx
   rcases AY.mp ((h x).mpr (AJ _ hx)) with e| e
   .have:=m1 x hx
    lia
   .exact e
def Ov(n:Nat):(below n).Pairwise (· < ·):=by
 unfold below;rw[Cb];exact Hn.imp λh=>v7 h
def AAr{x:Int}:x∈below n↔0<=x/\x<n:=by
 unfold below;rw[A1];constructor
 .rintro⟨i,hi,rfl⟩
  have:=AU.mp hi;exact xF this
 .rintro⟨h0,h1⟩
  exact⟨x.toNat,AU.mpr (wF h0 h1),yW h0⟩
noncomputable def under(n:Nat)(h:vG)(x:Int):vG:=upTo n λp=>decide (gh h p=x)
noncomputable def sel(as:vH)(ms:vG):Nat->vH
 | 0=>[]
 | i+1=>sel as ms i++(if(i:Int)∈ms then [as.getD i []] else [])
end L2
namespace L2
open PySem PySem.Spec PyProof.Rows
theorem JR:∀{xs:List V}{us:vO},xs.length=us.length->(∀(i:Nat) (x:V) (u:Au),xs[i]?=u8 x->us[i]?=u8 u->RelV x u)->Vals xs us
 | [],[],_,_=>.nil
 | [],_::_,h,_=>by simp at h
 | _::_,[],h,_=>by simp at h
 | x::xs,u::us,h,f=>.cons (f 0 x u rfl rfl) (JR (by simpa using h) λi y v h1 h2=>f (i+1) y v (by simpa using h1) (by simpa using h2))
def Ep:CallR X (.type "range") (λxs H Q=>∃j,xs=[.int j]/\∀r,H r=none->Q (.ref r) (upd H r (.rng 0 j))):=by
 intro aI s σ H xs us Q I r h;obtain⟨j,rfl,q⟩:=h;obtain⟨u,rfl,t,rfl⟩:=r.one;refine call_range_1 ?_;have hn:=I.hok.fresh (AI _);exact⟨.ref s.heap.objs.size,_,I.laid (a:=s.heap.objs.size) (o:=.rng 0 j) (λb u e=>AE _ e) (AI _) ⟨_,_,_,AQ _ rfl⟩,ξ,q _ hn⟩
def Hu(hc:X.calm=true):CallR X (.type "list") (λxs H Q=>∃r j,xs=[.ref r]/\H r=u8 (.rng 0 j)/\0<=j/\j<=1000/\∀l,H l=none->Q (.ref l) (upd H l (.lst ((below j.toNat).map V.int)))):=by
 intro aI s σ H xs us Q I rr h;obtain⟨r,j,rfl,hr,j0,j1,q⟩:=h;obtain⟨u,rfl,ru⟩:=rr.one;cases ru;obtain⟨t1,t2,t3,e⟩:=I.hok r _ hr;have hn:=I.hok.fresh (AI _);refine call_list_range (n:=j.toNat) (I.ok.hd hc) e (WN δ δ δ δ) (by rw[Sf];split<;>lia) δ λh' tk a9 c' hk cK be=>?_;refine⟨.ref s.heap.objs.size,_,I.laid (a:=s.heap.objs.size) (o:=.lst ((below j.toNat).map V.int)) hk (AI _) ⟨?_,a9.toList,c',?_,by simpa using cK⟩,ξ,q _ hn⟩
 .rw[AB,AB,B6]
  exact small (xY j1)
 .refine JR (by simp[be.1]) λi x u h1 h2=>?_
  have gE:a9[i]?=u8 u:=by simpa using h2
  obtain⟨t,rfl⟩:=be.2 i u gE;have hi:i<j.toNat:=by
   have:=(CL.mp gE).1;rw[be.1] at this;exact this
  rw[AV,AV,EX hi] at h1;have ex:=(AM h1).symm;subst ex;exact⟨t,by rw[UB,SG]⟩
def rEqT(K:As){α:Type}[DecidableEq α](R:Rep α):R2:=λx y H Q=>∃as bs,rTup K R H as x/\rTup K R H bs y/\Q (.bl (decide (as=bs))) H
def Wa[DecidableEq α]{R:Rep α}(D:Dat X n R)(hu:X.A.units+(n+1)<Cs):OpR X (DS .Eq) (rEqT X.K R):=by
 intro aI s σ H x y v u Q I rx ry h;obtain⟨as,bs,⟨p,xs,rfl,hp,pa⟩,⟨q,ys,rfl,hq,pb⟩,h⟩:=h;cases rx;cases ry;obtain⟨a5,ra,ta,_⟩:=I.tuple hp;obtain⟨fg,rb,tb,_⟩:=I.tuple hq;have l1:as.length=a5.toArray.size:=by rw[AO,<- ra.length];exact AT pa
 have l2:bs.length=fg.toArray.size:=by rw[AO,<- rb.length];exact AT pb
 refine U2 (e:=λj=>decide (as[j]?=bs[j]?)) ta tb (vp hu) (D.place (A:=X.A.in1) I (by show X.A.units+1+n<Cs;exact wx hu) pa pb ra rb) ?_;rw[Fe l1 l2];exact⟨.bl _,H,I,ξ,h⟩
def AIs(K:As)(tl:TE):TI:=λσ H R=>tl σ H λx H1=>∃a,x=.ref a/\(((∃xs,SqL K H1 a xs)/\R (Itl K a) H1)\/((∃xs,SqT K H1 a xs)/\R (Itt K a) H1))
def ADM{l:Expr}(hl:PE X l tl):PI X tg l (AIs X.K tl):=by
 intro aI s σ H R I h;refine thn (hl aI s σ H _ I h) λv s1 hq=>?_;obtain⟨x,H1,I1,r1,q1⟩:=hq;obtain⟨a,e,q1⟩:=q1;subst e;cases r1;rcases q1 with⟨⟨xs,hq⟩,q⟩| ⟨⟨xs,hq⟩,q⟩
 .obtain⟨a5,rv,p,hz⟩:=I1.list hq
  refine Ha p.isList ?_;refine⟨s1.heap.objs.size,[s1.heap.objs.size],_,_,H1,ξ,I1.kept (t':=s1.toks) λb o e=>AE _ e,Px a _,⟨_,AQ _ rfl,ξ,ξ⟩,λb hb=>?_,q⟩;have e:b=s1.heap.objs.size:=by simpa using hb
  subst e;exact I1.fpOk (AI _) (I1.hok.fresh (AI _))
 .obtain⟨a5,rv,p,hz⟩:=I1.tuple hq
  refine E3 p ?_;refine⟨s1.heap.objs.size,[s1.heap.objs.size],_,_,H1,ξ,I1.kept (t':=s1.toks) λb o e=>AE _ e,Ln a _,⟨_,AQ _ rfl,ξ,ξ⟩,λb hb=>?_,q⟩;have e:b=s1.heap.objs.size:=by simpa using hb
  subst e;exact I1.fpOk (AI _) (I1.hok.fresh (AI _))
def AGq{R:It->Hp->Prop}(hS:SqL K H a xs\/SqT K H a xs)(h1:SqL K H a xs->R (Itl K a) H)(h2:SqT K H a xs->R (Itt K a) H) :
  ((∃xs,SqL K H a xs)/\R (Itl K a) H)\/((∃xs,SqT K H a xs)/\R (Itt K a) H):=hS.elim (λz=>.inl ⟨⟨_,z⟩,h1 z⟩) λz=>.inr ⟨⟨_,z⟩,h2 z⟩
def rIndex:V->List V->Hp->VK->Prop:=λx vs H Q=>∃(l:Addr) (xs:List V) (y:V) (j:Nat),x=.ref l/\vs=[y]/\H l=u8 (.lst xs)/\flatV y=true/\xs.all flatV=true/\j<=1000/\(∃z,xs[j]?=u8 z/\eqV z y=true)/\(∀m z,m<j->xs[m]?=u8 z->eqV z y=false)/\Q (.int j) H
def ACH:MtM X "list.index" rIndex:=by
 intro aI s σ H x vs v us Q I rx rv h;obtain⟨l,xs,y,j,rfl,rfl,hH,fy,fs,h1000,⟨zj,hj,ej⟩,f7,q⟩:=h;cases rx;obtain⟨u,rfl,ry⟩:=rv.one;obtain⟨z,a5,n,r,hl,e⟩:=I.lstM hH;have at_:∀m (hm:m<a5.toArray.size),∃zm,xs[m]?=u8 zm/\eqU y a5.toArray[m]=eqV zm y:=λm hm=>by
  have dA:m<xs.length:=by rw[hl];simpa using hm
  have e1:xs[m]?=u8 xs[m]:=AK dA;obtain⟨w,hw,eC⟩:=r.get e1;have e2:a5.toArray[m]=w:=by
   have:a5[m]?=u8 w:=hw;simpa using(AG.mp this).2
  refine⟨xs[m],e1,?_⟩;rw[e2];exact YH eC (E8.mp fs _ (Fa dA))
 have b6:j<a5.toArray.size:=by
  have:=(AG.mp hj).1;rw[hl] at this;simpa using this
 refine MS F.slot_list_index ⟨_,e,ξ⟩ F.entry_list_index (F.args_list_index_2 _ _) (SeqAt.list_indexAt l a5.toArray n u9 #[] u (eqU y) j b6 δ ?_ (λm hm hmj=>?_)) ⟨e,λw hw=>FN ry fy r fs w (by simpa using hw),?_⟩
 .obtain⟨zm,e1,e2⟩:=at_ j b6
  rw[e2];rw[hj] at e1;cases e1;exact ej
 .obtain⟨zm,e1,e2⟩:=at_ m hm
  rw[e2];exact f7 m zm hmj e1
 .exact⟨.int j,H,I.tok _,⟨s.toks,ξ⟩,q⟩
abbrev loopR(g:TG)(tb:TS)(D:Ends)(σ:St)(J:It)(H1:Hp):Prop:=∃W:Nat->Nat->St->Hp->Prop,(∃m,W 0 m σ H1)/\∀i m σ H,W i m σ H ->
 (J.stop i H/\D.nx σ H)\/(J.go i H/\∃N:St->Hp->Prop,(∀σ' H',N σ' H'->∃m',m'<m/\W (i+1) m' σ' H')/\∀x H',J.yld i H x H'->g x σ H' λσ2 H2=>tb {D with nx:=N,ct:=N,bk:=D.nx} σ2 H2)
def AFI{g:TG}{D:Ends}(hS:SqL K H0 a xs\/SqT K H0 a xs)(Pv:Nat->St->Hp->Prop)(h0:Pv 0 σ H)(hl:∀i σ H',i<=xs.length->Pv i σ H'->Same H0 H')
  (hs:∀i x σ H,xs[i]?=u8 x->Pv i σ H->g x σ H λσ2 H2=>tb {D with nx:=Pv (i+1),ct:=Pv (i+1),bk:=D.nx} σ2 H2) (hd:∀σ H,Pv xs.length σ H->D.nx σ H) :
  ((∃xs,SqL K H a xs)/\loopR g tb D σ (Itl K a) H)\/((∃xs,SqT K H a xs)/\loopR g tb D σ (Itt K a) H) :=
 hS.elim (λz=>.inl ⟨⟨_,(hl 0 σ H (Bz _) h0).seq z⟩,Ej Pv h0 (λi σ H2 hi p=>(hl i σ H2 hi p).seq z) hs hd⟩) λz=>.inr ⟨⟨_,(hl 0 σ H (Bz _) h0).ts.seq z⟩,ZD Pv h0 (λi σ H2 hi p=>(hl i σ H2 hi p).ts.seq z) hs hd⟩
def Ph{g:TG}{R:Hp->Prop}(hS:SqL K H0 a xs\/SqT K H0 a xs)(Pv:Nat->St->Hp->Prop)(h0:Pv 0 τ H)(hl:∀i τ H',i<=xs.length->Pv i τ H'->Same H0 H')
  (hs:∀i x τ H,xs[i]?=u8 x->Pv i τ H->g x τ H λτ2 H2=>tc τ2 H2 (putD D (Pv (i+1)) te τ2)) (hd:∀τ H,Pv xs.length τ H->R H) :
  (SqL K H0 a xs->DX (Itl K a) D g tc te R τ H)/\(SqT K H0 a xs->DX (Itt K a) D g tc te R τ H) :=
 ⟨λz=>Bw Pv h0 (λi σ H2 hi p=>(hl i σ H2 hi p).seq z) hs hd,λz=>PX Pv h0 (λi σ H2 hi p=>(hl i σ H2 hi p).ts.seq z) hs hd⟩
section
variable{id:String}{o:Expr}{t:TA}{l:Expr}
def AGd(hK:X.K=K)(pa:PlainAttrs T)(slot:Slot T name id)(hty:typeOf (.builtin id)=pure (.type "method_descriptor"))(hm:MtR X id r)(ho:PE X o to)(ha:PA X (e::es) t)
  (kH:autoParam (K6 o name X.env (eval o X.env)=eval o X.env) zA0._auto_1)
  (gc:autoParam (((FB bq (B3 (e::es) X.env)).all (λx=>!x.1)&&(Ic bq (Fn [] X.env)).all (λx=>x.1.isSome)
   && decide ((e::es).length+([]:List K9).length+(if([]:List K9).isEmpty then 0 else 1)<30))=true) zA0._auto_1)
  (kx:autoParam ((cf.endLine==bq.line)=true) zA0._auto_1) (hs:autoParam (B3 (e::es) X.env=(false,eval e X.env)::B3 es X.env) zA0._auto_1) (f':autoParam ((FB bq (B3 es X.env)).any (·.1)=false) zA0._auto_1) :
  PE X (.Call (.Attribute o name cf) (e::es) [] bq) (tBM K T r to t):=by subst hK;exact Ho pa slot hty hm ho ha kH gc kx hs f'
end
section
variable{st:Stmt}{t u:TS}
def AIq(t u:TS):TS:=λD σ H=>∃M:St->Hp->Prop,t {D with nx:=M} σ H/\∀σ' H',M σ' H'->u D σ' H'
def Kz(h1:PS X st t)(h2:PSs X bg u):PSs X (st::bg) (AIq t u):=by
 intro aI s σ H D I h;obtain⟨M,ha,hb⟩:=h;refine OX (thn (h1 aI s σ H {D with nx:=M} I ha) λf s1 q=>?_);cases f with
 | next =>
  obtain⟨σ',H',I',q⟩:=q;exact h2 aI s1 σ' H' D I' (hb _ _ q)
 | ret v=>exact q
 | brk=>exact q
 | cont=>exact q
def Fz(hK:X.K=K):CallR X (.type "tuple") (λxs H Q=>∃p ys,xs=[.ref p]/\((SqL K H p ys/\∀l,H l=none->Q (.ref l) (upd H l (.tup ys)))\/(SqT K H p ys/\Q (.ref p) H))):=by subst hK;exact Bp
end
def Zr{g:TG}{R:Addr->Hp->Prop}(hS:SqL K H a xs\/SqT K H a xs)
  (h:∀D,H D=none->∃Pv:Nat->St->Hp->Prop,Pv 0 τ (upd H D (.lst []))/\(∀i τ H',i<=xs.length->Pv i τ H'->Same H H') /\
   (∀i x τ H,xs[i]?=u8 x->Pv i τ H->g x τ H λτ2 H2=>tc τ2 H2 (putD D (Pv (i+1)) te τ2))/\(∀τ H,Pv xs.length τ H->R D H)) :
  ((∃xs,SqL K H a xs)/\∀D,H D=none->DX (Itl K a) D g tc te (R D) τ (upd H D (.lst [])))\/((∃xs,SqT K H a xs)/\∀D,H D=none->DX (Itt K a) D g tc te (R D) τ (upd H D (.lst []))) :=
 AGq (R:=λJ H=>∀D,H D=none->DX J D g tc te (R D) τ (upd H D (.lst []))) hS
  (λz D hD=>by obtain⟨Pv,a,b,c,d⟩:=h D hD;exact(Ph hS Pv a b c d).1 z)
  (λz D hD=>by obtain⟨Pv,a,b,c,d⟩:=h D hD;exact(Ph hS Pv a b c d).2 z)
end L2
namespace L2
open PySem PySem.Spec PyProof.Rows PySem.W
def Vals.app(h:Vals xs us)(k:Vals ys vs):Vals (xs++ys) (us++vs):=by
 induction h with
 | nil=>exact k
 | cons r t ih=>exact .cons r ih
def rAddL(K:As):R2:=λx y H Q=>∃a b xs ys,x=.ref a/\y=.ref b/\SqL K H a xs/\SqL K H b ys/\xs.length+ys.length<=sizeLine/\∀p,H p=none->Q (.ref p) (upd H p (.lst (xs++ys)))
def Yk:OpR X (Hk .Add) (rAddL X.K):=by
 intro aI s σ H x y v u Q I rx ry h;obtain⟨a,b,xs,ys,rfl,rfl,ha,hb,hz,q⟩:=h;cases rx;cases ry;obtain⟨vs,r1,p1,_⟩:=I.list ha;obtain⟨ws,r2,p2,_⟩:=I.list hb;have hl:=p1.isList;have lv:=p2.isList;obtain⟨⟨cls,dd,data,sl⟩,ho,hc,n,hd⟩:=id hl;obtain⟨⟨nc,i7,XW,jI⟩,gv,io,n2,dL⟩:=id lv;simp only at hc hd io dL;subst hc hd io dL;have e:vs.toArray++ws.toArray=(vs++ws).toArray:=by simp
 have l1:=r1.length;have l2:=r2.length;refine O0 ⟨_,ho,ξ⟩ ⟨_,gv,ξ⟩ noFill_list_add seq_list_add PySem.F.slot_list_add PySem.F.entry_list_add (PySem.F.args_list_add_2 _ _) (list_addW a b vs.toArray ws.toArray n n2 dd i7 sl jI (by rw[AO,AO];exact yF hz l1 l2)) ⟨ho,gv,?_⟩;rw[e];refine⟨.ref s.heap.objs.size,_,I.laid (t':=s.toks) (o:=.lst (xs++ys)) (λb ob q=>AE _ q) (AI _) ?_,ξ,q _ (I.hok.fresh (AI _))⟩;exact⟨by rw[A2];exact hz,_,0,Vals.app r1 r2,AQ _ rfl⟩
structure Own(K:Frag)(C:Addr):Prop where
 ha:findIn K (.ref C) "__class__" = u8 (u8 (.builtin "object.__class__"))
 hn:specialIn K (.builtin "object.__class__") "__get__" = u8 (u8 (.builtin "getset_descriptor.__get__"))
 tk:takesIn K (.builtin "object.__class__")=u8 true
 hm:mroIn K C (.type "object")=u8 true
 is:kitOne K (.ref C) (.ref C)=u8 true
end L2
namespace L2
open PySem PySem.Spec PyProof.Rows
section
variable{κ:Type}[DecidableEq κ]
noncomputable def valV(aT:List (κ×V))(k:κ):Option V:=(aT.find? λkv=>decide (kv.1=k)).map (·.2)
noncomputable def putK(aT:List (κ×V))(k:κ)(v:V):List (κ×V) :=
 if(aT.any λkv=>decide (kv.1=k))=true then aT.map (λkv=>if kv.1=k then(kv.1,v) else kv) else aT++[(k,v)]
def CV{p:κ×V}{r:List (κ×V)}{k:κ}(e:p.1=k):valV (p::r) k=u8 p.2:=by simp[valV,G3,e]
def CW{p:κ×V}{r:List (κ×V)}{k:κ}(e:¬ p.1=k):valV (p::r) k=valV r k:=by simp[valV,G3,e]
theorem Gf(k:κ):∀aT:List (κ×V),(aT.any λkv=>decide (kv.1=k))=(valV aT k).isSome
 | []=>rfl
 | p::r=>by
  rw[J3];by_cases e:p.1=k
  .simp only[CV e,vC e,Bool.true_or,Option.isSome_some]
  .rw[CW e,vD e,W5];exact Gf k r
theorem Vv(k j:κ)(y:V):∀aT:List (κ×V),valV (aT.map λkv=>if kv.1=k then(kv.1,y) else kv) j=(valV aT j).map λx=>if j=k then y else x
 | []=>rfl
 | p::r=>by
  have ih:=Vv k j y r;rw[BO];by_cases h:p.1=k
  .rw[vB h]
   by_cases e:p.1=j
   .rw[CV (p:=(p.1,y)) e,CV e,MT,vB (e.symm.trans h)]
   .rw[CW (p:=(p.1,y)) e,CW e,ih]
  .rw[vA h]
   by_cases e:p.1=j
   .rw[CV (p:=p) e,CV e,MT,vA (λz=>h (e.trans z))]
   .rw[CW (p:=p) e,CW e,ih]
theorem QC(k j:κ)(y:V):∀aT:List (κ×V),valV aT k=none->valV (aT++[(k,y)]) j=if j=k then u8 y else valV aT j
 | [],_=>by
  by_cases e:k=j
  .rw[vB e.symm];exact CV (p:=(k,y)) e
  .rw[vA (λz=>e z.symm)];exact CW (p:=(k,y)) e
 | p::r,hn=>by
  rw[O8];have hk:¬ p.1=k:=λz=>by rw[CV z] at hn;cases hn
  rw[CW hk] at hn;have ih:=QC k j y r hn;by_cases e:p.1=j
  .rw[CV e,CV e,vA (λz=>hk (e.trans z))]
  .rw[CW e,CW e,ih]
def Em(aT:List (κ×V))(k j:κ)(y:V):valV (putK aT k y) j=if j=k then u8 y else valV aT j:=by
 unfold putK;by_cases a:(aT.any λkv=>decide (kv.1=k))=true
 .rw[vB a,Vv]
  rw[Gf] at a;by_cases e:j=k
  .obtain⟨x,hx⟩:=G0.mp a
   rw[vB e,e,hx,MT,vB rfl]
  .rw[vA e]
   cases valV aT j with
   | none=>rfl
   | some x=>rw[MT,vA e]
 .rw[vA a]
  refine QC k j y aT ?_;rw[Gf] at a;cases q:valV aT k with
  | none=>rfl
  | some x=>rw[q] at a;exact(a rfl).elim
def Cd(aT:List (κ×V))(k:κ)(v:V):(putK aT k v).length<=aT.length+1:=by
 unfold putK;split
 .rw[AB];exact vq
 .rw[A2,C5,HU];lia
def JQ{aT:List (κ×V)}{k:κ}(v:V)(h:valV aT k=u9):putK aT k v=aT++[(k,v)]:=by
 unfold putK;rw[Gf,h];exact vA ζ
def RelO.isSome_eq{o:Option V}{u:vS}(r:RelO o u):o.isSome=u.isSome:=by
 cases o with
 | none=>cases u with
  | none=>rfl
  | some _=>exact r.elim
 | some _=>cases u with
  | none=>exact r.elim
  | some _=>rfl
def RelO.getD{o:Option V}{u:vS}{d:V}{d':Au}(r:RelO o u)(rd:RelV d d'):RelV (o.getD d) (u.getD d'):=by
 cases o with
 | none=>cases u with
  | none=>exact rd
  | some _=>exact r.elim
 | some _=>cases u with
  | none=>exact r.elim
  | some _=>exact r
def KV.val{aT:List (κ×V)}{vs:List (κ×Au)}(r:KV aT vs)(k:κ):RelO (valV aT k) (OS vs k):=by
 unfold KV at r
 induction r with
 | nil=>exact IE
 | @cons p q ps qs h t ih =>
  obtain⟨h1,h2⟩:=h;by_cases e:p.1=k
  .have e':=h1.symm.trans e
   have b:OS (q::qs) k=u8 q.2:=by simp[OS,G3,e']
   rw[CV e,b];exact h2
  .have e':¬ q.1=k:=λz=>e (h1.trans z)
   have b:OS (q::qs) k=OS qs k:=by simp[OS,G3,e']
   rw[CW e,b];exact ih
def KV.any{aT:List (κ×V)}{vs:List (κ×Au)}(r:KV aT vs)(k:κ):(aT.any λkv=>decide (kv.1=k))=vs.any λkv=>decide (kv.1=k):=by
 unfold KV at r
 induction r with
 | nil=>rfl
 | cons h t ih=>rw[J3,J3,ih,h.1]
def KV.repl{aT:List (κ×V)}{vs:List (κ×Au)}(r:KV aT vs)(k:κ)(ry:RelV y u) :
  KV (aT.map λkv=>if kv.1=k then(kv.1,y) else kv) (vs.map λkv=>if kv.1=k then(kv.1,u) else kv):=by
 unfold KV at r ⊢
 induction r with
 | nil=>exact .nil
 | @cons p q ps qs h t ih =>
  rw[BO,BO];refine .cons ?_ ih;obtain⟨h1,h2⟩:=h;by_cases e:p.1=k
  .rw[vB e,vB (h1.symm.trans e)];exact⟨h1,ry⟩
  .rw[vA e,vA (λz=>e (h1.trans z))];exact⟨h1,h2⟩
def KV.put{aT:List (κ×V)}{vs:List (κ×Au)}(r:KV aT vs)(k:κ)(ry:RelV y u):KV (putK aT k y) (stored vs k u):=by
 unfold putK stored;rw[r.any k];by_cases e:(vs.any λkv=>decide (kv.1=k))=true
 .rw[vB e,vB e];exact r.repl k ry
 .rw[vA e,vA e];exact UI r ⟨ξ,ry⟩
def KV.length{aT:List (κ×V)}{vs:List (κ×Au)}(r:KV aT vs):aT.length=vs.length:=AT r
end
def PB{k:Key}(r:RelV (kV k) u):(CJ P w).is k u=true:=by
 cases k with
 | inl i=>obtain⟨t,e⟩:=r;subst e;exact Vb P w i t
 | inr x=>obtain⟨t,e⟩:=r;subst e;exact Ve P w x t
theorem Pj{P:AL}{w:AR}:∀{ks:List Key}{us:vO},Vals (ks.map kV) us->ItemsAre (CJ P w) ks us
 | [],_,r=>by rw[LJ] at r;cases r;exact .nil
 | k::ks,_,r=>by
  rw[BO] at r;cases r with
  | cons h t=>exact .cons (PB h) (Pj t)
abbrev KT(H:Hp):List (List Key×V)->List (List Key×Addr×Au)->Prop:=A9 λp q=>p.1=q.1/\H q.2.1=u8 (.tup (p.1.map kV))/\RelV p.2 q.2.2
def KT.val{xs:List (List Key×Addr×Au)}(r:KT H aT xs)(k:List Key):RelO (valV aT k) ((J4 xs k).map (·.2)):=by
 induction r with
 | nil=>exact IE
 | @cons p q ps qs h t ih =>
  obtain⟨h1,_,h2⟩:=h;by_cases e:p.1=k
  .have e':=h1.symm.trans e
   have b:J4 (q::qs) k=u8 q.2:=by simp[J4,G3,e']
   rw[CV e,b];exact h2
  .have e':¬ q.1=k:=λz=>e (h1.trans z)
   have b:J4 (q::qs) k=J4 qs k:=by simp[J4,G3,e']
   rw[CW e,b];exact ih
def KT.repl{xs:List (List Key×Addr×Au)}(r:KT H aT xs)(k:List Key)(ry:RelV y u) :
  KT H (aT.map λkv=>if kv.1=k then(kv.1,y) else kv) (xs.map (putAt k u)):=by
 induction r with
 | nil=>exact .nil
 | @cons p q ps qs h t ih =>
  rw[BO,BO];refine .cons ?_ ih;obtain⟨h1,h2,h3⟩:=h;unfold putAt;by_cases e:p.1=k
  .rw[vB e,vB (h1.symm.trans e)];exact⟨h1,h2,ry⟩
  .rw[vA e,vA (λz=>e (h1.trans z))];exact⟨h1,h2,h3⟩
def KT.put{xs:List (List Key×Addr×Au)}(r:KT H aT xs)(k:List Key)(hb:H b=u8 (.tup (k.map kV)))(ry:RelV y u) :
  KT H (putK aT k y) (TH xs k b u):=by
 have e:(aT.any λkv=>decide (kv.1=k))=(J4 xs k).isSome:=by
  rw[Gf,(r.val k).isSome_eq,L3]
 unfold putK TH;rw[e];by_cases q:(J4 xs k).isSome=true
 .rw[vB q,vB q];exact r.repl k ry
 .rw[vA q,vA q];exact UI r ⟨ξ,hb,ry⟩
def KT.keeps{xs:List (List Key×Addr×Au)}(r:KT H aT xs)(ht:∀b ys,H b=u8 (.tup ys)->H' b=u8 (.tup ys)):KT H' aT xs :=
 vV r λ_ _ z=>⟨z.1,ht _ _ z.2.1,z.2.2⟩
def AGQ{u:HO}(ok:HOk P w H h)(e:Rd H a u):ObjOk P w H h a u:=e.ok ok
def Pb{aT:List (Key×V)}(ok:HOk P w H h)(e:Rd H a (.dK aT)):aT.length<=sizeLine/\(a==EA)=false/\∃vs,KV aT vs/\h.DictOf (CJ P w) a vs :=
 show ObjOk P w H h a (.dK aT) from AGQ ok e
def AGL{aT:List (Key×V)}(ok:HOk P w H h)(e:H a=u8 (.dK aT)):aT.length<=sizeLine/\(a==EA)=false/\∃vs,KV aT vs/\h.DictOf (CJ P w) a vs:=Pb ok (.inl e)
def Nj{ks:List Key}(ok:HOk P w H h)(e:H a=u8 (.tup (ks.map kV))):(NL (CJ P w)).is h ks a:=by
 obtain⟨_,a5,r,o,h1,h2,n,h3⟩:=(ok a _ e);exact⟨o,a5.toArray,n,h1,h2,h3,by simpa using Pj r⟩
def QV(ok:HOk P w H h)(e:Rd H a (.dT aT)):aT.length<=sizeLine/\(a==EA)=false /\
  ∃xs,KT H aT xs/\h.DictOfH (NL (CJ P w)) a xs:=by
 obtain⟨z,y,xs,r,o,es,ep,h1,h2,h3,h4,h5⟩:=(AGQ ok e);refine⟨z,y,xs,r,o,es,ep,h1,h2,h3,h4,λx hx=>?_,h5⟩;have all:∀{l:List (List Key×V)}{m:List (List Key×Addr×Au)},KT H l m->∀x∈m,(NL (CJ P w)).is h x.1 x.2.1:=by
  intro l m q
  induction q with
  | nil=>intro x hx;exact nomatch hx
  | @cons p q ps qs hq t ih =>
   intro x hx;rcases AY.mp hx with e| hx
   .subst e
    exact Nj ok (by rw[<- hq.1];exact hq.2.1)
   .exact ih x hx
 exact all r x hx
def AIU(ok:HOk P w H h)(e:H a=u8 (.dT aT)):aT.length<=sizeLine/\(a==EA)=false /\
  ∃xs,KT H aT xs/\h.DictOfH (NL (CJ P w)) a xs:=QV ok (.inl e)
def DGet(H:Hp)(a:Addr)(y:V)(r:Option V):Prop :=
 (∃aT k,Rd H a (.dK aT)/\y=kV k/\r=valV aT k)\/∃aT k b,Rd H a (.dT aT)/\y=.ref b/\H b=u8 (.tup (k.map kV))/\r=valV aT k
def DPut(H:Hp)(a:Addr)(y v:V)(H':Hp):Prop :=
 (∃aT k,H a=u8 (.dK aT)/\y=kV k/\aT.length<sizeLine/\H'=upd H a (.dK (putK aT k v))) \/
 ∃aT k b,H a=u8 (.dT aT)/\y=.ref b/\H b=u8 (.tup (k.map kV))/\aT.length<sizeLine/\H'=upd H a (.dT (putK aT k v))
def DGet.k{H:Hp}{a:Addr}{aT:List (Key×V)}{k:Key}(e:H a=u8 (.dK aT)):DGet H a (kV k) (valV aT k):=.inl ⟨aT,k,.inl e,ξ,ξ⟩
def vb{k:List Key}(e:H a=u8 (.dT aT))(eb:H b=u8 (.tup (k.map kV))):DGet H a (.ref b) (valV aT k):=.inr ⟨aT,k,b,.inl e,ξ,eb,ξ⟩
section
variable{r:Au}{o:Option V}
def Inv.big(I:Inv X aI σ H s):EA<s.heap.objs.size:=by
 have h:=(I.mod.glob.keeps I.bk).lt;exact X3 ζ h
def AAd(hu:A.units+1<Cs)(I:Inv X aI σ H s)(g:DGet H a y (u8 v))(ry:RelV y u)(h:∀w' s',Inv X aI σ H s'->RelV v w'->Q w' s') :
  wpAny (AN X.prog X.w) A (MC (.ref a) u) Q E s:=by
 rcases g with⟨aT,k,e,ey,l⟩| ⟨aT,k,b,e,ey,eb,l⟩
 .subst ey
  obtain⟨z,hd,vs,cE,dd⟩:=Pb I.hok e;obtain⟨w',hw,eC⟩:=vX (v:=v) (o:=OS vs k) (by rw[l];exact cE.val k);exact wpAny_getItem_of (PB ry) dd.mapOf hw (h w' _ (I.tok _) eC)
 .subst ey
  cases ry;obtain⟨z,hd,xs,cE,dd⟩:=QV I.hok e;obtain⟨w',hw,eC⟩:=vX (v:=v) (o:=(J4 xs k).map (·.2)) (by rw[l];exact cE.val k);obtain⟨p,hp,h8⟩:=QI.mp hw;refine S7 (LM hu) (Nj I.hok eb) dd hp ?_;rw[h8];exact h w' _ (I.tok _) eC
def AIw(hu:A.units+1<Cs)(I:Inv X aI σ H s)(g:DGet H a y o)(ry:RelV y u)(h:∀s',Inv X aI σ H s'->Q (.bool o.isSome) s') :
  wpAny (AN X.prog X.w) A (DS .In u (.ref a)) Q E s:=by
 rcases g with⟨aT,k,e,ey,l⟩| ⟨aT,k,b,e,ey,eb,l⟩
 .subst ey
  obtain⟨z,hd,vs,cE,dd⟩:=Pb I.hok e;refine wpAny_in_of (PB ry) hd dd.mapOf ?_;rw[<- (cE.val k).isSome_eq,<- l];exact h _ (I.tok _)
 .subst ey
  cases ry;obtain⟨z,hd,xs,cE,dd⟩:=QV I.hok e;refine wpAny_in_heap (LM hu) (Nj I.hok eb) hd dd ?_;have q:=(cE.val k).isSome_eq;rw[L3] at q;rw[<- q,<- l];exact h _ (I.tok _)
def Kh{ob:HO}(I:Inv X aI σ H s)(mu:Mut (H a))(hs:ET a s.heap h')(he:∃q,h'.get? a=u8 q)(new:ObjOk X.prog X.w (upd H a ob) h' a ob) :
  Inv X aI σ (upd H a ob) {s with heap:=h',toks:=t'} :=
 I.write (x:=a) (e:=a) mu (.inl rfl) (λb q hb z=>(hs.2 b hb).trans z) he new
def ADw{aT:List (Key×V)}{vs:List (Key×Au)}(z:aT.length<=sizeLine)(hd:(a==EA)=false)(cE:KV aT vs)(dd:h'.DictOf (CJ P w) a vs) :
  ObjOk P w H' h' a (.dK aT):=⟨z,hd,vs,cE,dd⟩
def AAZ{Q:vL}(hu:A.units+1<Cs)(I:Inv X aI σ H s)(g:DPut H a y v H')(ry:RelV y u)(rv:RelV v r)(h:∀s',Inv X aI σ H' s'->Q () s') :
  wpAny (AN X.prog X.w) A (V8 (.ref a) u r) Q E s:=by
 rcases g with⟨aT,k,e,ey,l,eH⟩| ⟨aT,k,b,e,ey,eb,l,eH⟩
 .subst ey eH
  obtain⟨z,hd,vs,cE,dd⟩:=AGL I.hok e;have hz:vs.length<=sizeLine:=by rw[<- cE.length];exact z
  have hl:(putK aT k v).length<=sizeLine:=by have:=Cd aT k v;exact xZ this l
  refine wpAny_setItem_pairs (hsz:=hz) (PB ry) dd λh' md hs=>h _ ?_;have he:∃q,h'.get? a=u8 q:=by obtain⟨q,_,_,hq,_⟩:=md;exact⟨q,hq⟩
  exact Kh I (by rw[e];exact IE) hs he (ADw hl hd (cE.put k rv) md)
 .subst ey eH
  cases ry;obtain⟨z,hd,xs,cE,dd⟩:=AIU I.hok e;have hz:xs.length<=sizeLine:=by rw[<- AT cE];exact z
  have hl:(putK aT k v).length<=sizeLine:=by have:=Cd aT k v;exact xZ this l
  refine S8 (hsz:=hz) (LM hu) (Nj I.hok eb) dd λh' md hs=>h _ ?_;obtain⟨q,es,ep,hq,h2,h3,h4,_,h5⟩:=md;refine Kh I (by rw[e];exact IE) hs ⟨q,hq⟩ ⟨hl,hd,_,(cE.put k eb rv).keeps λc ys ec=>?_,q,es,ep,hq,h2,h3,h4,h5⟩;rw[Ag (Cu ec e (λz=>nomatch z))];exact ec
end
def NoSl(i:Expr):Prop:=∀ov iv,QA i false ov iv=operate [ov,iv] (MC ov iv)
def ZW{env:Env}{ci:Expr}{id:String}
  (hl:OI (.type T) "__getitem__" = pure (u8 (.builtin id))) (hs:NoSl ci)
  (h:wpAny (AN prog w) A (eval bn env) (λo s₁=>wpAny (AN prog w) A (eval ci env) (λi s₂=>s₂.TypeIs o T/\wpAny (AN prog w) A (MC o i) Q E s₂) E s₁) E s) :
  wpAny (AN prog w) A (eval (.Subscript bn ci pos) env) Q E s:=by
 refine VM (D9 h (λo s₁ h₁=>D9 h₁ (λi s₂ h₂=>?_) λ_ _ x=>x) λ_ _ x=>x);obtain⟨hT,h₂⟩:=h₂;unfold subscriptTail;refine Ap ?_;rw[getitemInPython_of_ne hT.not_modules];refine Ap (FK hT hl ?_);have fin:wpAny (AN prog w) A (QA ci false o i) (λr s₃=>wpAny (AN prog w) A (letTemporaryGo bn o r >>= λ_=>pure r) Q E s₃) E s₂:=by
  rw[hs o i];exact wpAny_operating (D9 h₂ (λr s₃ h₃=>Ap (wpAny_letTemporaryGo (AC h₃))) λ_ _ x=>x)
 first
  | exact AC (Ap fin)
  | exact Ap (AC (Ap fin))
  | exact Ap fin
def Vw{o:Option V}(I:Inv X aI σ H s)(g:DGet H a y o):s.TypeIs (.ref a) "dict":=by
 rcases g with⟨aT,k,e,_,_⟩| ⟨aT,k,b,e,_,_,_⟩
 .obtain⟨_,_,vs,_,dd⟩:=Pb I.hok e
  exact dd.typeIs
 .obtain⟨_,_,xs,_,dd⟩:=QV I.hok e
  exact dd.typeIs
def AIS(td ty:TE):TE:=λσ H Q=>td σ H λx H1=>ty σ H1 λy H2=>∃a v,x=.ref a/\DGet H2 a y (u8 v)/\Q v H2
def AIl(ty td:TE):TE:=λσ H Q=>ty σ H λy H1=>td σ H1 λx H2=>∃a o,x=.ref a/\DGet H2 a y o/\Q (.bl o.isSome) H2
def AHz(td ty tv:TE):TS:=λD σ H=>tv σ H λv H1=>td σ H1 λx H2=>ty σ H2 λy H3=>∃a H4,x=.ref a/\DPut H3 a y v H4/\D.nx σ H4
section
variable{o i:Expr}{ty:TE}
def RP(hu:X.A.units+1<Cs)(ho:PE X o td)(hi:PE X i ty)(hs:NoSl i):PE X (.Subscript o i pos) (AIS td ty):=by
 intro aI s σ H Q I h;refine ZW OK.lookup hs (thn (ho aI s σ H _ I h) λu s1 ⟨x,H1,I1,rx,q1⟩=>thn (hi aI s1 σ H1 _ I1 q1) λiv s2 hq=>?_);obtain⟨y,H2,I2,ry,a,v,ex,g,q2⟩:=hq;subst ex;obtain rfl:u=A7 a:=rx;exact⟨Vw I2 g,AAd hu I2 g ry λw' s3 I3 eC=>⟨v,H2,I3,eC,q2⟩⟩
def ADx(hu:X.A.units+1<Cs)(hi:PE X i ty)(ho:PE X o td):PC X .In i o (AIl ty td):=by
 intro aI s σ H Q I h;refine thn (hi aI s σ H _ I h) λiv s1 ⟨y,H1,I1,ry,q1⟩=>thn (ho aI s1 σ H1 _ I1 q1) λu s2 hq=>?_;obtain⟨x,H2,I2,rx,a,ov,ex,g,q2⟩:=hq;subst ex;obtain rfl:u=A7 a:=rx;exact AIw hu I2 g ry λs3 I3=>⟨.bl ov.isSome,H2,I3,ξ,q2⟩
def Ku(hu:X.A.units+1<Cs)(ho:PE X o td)(hi:PE X i ty)(hv:PE X bn tv)(hs:MA bn (u8 (.Subscript o i bX)) pos.line X.env=pure false) :
  PS X (.Assign [.Subscript o i bX] bn pos) (AHz td ty tv):=by
 intro aI s σ H D I h;refine QN (thn (hv aI s σ H _ I h) λr s1 ⟨v,H1,I1,rv,q1⟩=>thn (ho aI s1 σ H1 _ I1 q1) λu s2 ⟨x,H2,I2,rx,q2⟩=>thn (hi aI s2 σ H2 _ I2 q2) λiv s3 hq=>?_) hs;obtain⟨y,H3,I3,ry,a,H4,ex,g,q3⟩:=hq;subst ex;obtain rfl:u=A7 a:=rx;exact AAZ hu I3 g ry rv λs4 I4=>⟨σ,H4,I4,q3⟩
end
def AEH(h:Heap)(hb:EA<h.objs.size):ObjOk P w H (h.push {cls:=.type "dict",data:=.dict #[]}) h.objs.size (.dK []) :=
 ⟨Bz _,beq_eq_false_iff_ne.mpr (BU (BF hb)),[],.nil,ay h⟩
def ACg(h:Heap)(hb:EA<h.objs.size):ObjOk P w H (h.push {cls:=.type "dict",data:=.dict #[]}) h.objs.size (.dT []) :=
 ⟨Bz _,beq_eq_false_iff_ne.mpr (BU (BF hb)),[],.nil,_,#[],0,AQ _ rfl,⟨ξ,ξ,ξ⟩,ξ,ξ,Q4⟩
def AHi:TE:=λ_ H Q=>∀p,H p=none->Q (.ref p) (upd H p (.dT []))
def ABX:PE X (.Dict [] [] pos) AHi:=λaI s σ H Q I h =>
 wpAny_Dict_empty ⟨.ref s.heap.objs.size,_,I.laid (a:=s.heap.objs.size) (o:=.dT []) (t':=s.toks) (λ_ _ q=>AE _ q) (AI _) (ACg s.heap I.big),ξ,h _ (I.hok.fresh (AI _))⟩
def Wz:List (TE×TE)->St->Hp->(List (V×V)->Hp->Prop)->Prop
 | [],_,H,Q=>Q [] H
 | (tk,tv)::r,σ,H,Q=>tk σ H λx H1=>tv σ H1 λy H2=>Wz r σ H2 λps H3=>Q ((x,y)::ps) H3
abbrev VV:List (V×V)->List (Au×Au)->Prop:=A9 λp q=>RelV p.1 q.1/\RelV p.2 q.2
def PPs(X:Cx)(pos:Pos)(keys:List (Option Expr))(dP:vR)(mr:List (TE×TE)):Prop :=
 ∀(aI:vN) (s:AA) (σ:St) (H:Hp) (Q:List (V×V)->Hp->Prop),Inv X aI σ H s->Wz mr σ H Q ->
  wpAny (AN X.prog X.w) X.A (evalPairs (pairTrees keys dP X.env pos)) (λvs s'=>∃ps H',Inv X aI σ H' s'/\VV ps vs/\Q ps H') X.xe s
def Yu:PPs X pos [] [] []:=λaI s σ H Q I h=>pairTrees_nil_walk ⟨[],H,I,.nil,h⟩
def NQ{k v:Expr}{ks:List (Option Expr)}{vs:vR}{tk:TE}(hk:PE X k tk)(hv:PE X v tv)(hr:PPs X pos ks vs mr) :
  PPs X pos (u8 k::ks) (v::vs) ((tk,tv)::mr):=λaI s σ H Q I h =>
 pairTrees_cons_walk (thn (hk aI s σ H _ I h) λu s1 ⟨x,H1,I1,rx,q1⟩=>thn (hv aI s1 σ H1 _ I1 q1) λw2 s2 ⟨y,H2,I2,ry,q2⟩ =>
  thn (hr aI s2 σ H2 _ I2 q2) λws s3 ⟨ps,H3,I3,cE,q3⟩=>⟨(x,y)::ps,H3,I3,.cons ⟨rx,ry⟩ cE,q3⟩)
noncomputable def mergeK(aT more:List (Key×V)):List (Key×V):=more.foldl (λacc kv=>putK acc kv.1 kv.2) aT
def KV.merge:∀{more:List (Key×V)}{rs:List (Key×Au)}{aT:List (Key×V)}{vs:List (Key×Au)},KV more rs->KV aT vs->KV (mergeK aT more) (merged vs rs):=by
 intro more rs aT vs r;unfold KV at r
 induction r generalizing aT vs with
 | nil=>intro q;exact q
 | @cons p q ps qs h t ih =>
  intro r0;have e:KV (putK aT p.1 p.2) (stored vs q.1 q.2):=by
   have:=r0.put p.1 h.2;rw[<- h.1];exact this
  exact ih e
theorem Hs:∀(more aT:List (Key×V)),(mergeK aT more).length<=aT.length+more.length
 | [],aT=>by show aT.length<=aT.length+0;exact vq
 | p::r,aT=>by
  have h1:=Hs r (putK aT p.1 p.2);have h2:=Cd aT p.1 p.2;show(mergeK (putK aT p.1 p.2) r).length<=_;rw[C5];lia
theorem Mq{P:AL}{w:AR}:∀{aT:List (Key×V)}{ws:List (Au×Au)},VV (aT.map λkv=>(kV kv.1,kv.2)) ws->∃rs,Carries (CJ P w) ws rs/\KV aT rs
 | [],_,r=>by rw[LJ] at r;cases r;exact⟨[],IE,.nil⟩
 | p::aT,_,r=>by
  rw[BO] at r;cases r with
  | @cons a b as bs h t =>
   obtain⟨rs,c,q⟩:=Mq (P:=P) (w:=w) t;obtain⟨b1,b2⟩:=b;exact⟨(p.1,b2)::rs,⟨PB h.1,ξ,c⟩,.cons ⟨ξ,h.2⟩ q⟩
def AHs(mr:List (TE×TE)):TE:=λσ H Q=>∀p,H p=none->Wz mr σ (upd H p (.dK [])) λps H2=>H2 p=u8 (.dK [])/\∃aT:List (Key×V),ps=aT.map (λkv=>(kV kv.1,kv.2))/\aT.length<=15/\Q (.ref p) (upd H2 p (.dK (mergeK [] aT)))
def Yd{keys:List (Option Expr)}{dP:vR}(h:PPs X pos keys dP mr)(ck:keys.all (·.isSome)=true)(hl:keys.length=dP.length)(h0:keys≠[])
  (h15:keys.length<=15):PE X (.Dict keys dP pos) (AHs mr):=by
 intro aI s σ H Q I q;have hn:=I.hok.fresh (AI s.heap.objs.size);have I1:=I.laid (a:=s.heap.objs.size) (o:=.dK []) (h':=s.heap.push {cls:=.type "dict",data:=.dict #[]}) (t':=s.toks) (λ_ _ q=>AE _ q) (AI _) (AEH s.heap I.big);refine wpAny_Dict_walk (knd:=CJ X.prog X.w) ck hl h0 h15 (thn (h aI _ σ _ _ I1 (q _ hn)) λws s2 hq=>?_);obtain⟨ps,H2,I2,cE,e,aT,ep,lk,q2⟩:=hq;subst ep;obtain⟨rs,c,rk⟩:=Mq (P:=X.prog) (w:=X.w) cE;obtain⟨z,hd,vs0,r0,dd⟩:=AGL I2.hok e;cases r0;refine⟨rs,c,dd,λh' md hs=>⟨.ref s.heap.objs.size,_,?_,ξ,q2⟩⟩;have hz:(mergeK [] aT).length<=sizeLine:=by
  have h1:=Hs aT [];rw[HU] at h1;rw[EW];lia
 have he:∃q,h'.get? s.heap.objs.size=u8 q:=by obtain⟨q,_,_,hq,_⟩:=md;exact⟨q,hq⟩
 exact Kh I2 (by rw[e];exact IE) hs he (ADw hz hd (rk.merge .nil) md)
structure M1(X:Cx)(o:Expr)(m:Str)(cf:Pos)(e:Expr)(bq:Pos):Prop where
 base:K6 o m X.env (eval o X.env)=eval o X.env
 few:((FB bq (B3 [e] X.env)).all (λx=>!x.1)&&(Ic bq (Fn [] X.env)).all (λx=>x.1.isSome)
  && decide (([e]:vR).length+([]:List K9).length+(if([]:List K9).isEmpty then 0 else 1)<30))=true
 line:(cf.endLine==bq.line)=true
 trees:FB bq (B3 [e] X.env)=[(false,eval e X.env)]
structure M2(X:Cx)(o:Expr)(m:Str)(cf:Pos)(e f:Expr)(bq:Pos):Prop where
 base:K6 o m X.env (eval o X.env)=eval o X.env
 few:((FB bq (B3 [e,f] X.env)).all (λx=>!x.1)&&(Ic bq (Fn [] X.env)).all (λx=>x.1.isSome)
  && decide (([e,f]:vR).length+([]:List K9).length+(if([]:List K9).isEmpty then 0 else 1)<30))=true
 line:(cf.endLine==bq.line)=true
 trees:FB bq (B3 [e,f] X.env)=[(false,eval e X.env),(false,eval f X.env)]
def IsD(H:Hp)(a:Addr):Prop:=(∃aT,Rd H a (.dK aT))\/∃aT,Rd H a (.dT aT)
def AGw(I:Inv X aI σ H s)(d:IsD H a) :
  s.TypeIs (.ref a) "dict"/\(∀b,A7 a=.ref b->∃ob,s.heap.get? b=u8 ob/\ob.dict=u9)/\(a==EA)=false:=by
 rcases d with⟨aT,e⟩| ⟨aT,e⟩
 .obtain⟨_,hd,vs,_,dd⟩:=Pb I.hok e
  refine⟨dd.typeIs,λb q=>?_,hd⟩;cases q;obtain⟨ob,_,_,h1,h2,_⟩:=dd;exact⟨ob,h1,h2.2.1⟩
 .obtain⟨_,hd,xs,_,dd⟩:=QV I.hok e
  refine⟨dd.typeIs,λb q=>?_,hd⟩;cases q;obtain⟨ob,_,_,h1,h2,_⟩:=dd;exact⟨ob,h1,h2.2.1⟩
section
variable{d:V}{r:Au}{o:Option V}
def AGn(hu:A.units+1<Cs)(I:Inv X aI σ H s)(g:DGet H a y o)(ry:RelV y u)(rd:RelV d r)(h:∀w' s',Inv X aI σ H s'->RelV (o.getD d) w'->Q w' s') :
  wpAny (AN X.prog X.w) A (call (.builtin "dict.get") [.ref a,u,r]) Q E s:=by
 rcases g with⟨aT,k,e,ey,l⟩| ⟨aT,k,b,e,ey,eb,l⟩
 .subst ey
  obtain⟨z,hd,vs,cE,dd⟩:=Pb I.hok e;refine S9 ME dd.typeIs QO (Ps _ _ _) (meets_dict_get_default (CJ X.prog X.w) a (PB ry) hd r) ⟨_,dd.mapOf,h _ _ (I.tok _) ?_⟩;rw[l];exact(cE.val k).getD rd
 .subst ey
  cases ry;obtain⟨z,hd,xs,cE,dd⟩:=QV I.hok e;refine S9 ME dd.typeIs QO (Ps _ _ _) (meetsH_dict_get_default (NL (CJ X.prog X.w)) a b hd r) ⟨LM hu,k,xs,Nj I.hok eb,dd,h _ _ (I.tok _) ?_⟩;rw[l];exact(cE.val k).getD rd
end
def AHZ(td ty tx:TE):TE:=λσ H Q=>td σ H λx H1=>∃a,x=.ref a/\IsD H1 a/\ty σ H1 λy H2=>tx σ H2 λz H3=>∃o,DGet H3 a y o/\Q (o.getD z) H3
section
variable{o f:Expr}{ty tx:TE}
def ACx(hu:X.A.units+1<Cs)(ho:PE X o td)(he:PE X e ty)(hf:PE X f tx)(m:M2 X o "get" cf e f bq):PE X (.Call (.Attribute o "get" cf) [e,f] [] bq) (AHZ td ty tx):=by
 intro aI s σ H Q I h;refine wpAny_Call_method m.base m.few m.line PySem.F.plainAttrs_dict ME PySem.F.type_dict_get (thn (ho aI s σ H _ I h) λu s1 hq=>?_);obtain⟨x,H1,I1,rx,a,ex,d,q1⟩:=hq;subst ex;obtain rfl:u=A7 a:=rx;obtain⟨t1,t2,_⟩:=AGw I1 d;refine⟨t1,t2,?_⟩;rw[m.trees];refine QH rfl (RR (F3 (thn (he aI s1 σ H1 _ I1 q1) λiv s2 ⟨y,H2,I2,ry,q2⟩ =>
  F3 (thn (hf aI s2 σ H2 _ I2 q2) λfv s3 ⟨z,H3,I3,rz,ov,g,q3⟩=>IB ?_))))
 exact AGn hu I3 g ry rz λw' s4 I4 eC=>⟨_,H3,I4,eC,q3⟩
end
end L2
namespace L2
open PySem PySem.Spec PyProof.Rows
open Sem (wp)
def AAv{es:Array NS}(hd:(d==EA)=false)(hT:s.TypeIs (.ref d) "dict")(ho:s.heap.get? d=u8 o)(iP:o.data=.dict es ep)
  (hQ:Q (.ref s.heap.objs.size) {s with heap:=s.heap.push {cls:=.type "dict_keyiterator",data:=.fields #[.ref d,.int 0 0,.int es.size 0,.int ep 0]}}) :
  wpAny (AN prog w) A (QU (.ref d)) Q E s:=by
 refine OB hT U3 (DM U3 hT F.entry_dict_iter ?_ (F.args_dict_iter_1 _));unfold Builtin.«dict.__iter__»;refine Ap ?_;unfold XZ;refine Ap (wpAny_notOrdered_dict hT ?_);refine AC ?_;show wpAny _ _ (Q5 d >>= _) _ _ s;unfold Q5;rw[vA (by rw[hd];exact BE)];refine Ap (AC ?_);refine Ap (L4 ho iP ?_);refine Ap (PV ho iP ?_);refine Ap (C0 (AC ⟨_,ξ, "dict_keyiterator",_,⟨_,AQ _ rfl,ξ⟩,FA.lookup,?_⟩));simpa [EZ] using hQ
def ADJ{es:Array NS}{od:Obj}{Q:vS->AA->Prop}(br:s.heap.IsKeyIter it d i es.size ep)
  (uf:s.heap.get? d=u8 od) (u6:od.data=.dict es ep) (hlt':i<es.size)
  (hQ:∀h',h'.IsKeyIter it d (i+1) es.size ep->ET it s.heap h'->Q (u8 es[i].key) {s with heap:=h'}) :
  wpAny (AN prog w) A (L9 (.ref it)) Q E s:=by
 obtain⟨o,ho,hc,hd⟩:=id br;unfold L9;refine Ap (N8 (wpAny_callSpecial?_slot (name:=HK "__next__") br.typeIs FA
  (DM FA br.typeIs M4 ?_ (MU _))))
 refine Ap (AC ?_);refine Ap ?_;refine Ap ?_
 first| refine Ap (Hb br.typeIs (AC ?_))| refine Ap (IX br.typeIs (AC ?_))
 refine Ap (Q6 ho hd ?_);have hown:NB "dict_keyiterator" = false:=by decide
 show wpAny _ _ (if(A7 d==Db)=true then _ else _) _ _ s;rw[vA (show ¬ ((A7 d==Db)=true) from BE)];refine Ap (AC ?_);refine Ap (L4 uf u6 ?_);rw[vA θ];refine Ap (AC ?_);refine Ap (PV uf u6 ?_);rw[vA θ];refine AC ?_;simp only[show ¬ ((i:Int)<0) from wm,if_false,B9,BC hlt'];refine Ap ?_
 first| refine Ap (Hb br.typeIs (AC ?_))| refine Ap (IX br.typeIs (AC ?_))
 refine Ap (Q7 br.typeIs ?_);show wpAny _ _ (setField (.ref it) 1 (EZ ((i:Int)+1)) >>= _) _ _ s;refine Ap (IR ho hd θ ?_);have iL:(s.heap.update it (N9 (·.setIfInBounds 1 (EZ ((i:Int)+1))))).IsKeyIter it d (i+1) es.size ep :=
  ⟨_,Ev _ ho (KB (E9 hd _)),(LY ..).trans hc,by rw[E9 hd];simp[EZ]⟩
 refine Ap (Dx ?_);refine Ap (Q7 (s:={s with heap:=s.heap.update it (N9 (·.setIfInBounds 1 (EZ ((i:Int)+1))))}) iL.typeIs ?_);exact AC (AC ⟨_,ξ,AC (hQ _ iL (Ee ..))⟩)
def AAi{es:Array NS}{od:Obj}{Q:vS->AA->Prop}(hh:A.handled=u9)(br:s.heap.IsKeyIter it d i es.size ep)
  (uf:s.heap.get? d=u8 od) (u6:od.data=.dict es ep) (tO:es.size<=i)
  (hQ:∀h',UD it s.heap h'->Q u9 {s with heap:=h'}):wpAny (AN prog w) A (L9 (.ref it)) Q E s:=by
 obtain⟨o,ho,hc,hd⟩:=id br;unfold L9;refine Ap (N8 (wpAny_callSpecial?_slot (name:=HK "__next__") br.typeIs FA
  (DM FA br.typeIs M4 ?_ (MU _))))
 refine Ap (AC ?_);refine Ap ?_;refine Ap ?_
 first| refine Ap (Hb br.typeIs (AC ?_))| refine Ap (IX br.typeIs (AC ?_))
 refine Ap (Q6 ho hd ?_);have hown:NB "dict_keyiterator" = false:=by decide
 show wpAny _ _ (if(A7 d==Db)=true then _ else _) _ _ s;rw[vA (show ¬ ((A7 d==Db)=true) from BE)];refine Ap (AC ?_);refine Ap (L4 uf u6 ?_);rw[vA θ];refine Ap (AC ?_);refine Ap (PV uf u6 ?_);rw[vA θ];refine AC ?_;simp only[show ¬ ((i:Int)<0) from wm,if_false,B9,HC tO];refine Ap ?_
 first| refine Ap (Hb br.typeIs (AC ?_))| refine Ap (IX br.typeIs (AC ?_))
 show wpAny _ _ (setField (.ref it) 0 .none >>= _) _ _ s;refine Ap (IR ho hd θ ?_);refine Ap ?_;refine Ap (C0 ?_ (by size_fits));refine Ap (m:=KF _ _) (Lm (a:=Db) (by first| rfl| (simp only[KF];rfl)) ?_);refine C0 ?_ (by size_fits);refine Ap (Sk ?_);rw[show A.in1.handled=u9 from hh];refine Ap (AC (UE ?_));refine Ap (Hm (T:="StopIteration") (b:=true) ⟨_,AQ _ rfl,ξ⟩ WE ?_);exact AC (hQ _ (((Ee ..).extBut.push _).push _))
end L2
namespace L2
open PySem PySem.Spec PyProof.Rows
section
variable{es:Array NS}
def WK(hh:A.handled=u9)(I:Addr)(cS:d≠I)(hd:o.data=.dict es ep) :
  Walks prog w A I [I,d] [I] es.size (λi v=>∃e,es[i]?=u8 e/\v=e.key) (λi h=>h.IsKeyIter I d i es.size ep/\h.get? d=u8 o) where
 sub:=λb hb=>by simp at hb;simp[hb]
 frame:=λ_ _ _ st hk=>⟨st.1.at λo e=>hk I θ o e,hk d θ o st.2⟩
 item:=λi s Q E hi st hQ=>by
  refine ADJ st.1 st.2 hd hi λh' iL lT=>?_;exact hQ _ h' s.toks ⟨es[i],by simp[hi],ξ⟩ ⟨iL,lT.extBut d o cS st.2⟩ λb o hb e=>lT.extBut b o (λh=>hb (by simp[h])) e
 done:=λs Q E st hQ=>AAi hh st.1 st.2 hd (AI _) λh' he'=>hQ h' s.toks λb o hb e=>he' b o (λh=>hb (by simp[h])) e
 self:=λ_ _ _ _ st hQ=>wpAny_pyIter_keyiter st.1 hQ
def ADH(lo:(d==EA)=false)(hx:o.ExactDict)(hd:o.data=.dict es ep) :
  PySem.W.KdlSrc prog w "dict" d d es.size (λi v=>∃e,es[i]?=u8 e/\v=e.key) (λh=>h.get? d=u8 o) where
 type:=λ_ hm=>⟨o,hm,hx.1⟩
 there:=λ_ hm=>⟨Be hm,Be hm⟩
 keep:=λ_ _ hm hk=>hk d (.inl rfl) o hm
 notList:=by decide
 notTuple:=by decide
 hint:=λ_ _ _ _ hm hq=>PySem.W.kdl_hint_dict ⟨o,hm,hx.1⟩ hq
 iter:=λ_ _ hh hm=>⟨_,_,(λ_ _ hq=>AAv lo ⟨o,hm,hx.1⟩ hm hd hq),WK hh _ (BF (Be hm)) hd,⟨⟨_,AQ _ rfl,ξ,ξ⟩,AE _ hm⟩⟩
end
def KeyL(H:Hp):List (List Key×V)->List V->Prop:=A9 λkv y=>∃b,y=.ref b/\H b=u8 (.tup (kv.1.map kV))
def AGF:∀{aT:List (List Key×V)}{xs:List (List Key×Addr×Au)},KT H aT xs->KeyL H aT (xs.map λx=>.ref x.2.1):=by
 intro l m h
 induction h with
 | nil=>exact .nil
 | cons h t ih=>exact .cons ⟨_,ξ,h.2.1⟩ ih
def RG(hc:X.calm=true):CallR X (.type "list") (λxs H Q=>∃p aT,xs=[.ref p]/\H p=u8 (.dT aT)/\∀l ys,H l=none->KeyL H aT ys->Q (.ref l) (upd H l (.lst ys))):=by
 intro aI s σ H xs us Q I rr h;obtain⟨p,aT,rfl,hp,q⟩:=h;obtain⟨u,rfl,ru⟩:=rr.one;cases ru;obtain⟨z,lo,ts,kt,o,es,ep,h1,h2,h3,h4,h5⟩:=(I.hok p _ hp);have hl:es.size=aT.length:=by
  rw[<- AZ,h4,AB];exact(AT kt).symm
 refine PySem.W.kdl_call (ADH lo h2 h3) (I.ok.hd hc) h1 (by rw[hl];exact z) λh' tk a9 c' hk hS be=>?_;have hn:=I.hok.fresh (AI _);refine⟨.ref s.heap.objs.size,_,I.laid (a:=s.heap.objs.size) (o:=.lst (ts.map λx=>V.ref x.2.1)) (t':=tk) hk (AI _) ⟨?_,a9.toList,c',?_,?_⟩,ξ,q _ _ hn (AGF kt)⟩
 .rw[AB,<- AT kt];exact z
 .refine JR (by rw[AB];exact(AT kt).symm.trans (hl.symm.trans (be.1.symm.trans (AZ).symm))) λi x u e1 e2=>?_
  have e2':a9[i]?=u8 u:=by simpa using e2
  obtain⟨e,e3,rfl⟩:=be.2 i u e2';rw[<- B4,h4,AV] at e3;rw[AV] at e1;cases g:ts[i]? with
  | none=>rw[g] at e1;cases e1
  | some t =>
   rw[g] at e1 e3;cases e1;cases e3;rfl
 .simpa using hS
section
variable{es:Array NS}
def Oe(d:Addr)(hd:(d==EA)=false) :
  MeetsIn prog w (Builtin.«dict.__len__» ⟨[.ref d],[]⟩) (λ_ R s=>∃o es ep,s.heap.get? d=u8 o/\o.data=.dict es ep/\R (.ok (.ret (.int es.size s.toks))) {s with toks:=s.toks+1}) :=
 .of_wp λA R s ⟨o,es,ep,ho,iP,h⟩=>by
  show wpAny _ _ (dictSize d >>= _) _ _ s;unfold dictSize;refine Ap (Ap (L4 ho iP (AC ?_)));refine Ap (wpAny_pendingCount_other hd ?_);refine VT ?_;rw[Ta];exact h
def AEu(hd:(d==EA)=false)(hT:s.TypeIs (.ref d) "dict")(ho:s.heap.get? d=u8 o)(iP:o.data=.dict es ep)(hfit:(es.size:Int)<2 ^ 63)
  (h:Q (.int es.size (s.toks+1)) {s with toks:=s.toks+1+1}):wpAny (AN prog w) A (call (.builtin "len") [.ref d]) Q E s:=by
 refine IJ kind_len plain_len entry_len (args_len1 _) ?_;unfold Builtin.«len»;refine Ap (m:=oneArg "len" _) (AC ?_);refine Ap (m:=callSpecial? (.ref d) (HK "__len__")) (wpAny_callSpecial?_slot (name:=HK "__len__") hT Q8
  (S9 Q8 hT PySem.F.entry_dict_len (PySem.F.args_dict_len_1 _) (Oe d hd) ⟨o,es,ep,ho,iP,?_⟩))
 refine Ap (Dx (AC ?_));refine Ap (wpAny_letGo ?_);rw[vA wm];rw[vA δ];exact Ap (wpAny_mkInt (AC ⟨_,ξ,h⟩))
end
def VJ:CallR X (.builtin "len") (λxs H Q=>∃p aT,xs=[.ref p]/\H p=u8 (.dT aT)/\Q (.int aT.length) H):=by
 intro aI s σ H xs us Q I rr h;obtain⟨p,aT,rfl,hp,q⟩:=h;obtain⟨u,rfl,ru⟩:=rr.one;cases ru;obtain⟨z,lo,ts,kt,o,es,ep,h1,h2,h3,h4,h5⟩:=(I.hok p _ hp);have hl:es.size=aT.length:=by
  rw[<- AZ,h4,AB];exact(AT kt).symm
 refine AEu lo ⟨o,h1,h2.1⟩ h1 h3 (by rw[hl];rw[EW] at z;lia) ?_;exact⟨.int aT.length,H,I.tok _,⟨_,by rw[hl]⟩,q⟩
def Itd(lo:Int)(n:Nat):It:=⟨λi _=>i<n,λi H x H'=>H'=H/\x=.int (lo-i),λi _=>n<=i⟩
def Zk(it:Addr)(lo:Int)(n:Nat):Turn P w K tg (Itd lo n) [it] it (λi h=>IsRangeIter h it (lo+(i:Nat)*(-1)) ((n:Int)-(i:Nat)) (-1)) where
 mem:=by simp
 obj:=λi h st b hb=>by
  have e:b=it:=by simpa using hb
  subst e;exact⟨_,st,λv z=>by
   have z':=z;cases z'⟩
 keep:=λi h h' st k=>k it θ _ st
 item:=by
  intro X hP hw hK hc i aI s σ H E I hf st hg;subst hP hw hK;obtain⟨f0,f1,f2,f3,f4,f5⟩:=hf it θ;have W:=ZB (prog:=X.prog) (w:=X.w) (I.ok.hd hc) it lo (-1) n;refine W.item i s _ _ hg st λv h' tk hv a6 kk=>?_;obtain⟨t,rfl⟩:=hv;have I1:Inv X aI σ H {s with heap:=h',toks:=tk}:=I.turned (λb o hb e=>kk b o (by simpa using hb) e) f0 f1 f3 f4 f5;refine⟨_,ξ,ZR (s:={s with heap:=h',toks:=tk}) (n:="range_iterator") a6 rfl rfl ζ ⟨.int (lo-i),H,I1,⟨t,?_⟩,⟨ξ,ξ⟩,a6,λb hb=>(hf b hb).1⟩⟩
  congr 1
  lia
 done:=by
  intro X hP hw hK hc i aI s σ H E I hf st hg;subst hP hw hK;obtain⟨f0,f1,f2,f3,f4,f5⟩:=hf it θ;exact P7 (I.ok.hd hc) st (by have:n<=i:=hg;exact zg this) λh' eb=>⟨ξ,I.turned (t':=s.toks) (λb o hb e=>eb b o hb e) f0 f1 f3 f4 f5⟩
 self:=λ_ _ _ _ _ st h=>P8 st h
def rangeSize_down(a b:Int):FC a b (-1)=if b<a then a-b else 0:=by
 unfold FC;simp only[show ¬ ((-1:Int)>0) by decide,if_false];split
 .rw[show(- -1:Int)=1 from rfl,Int.ediv_one];lia
 .rfl
def small_down{a b:Int}(ha:-(2 ^ 62)<=a)(ha':a<2 ^ 62)(hb:-(2 ^ 62)<=b)(lv:b<2 ^ 62):Lu a b (-1)=true:=by
 unfold Lu;rw[rangeSize_down];simp only[WU,ES,Bool.or_eq_true,decide_eq_true_eq,beq_iff_eq,show ¬ ((-1:Int)>0) by decide,if_false];split<;>lia
def ABV{R:It->Hp->Prop}{lo hi:Int}{t u v:Tok}(I:Inv X aI σ H s)(h1:-(2 ^ 62)<=lo)(h2:lo<2 ^ 62)(h3:-(2 ^ 62)<=hi)(h4:hi<2 ^ 62)
  (q:R (Itd lo (lo-hi).toNat) H):wpAny (AN X.prog X.w) X.A (QU (.ref s.heap.objs.size)) (PIE X aI σ tg R) E {s with heap:=s.heap.push {cls:=.type "range",data:=.fields #[.int lo t,.int hi u,.int (-1) v]},toks:=tk}:=by
 refine SV (ZE ..) (small_down h1 h2 h3 h4) ?_;have I1:Inv X aI σ H {s with heap:=s.heap.push {cls:=.type "range",data:=.fields #[.int lo t,.int hi u,.int (-1) v]},toks:=tk}:=I.kept λb o e=>AE _ e;refine⟨(s.heap.push {cls:=.type "range",data:=.fields #[.int lo t,.int hi u,.int (-1) v]}).objs.size,[(s.heap.push {cls:=.type "range",data:=.fields #[.int lo t,.int hi u,.int (-1) v]}).objs.size],_,_,H,ξ,
  I1.kept (t':=tk) λb o e=>AE _ e,Zk _ lo (lo-hi).toNat,?_,λb hb=>?_,q⟩
 .have e1:lo+((0:Nat):Int)*(-1)=lo:=by simp
  have e2:(((lo-hi).toNat:Nat):Int)-((0:Nat):Int)=FC lo hi (-1):=by rw[rangeSize_down];split<;>lia
  rw[e1,e2];exact AQ _ rfl
 .have e:b=(s.heap.push {cls:=.type "range",data:=.fields #[.int lo t,.int hi u,.int (-1) v]}).objs.size:=by simpa using hb
  subst e;exact I1.fpOk (AI _) (I1.hok.fresh (AI _))
def AIW(ta:TA):TI:=λσ H R=>ta σ H λvs H1=>∃i j:Int,vs=[.int i,.int j,.int (-1)]/\(-(2 ^ 62)<=i/\i<2 ^ 62/\-(2 ^ 62)<=j/\j<2 ^ 62)/\R (Itd i (i-j).toNat) H1
def Ou{a b:Expr}{ta:TA}{p:Pos}(hg:Gl X "range")(hm:X.mg "range" = u9)(ha:PA X [a,b,c] ta)(hs:autoParam (B3 [a,b,c] X.env=[(false,eval a X.env),(false,eval b X.env),(false,eval c X.env)]) zA0._auto_1)(n9:autoParam (B3 [b,c] X.env=[(false,eval b X.env),(false,eval c X.env)]) zA0._auto_1) :
  PI X tg (.Call (.Name "range" p) [a,b,c] [] pos) (AIW ta):=by
 intro aI s σ H R I h;refine Call_ (El I hg hm J1 (DT (thn (ha pos aI s σ H _ I h) λus s1 hq=>?_) (by rw[hs,n9]) (by rw[n9];rfl)));obtain⟨vs,H1,I1,r1,q1⟩:=hq;obtain⟨i,j,e,⟨q1,q2,q3,q4⟩,q⟩:=q1;subst e;cases r1 with
 | cons r rr =>
  cases rr with
  | cons r' rr =>
   cases rr with
   | cons r'' rr =>
    cases rr;obtain⟨t,rfl⟩:=r;obtain⟨t',rfl⟩:=r';obtain⟨t'',rfl⟩:=r'';exact call_range_3 ζ (ABV I1 q1 q2 q3 q4 q) (.inl (P9 ζ))
def Us{lo:Int}{g:TG}{D:Ends}(Pv:Nat->St->Hp->Prop)(h0:Pv 0 σ H)
  (hs:∀i σ H,i<n->Pv i σ H->g (.int (lo-i)) σ H λσ2 H2=>tb {D with nx:=Pv (i+1),ct:=Pv (i+1),bk:=D.nx} σ2 H2) (hd:∀σ H,Pv n σ H->D.nx σ H) :
  ∃W:Nat->Nat->St->Hp->Prop,(∃m,W 0 m σ H)/\∀i m σ H,W i m σ H ->
   ((Itd lo n).stop i H/\D.nx σ H)\/((Itd lo n).go i H/\∃N:St->Hp->Prop,(∀σ' H',N σ' H'->∃m',m'<m/\W (i+1) m' σ' H')/\∀x H',(Itd lo n).yld i H x H'->g x σ H' λσ2 H2=>tb {D with nx:=N,ct:=N,bk:=D.nx} σ2 H2):=by
 refine⟨λi m σ H=>m=n-i/\i<=n/\Pv i σ H,⟨n,θ,Bz _,h0⟩,?_⟩;rintro i m σ H ⟨rfl,hi,p⟩;by_cases ce:i<n
 .refine .inr ⟨ce,Pv (i+1),λσ' H' p'=>⟨n-(i+1),wL ce,ξ,ce,p'⟩,λx H' y=>?_⟩
  obtain⟨e,y⟩:=y;subst e y;exact hs i σ _ ce p
 .have e:i=n:=wB hi ce
  subst e;exact .inl ⟨AI _,hd σ H p⟩
end L2
namespace L2
open PySem
open Sem (wp)
def Hq{gz:String}{Bn Bi:Builtin}{args:vO}{S:Spec}(ft:TypeCalled T eW gz)
  (hct:checkTypeCall T ⟨args,kw⟩=pure ()) (hcn:U4 eW ⟨.type T::args,kw⟩=pure ())
  (rL:R7 X0 eW=u8 Bn) (se:R7 X0 gz=u8 Bi) (g:Meets (Bn ⟨.type T::args,kw⟩) S)
  (h:S A.in1 (wants Q₁ E) s)
  (tU:∀obj s₁,Q₁ obj s₁->s₁.TypeIs obj T/\Q9 gz ⟨obj::args,kw⟩/\∃Si,Meets (Bi ⟨obj::args,kw⟩) Si/\Si A.in1 (wants (λr s₂=>r=.none/\Q obj s₂) E) s₁) :
  wpAny (AN prog w) A (call (.type T) args kw) Q E s:=by
 obtain⟨c,tl,hmro⟩:=ft.mro;have hmade:=ft.made;have iE:=ft.sub;refine OH (PY ?_);show wpAny _ _ (callAny (.type T) _) _ _ _;refine AC ⟨NV _ ψ,D5 TU ?_⟩;rw[Tb (Rc T args kw) (units_type_call_type T args kw)];have h1:=ft.notType;have h2:=ft.canCreate
 repeat (any_goals (first| assumption| wp_step))
 refine EU (K2 ft.plain rL (Lm hcn (g prog w A.in1 _ s h))) λr s₁ hr=>?_;cases r with
 | error e=>exact hr
 | ok fl =>
  cases fl with
  | ret obj =>
   obtain⟨hT,hok,Si,gi,hsi⟩:=tU _ _ hr;have hli:=ft.init.lookup;have hbi:=ft.init.bind obj
   repeat (any_goals (first| assumption| wp_step))
   refine EU (K2 ft.init.plain se (ft.init.check _ _ _ _ _ _ _ _ hT hok (gi prog w A.in1 _ s₁ hsi))) λr₂ s₂ sq=>?_;cases r₂ with
   | error e=>exact sq
   | ok fl₂ =>
    cases fl₂ with
    | ret r =>
     obtain⟨rfl,hq⟩:=sq
     repeat (any_goals (first| assumption| wp_step))
    | _=>exact sq.elim
  | _=>exact hr.elim
def Ht{self:Au}{a:Au}{kw:Str×Au}(hl:OI (.type T) "__init__" = pure (u8 (.builtin "object.__init__")))
  (hm:Bind.madeBy (.type T)=pure (u8 eW)) (cS:(u8 eW != u8 "object.__new__")=true) :
  Meets (Builtin.«object.__init__» ⟨[self,a],[kw]⟩) (λ_ R s=>s.TypeIs self T/\R (.ok (.ret .none)) s):=by
 refine Meets.of_wp λprog w A R s hs=>?_;obtain⟨hT,hq⟩:=hs;obtain⟨kn,kv⟩:=kw
 repeat (any_goals (first| assumption| wp_step))
 exact⟨_,ξ,hq⟩
end L2
namespace L2
open PySem
open Sem (wp)
open AutoSeq1 (wpAny_loadPart')
def Im(a v:Au):checkTypeCall "enumerate" ⟨[a],[("start",v)]⟩=pure ():=by kernel_rfl
def KN(a v:Au):U4 "enumerate.__new__" ⟨[.type "enumerate",a],[("start",v)]⟩=pure ():=by kernel_rfl
def Ir(obj a v:Au):Q9 "object.__init__" ⟨[obj,a],[("start",v)]⟩:=by
 unfold Q9;rw[signature?_of (id:="object.__init__") (n:=['_','_','t','i','n','i','_','_']) (o:=['t','c','e','j','b','o']) (by kernel_rfl) PySem.F.owner_object];kernel_rfl
set_option tactic.hygienic true in
theorem AAH(l:Addr)(items:vP)(n:Nat)(kS:Option Addr)(sl:Array vS)(k:Int)(t:Tok)(hk:EJ k=true) :
  Meets (Builtin.«enumerate.__new__» ⟨[.type "enumerate",.ref l],[("start",.int k t)]⟩) (λ_ R s=>s.heap.get? l=u8 {cls:=.type "list",dict:=kS,data:=.seq items n,slots:=sl} /\
   R (.ok (.ret (.ref (s.heap.push {cls:=.type "list_iterator",data:=.fields #[.ref l,.int 0 0]}).objs.size)))
    {s with heap:=(s.heap.push {cls:=.type "list_iterator",data:=.fields #[.ref l,.int 0 0]}).push {cls:=.type "enumerate",data:=.fields #[.none,.bool false,.ref s.heap.objs.size,EZ k,.none,.none]}}) :=
 .of_wp λprog w A R s h=>by
  obtain⟨hp,g,d,tk,os⟩:=s;obtain⟨hl,h⟩:=h;have iE:=Sm;have hL:Heap.IsList (UF ⟨hp,g,d,tk,os⟩) l items:=⟨_,hl,ξ,n,ξ⟩
  wp_walk using wpAny_loadPart' hl
  refine PQ λst=>AC ?_;split
  .rename_i c _ _ _ _ _
   cases (c==CM "enumerate")
   .wp_walk using wpAny_loadPart' hl,Ha hL
    exact⟨_,ξ,h⟩
   .wp_walk using wpAny_loadPart' hl,Ha hL
    exact⟨_,ξ,h⟩
  .wp_walk using wpAny_loadPart' hl,Ha hL
   exact⟨_,ξ,h⟩
def ACS{k:Int}{t:Tok}(hk:EJ k=true)(hL:s.heap.IsList l items)
  (h:∀h',K7 h' (s.heap.objs.size+1) s.heap.objs.size k .none->h'.IsListIter s.heap.objs.size l 0->h'.objs.size=s.heap.objs.size+2 ->
   (∀b o,s.heap.get? b=u8 o->h'.get? b=u8 o)->Q (.ref (s.heap.objs.size+1)) {s with heap:=h'}) :
  wpAny (AN prog w) A (call (.type "enumerate") [.ref l] [("start",.int k t)]) Q E s:=by
 obtain⟨⟨c,kS,dt,sl⟩,hl,hc,n,hd⟩:=hL
 replace hc:c=.type "list":=hc
 replace hd:dt=.seq items n:=hd
 subst hc hd;refine Hq (Q₁:=λobj s₁=>s₁.TypeIs obj "enumerate"/\Q obj s₁) Fc (Im _ _) (KN _ _) NY OL (AAH l items n kS sl k t hk) ⟨hl,?_⟩
  λobj _ hq=>⟨hq.1,Ir obj _ _,_,Ht Fc.init.lookup Fc.made ζ,hq.1,ξ,hq.2⟩
 have hz:(s.heap.push {cls:=.type "list_iterator",data:=.fields #[.ref l,.int 0 0]}).objs.size=s.heap.objs.size+1:=DL ..;show _/\_;rw[hz];have he:K7 ((s.heap.push {cls:=.type "list_iterator",data:=.fields #[.ref l,.int 0 0]}).push
   {cls:=.type "enumerate",data:=.fields #[.none,.bool false,.ref s.heap.objs.size,EZ k,.none,.none]}) (s.heap.objs.size+1) s.heap.objs.size k .none:=by
  have:=AQ (s.heap.push {cls:=.type "list_iterator",data:=.fields #[.ref l,.int 0 0]})
   (o:={cls:=.type "enumerate",data:=.fields #[.none,.bool false,.ref s.heap.objs.size,EZ k,.none,.none]}) rfl
  rw[hz] at this;exact this
 refine⟨⟨_,he,ξ⟩,h _ he ⟨_,AE _ (AQ _ rfl),ξ,ξ⟩ (by rw[DL,hz]) λb o x=>AE _ (AE _ x)⟩
section
variable{M:VC}{env:Env}
def Jx
  (h:wpAny M A (V6 (FB pos (B3 [e] env))) (λvs s₁=>wpAny M A (evalAll ((Ic pos (Fn kM env)).map (·.2)))
   (λaT s₂=>wpAny M A (call (.type T) vs (((Ic pos (Fn kM env)).filterMap (·.1)).zip aT)) Q E s₂) E s₁) E s)
  (he:autoParam (B3 [e] env=[(false,eval e env)]) zA0._auto_1)
  (ck:autoParam ((Ic pos (Fn kM env)).all (·.1.isSome)=true) zA0._auto_1)
  (hkw:autoParam ((Ic pos (Fn kM env)).any (·.1.isNone)=false) zA0._auto_1) :
  wpAny M A (callWith pos (.type T) [] (FB pos (B3 [e] env)) (Ic pos (Fn kM env))) Q E s:=by
 rw[he] at h ⊢;unfold callWith;refine Ap (Dx (D9 (X1 (Q:=λa s₁=>wpAny M A (call (.type T) a.pos a.kw) Q E s₁) ck h) (λa s₁ h₁=>Ap (Mm ?_)) λ_ _ x=>x));simp only[show(FB pos [(false,eval e env)]).any (·.1)=false from rfl,hkw,On];refine Ap (AC ?_);exact Ap (D9 h₁ (λr s₂ hr=>Ap (Dx (wpAny_point (AC hr)))) λ_ _ x=>x)
end
end L2
namespace L2
open PySem PySem.Spec PyProof.Rows
def Nh{P:Nat->Au->Prop}{St:Nat->Heap->Prop}(c:Nat)(D:XY prog w A it fp n P St) :
  XY prog w A it fp (n+c) (λi v=>P (i-c) v) (λi h=>c<=i/\St (i-c) h) where
 live:=λi h st=>D.live _ h st.2
 frame:=λi h h' st hk=>⟨st.1,D.frame _ h h' st.2 hk⟩
 item:=λi s Q E hi st hQ=>D.item (i-c) s Q E (by have:=st.1;lia) st.2 λx h' tk p a6 sb=>hQ x h' tk p ⟨by have:=st.1;lia,by rw[show i+1-c=i-c+1 by have:=st.1;lia];exact a6⟩ sb
 done:=λs Q E st hE=>D.done s Q E (by have:=st.2;rw[CF] at this;exact this) hE
def Iec(c:Nat)(S:Hp->List V->Prop):It :=
 ⟨λi H=>∃xs x,S H xs/\xs[i]?=u8 x,λi H v H'=>∃T x,v=.ref T/\H T=u9/\H'=upd H T (.tup [.int ((i+c:Nat):Int),x])/\∀xs,S H xs->xs[i]?=u8 x,λi H=>∃xs,S H xs/\xs.length=i⟩
def NZ{k:Nat}{S:Hp->List V->Prop}{e l:Addr}(c:Nat)
  (g7:e≠it)
  (obj:∀i h,St0 i h->∃o,h.get? it=u8 o/\∀v,o.data≠.cell v)
  (keep:∀i h h',St0 i h->(∀o,h.get? it=u8 o->h'.get? it=u8 o)->St0 i h')
  (tM:∀(X:Cx),X.prog=P->X.w=w->X.K=K->X.calm=true->∀(i:Nat) (aI:vN) (s:AA) (σ:St) (H:Hp) (xs:List V),Inv X aI σ H s->St0 i s.heap->(∃(j:Int) (bv:Au),K7 s.heap e it j bv)->S H xs ->
   ∃(a5:vO) (fp:vU) (St:Nat->Heap->Prop),Vals xs a5/\XY P w X.A.in1 it fp a5.toArray.size (λi v=>a5.toArray[i]?=u8 v) St/\St i s.heap/\e∉fp/\it∈fp/\(∀j h,St j h->St0 j h))
  (inj:∀(X:Cx),X.K=K->∀(aI:vN) (s:AA) (σ:St) (H:Hp) (xs ys:List V),Inv X aI σ H s->S H xs->S H ys->xs=ys) :
  Turn P w K (.Tuple cw k tp) (Iec c S) [e,it] e (λi h=>(∃bv,K7 h e it ((i+c:Nat):Int) bv)/\St0 i h) where
 mem:=by simp
 obj:=λi h st b hb=>by
  obtain⟨⟨bv,he⟩,hs⟩:=st;rcases AY.mp hb with rfl| hb
  .exact⟨_,he,λv z=>by
    have z':Data.fields _=Data.cell v:=z;cases z'⟩
  .have e1:b=it:=by simpa using hb
   subst e1;exact obj i h hs
 keep:=λi h h' st k=>⟨by obtain⟨bv,he⟩:=st.1;exact⟨bv,k e θ _ he⟩,keep i h h' st.2 λo q=>k it θ o q⟩
 item:=by
  intro X hP hw hK hc i aI s σ H E I hf st hg;obtain⟨xs,x,hq,hx⟩:=hg;obtain⟨a5,fp,St,rv,Dr,dS,sf,rq,fk⟩:=tM X hP hw hK hc i aI s σ H xs I st.2 (by obtain⟨bv,he⟩:=st.1;exact⟨_,bv,he⟩) hq;subst hP hw;obtain⟨u,hu,ru⟩:=rv.get hx;have hi:i<a5.toArray.size:=by rw[AO];exact(AG.mp hu).1
  have fi:a5.toArray[i]?=u8 u:=by simpa using hu
  have WT:=LZ (Nh c Dr) e g7 sf rq;refine WT.item (i+c) s _ _ (wo hi) ⟨st.1,Pw _ _,by rw[CF];exact dS⟩ λT vals h' tk hPt hsz hT kN hk=>⟨.ref T,ξ,?_⟩;obtain⟨t,y,hy,rfl⟩:=hPt;have hTw:T∉[e,it]:=WT.apart (i+c) T _ kN;rw[CF,fi] at hy;have ue:u=y:=AM hy;subst ue;have hwr:∀b∈[e,it],FpOk X aI H b:=hf;have I1:Inv X aI σ H {s with heap:=h',toks:=tk}:=I.walked hk hwr;have uD:H T=u9:=I.hok.fresh hsz;have I2:Inv X aI σ (upd H T (.tup [.int ((i+c:Nat):Int),x])) {s with heap:=h',toks:=tk}:=by
   refine I1.track (I.fpOk hsz uD) ⟨by show 2<=sizeLine;decide,[.int ((i+c:Nat):Int) t,u],.cons ⟨t,ξ⟩ (.cons ru .nil),?_⟩;exact hT
  have kF:∀b∈[e,it],FpOk X aI (upd H T (.tup [.int ((i+c:Nat):Int),x])) b:=λb hb=>by
   obtain⟨f0,fr⟩:=hf b hb;have ne:b≠T:=λz=>hTw (by rw[<- z];exact hb);exact⟨by rw[Ag ne];exact f0,fr⟩
  refine WT.go cw k tp (i+c) T _ _ _ kN λh'' fo rh=>?_;refine⟨.ref T,_,I2.walked (t':=tk) rh kF,ξ,⟨T,x,ξ,uD,ξ,λys hy=>by rw[inj X hK aI s σ H ys xs I hy hq];exact hx⟩,⟨?_,?_⟩,λb hb=>(kF b hb).1⟩
  .rw[show i+1+c=i+c+1 by lia]
   exact fo.1
  .have:=fo.2.2
   rw[show i+c+1-c=i+1 by lia] at this;exact fk _ _ this
 done:=by
  intro X hP hw hK hc i aI s σ H E I hf st hg;obtain⟨xs,hq,hx⟩:=hg;obtain⟨a5,fp,St,rv,Dr,dS,sf,rq,fk⟩:=tM X hP hw hK hc i aI s σ H xs I st.2 (by obtain⟨bv,he⟩:=st.1;exact⟨_,bv,he⟩) hq;subst hP hw;have hl:=rv.length;have hi:i=a5.toArray.size:=by rw[AO];exact y8 hx hl
  subst hi;exact(LZ (Nh c Dr) e g7 sf rq).done s _ _ ⟨st.1,Pw _ _,by rw[CF];exact dS⟩ λh' tk hk=>⟨ξ,I.walked hk hf⟩
 self:=λA i s Q E st h=>by
  obtain⟨⟨bv,he⟩,_⟩:=st;exact Kn he h
def Tf{k:Nat}{e:Addr}(c:Nat)(g7:e≠it) :
  Turn P w K (.Tuple cw k tp) (Iec c λH xs=>SqL K H a xs) [e,it] e (λi h=>(∃bv,K7 h e it ((i+c:Nat):Int) bv)/\h.IsListIter it a i):=by
 refine NZ (l:=a) c g7 (λi h st=>?_) (λi h h' st k=>st.at k) (λX hP hw hK hc i aI s σ H xs I st he hq=>?_) (λX hK aI s σ H xs ys I h1 h2=>?_)
 .obtain⟨o,e,c,d⟩:=st
  exact⟨o,e,λv z=>by rw[d] at z;cases z⟩
 .subst hP hw hK
  obtain⟨a5,rv,p,hz⟩:=I.list hq;obtain⟨j,bv,he⟩:=he;obtain⟨ol,nl,gm,gT,_,_⟩:=id p;obtain⟨oi,l8,sw,_⟩:=id st;have h1:a≠it:=Ja gm l8 (by rw[gT,sw];decide);have h2:e≠a:=Ja he gm (by rw[gT];show CM "enumerate"≠CM "list";decide);exact⟨a5,[it,a],_,rv,Draws.list (A:=X.A.in1) (I.ok.hd hc) it a h1 a5.toArray,⟨st,p.isList⟩,by simp[g7,h2],θ,λj h z=>z.1⟩
 .subst hK
  exact I.list_inj h1 h2
def AAx{bs:List Bool}(r:Vals (bs.map V.bl) us):us=bs.map KP:=by
 induction bs generalizing us with
 | nil=>cases r;rfl
 | cons b bs ih =>
  rw[BO] at r;cases r with
  | cons h t =>
   rw[ih t,BO]
   congr 1
def Ls(hc:X.calm=true):CallR X (.builtin "all") (λxs H Q=>∃(p:Addr) (bs:List Bool),xs=[.ref p]/\SqL X.K H p (bs.map V.bl)/\Q (.bl (bs.all id)) H):=by
 intro aI s σ H xs us Q I r h;obtain⟨p,bs,rfl,hq,q⟩:=h;obtain⟨u0,rfl,ru⟩:=r.one;cases ru;obtain⟨a5,rv,pl,hz⟩:=I.list hq;have e:=AAx rv;subst e;have hl:=pl.isList;have ce:p<s.heap.objs.size:=by obtain⟨_,e,_⟩:=hl;exact Be e
 refine call_all_walk (Ha hl ?_);refine⟨s.heap.objs.size,[s.heap.objs.size,p],[s.heap.objs.size],(bs.map KP).toArray.size,_,_,λi=>(bs[i]?).getD true,ξ,Z5 (A:=X.A.in1) (I.ok.hd hc) _ p (BF ce) (bs.map KP).toArray,
  ⟨⟨_,AQ _ rfl,ξ,ξ⟩,hl.push _⟩,λi v s' Q' E' hP hQ=>?_,λh' tk hk=>?_⟩
 .have pV:(bs.map KP)[i]?=u8 v:=by simpa using hP
  rw[AV] at pV;cases g:bs[i]? with
  | none=>rw[g] at pV;cases pV
  | some b =>
   rw[g] at pV;cases pV;simp only[g,Option.getD_some] at hQ;exact FE hQ
 .have e:((AX (bs.map KP).toArray.size).all λi=>(bs[i]?).getD true)=bs.all id:=by
   rw[AO,AB];exact LSm.range_all bs
  rw[e];exact⟨.bl (bs.all id),H,I.kept (LSm.kept_iter hk),ξ,q⟩
theorem Hz:∀ns:vG,HT.lexLt ns ns=false
 | []=>rfl
 | x::xs=>by rw[HT.CP,vB rfl];exact Hz xs
def rAddT(K:As):R2:=λx y H Q=>∃a b xs ys,x=.ref a/\y=.ref b/\SqT K H a xs/\SqT K H b ys/\xs.length+ys.length<=sizeLine /\
 (xs=[]->Q (.ref b) H)/\(xs≠[]->ys=[]->Q (.ref a) H)/\(xs≠[]->ys≠[]->∀p,H p=none->Q (.ref p) (upd H p (.tup (xs++ys))))
def AEt:OpR X (Hk .Add) (rAddT X.K):=by
 intro aI s σ H x y v u Q I rx ry h;obtain⟨a,b,xs,ys,rfl,rfl,ha,hb,hz,q0,q1,q2⟩:=h;by_cases e:xs=[]
 .cases rx;cases ry
  obtain⟨a5,r1,p1,_⟩:=I.tuple ha;obtain⟨gN,r2,p2,_⟩:=I.tuple hb;subst e;cases r1;obtain⟨⟨cls,dd,data,sl⟩,ho,hc,n,hd⟩:=id p1;obtain⟨⟨nc,i7,XW,jI⟩,gv,io,n2,dL⟩:=id p2;simp only at hc hd io dL;subst hc hd io dL;exact O0 ⟨_,ho,ξ⟩ ⟨_,gv,ξ⟩ O1 Sj Mb LU (LI _ _)
   (tuple_addW0 a b #[] gN.toArray n n2 dd i7 sl jI rfl) ⟨ho,gv,⟨.ref b,H,I,ξ,q0 rfl⟩⟩
 .exact AEs aI s σ H _ _ v u Q I rx ry ⟨a,b,xs,ys,ξ,ξ,ha,hb,e,hz,q1 e,q2 e⟩
end L2
namespace L2
open PySem PySem.Spec PyProof.Rows
open AutoSeq1 (wpAny_loadPart')
def Ol{Q:vO->AA->Prop}{r:Addr}{a b c:Int}{t u v:Tok}(hh:A.handled=u9)(hr:IsRange s.heap r a b c t u v)(gL:Lu a b c=true)
  (hn:FC a b c=n) (bh:n<=2 ^ 24)
  (hQ:∀h' tk acc,(∀b o,s.heap.get? b=u8 o->h'.get? b=u8 o)->ItemsOf (λi v=>∃t,v=.int (a+i*c) t) acc n->Q acc.toList {s with heap:=h',toks:=tk}) :
  wpAny (AN prog w) A (Q1 (.ref r)) Q E s:=by
 unfold Q1;refine Ap (NA (D5 N0 ?_));rw[EC N1 _];refine Ap (C0 ?_);refine AC ⟨Iy JS _,D5 Pt ?_⟩;rw[EC JS _];have hS:(s.heap.push {cls:=.type "list",data:=.seq ([]:vO).toArray}).get? s.heap.objs.size=u8 {cls:=.type "list",data:=.seq #[] 0}:=AQ _ rfl;have ke:∀(h':Heap) (tk:Nat) (a9:vP) (c':Nat),(∀b o,b≠s.heap.objs.size->(s.heap.push {cls:=.type "list",data:=.seq ([]:vO).toArray}).get? b=u8 o->h'.get? b=u8 o)->h'.get? s.heap.objs.size=u8 {cls:=.type "list",dict:=u9,data:=.seq a9 c',slots:=#[]} ->
   ItemsOf (λi v=>∃t,v=.int (a+i*c) t) a9 n->wpAny (AN prog w) A (match A7 s.heap.objs.size with
   | A7 a=>do
    match (<- load a).data with
     | Data.seq xs _=>pure xs.toList
     | _=>unsupported "internal:collect"
   | _=>unsupported "internal:collect") Q E {s with heap:=h',toks:=tk}:=λh' tk a9 c' hk cK be=>by
  refine Ap (RF cK ?_);refine AC ?_;exact hQ h' tk a9 (λb o e=>hk b o (BF (Be e)) (AE _ e)) be
 refine D9 (wpAny_extend_range (A:=A) (R:=λr s'=>∃h' tk a9 c',r=.ok (.ret (.ref s.heap.objs.size))/\s'={s with heap:=h',toks:=tk}/\(∀b o,b≠s.heap.objs.size->(s.heap.push {cls:=.type "list",data:=.seq ([]:vO).toArray}).get? b=u8 o->h'.get? b=u8 o)/\h'.get? s.heap.objs.size=u8 {cls:=.type "list",dict:=u9,data:=.seq a9 c',slots:=#[]}/\ItemsOf (λi v=>∃t,v=.int (a+i*c) t) a9 n)
  (s:={s with heap:=s.heap.push {cls:=.type "list",data:=.seq ([]:vO).toArray}}) hh (AE _ hr) gL hn bh s.heap.objs.size (.ref s.heap.objs.size) 0 hS λh' tk a9 c' hk cK be=>⟨h',tk,a9,c',ξ,ξ,hk,cK,be⟩) (λfin s' h=>?_) (λe s' h=>?_)
 .cases fin with
  | done f =>
   obtain⟨h',tk,a9,c',e,rfl,hk,cK,be⟩:=h;cases e;exact ke h' tk a9 c' hk cK be
  | again c'=>exact⟨h.1,EU h.2 λr uI hr=>by obtain⟨h',tk,a9,c',rfl,rfl,hk,cK,be⟩:=hr;exact ke h' tk a9 c' hk cK be⟩
 .obtain⟨_,_,_,_,e,_⟩:=h
  cases e
def meets_tuple_range(r:Addr)(a b c:Int)(t u v:Tok)(n:Nat)(gL:Lu a b c=true)(hn:FC a b c=n)(bh:n<=1000) :
  Meets (Builtin.«tuple.__new__» ⟨[.type "tuple",.ref r],[]⟩)
   (λA R s=>A.handled=u9/\IsRange s.heap r a b c t u v/\∀(h':Heap) (tk:Nat) (acc:vP),(∀b o',s.heap.get? b=u8 o'->h'.get? b=u8 o')->ItemsOf (λi v=>∃t,v=.int (a+i*c) t) acc n ->
    R (.ok (.ret (.ref h'.objs.size))) {s with heap:=h'.push {cls:=.type "tuple",data:=.seq acc},toks:=tk}) :=
 .of_wp λprog w A R s h=>by
  obtain⟨hp,g,d,tk,os⟩:=s;obtain⟨hh,ht,h⟩:=h;have iE:=sub_tuple_self;have hinit:=init_tuple_lookup;have hmh:=madeHere_tuple;have hT:W6 ⟨hp,g,d,tk,os⟩ (.ref r) "range":=⟨_,ht,ξ⟩
  wp_walk using wpAny_loadPart' ht,KA hT,Ol (A:=A.in1) hh ht gL hn δ
  intro h' tk' acc hk be;show wpAny _ _ (E7 acc.toList.toArray >>= λv=>ret v) _ _ _;unfold E7;refine Ap (C0 ?_ (by show acc.toList.toArray.size<=sizeLine;rw[RU,be.1];exact small bh));refine AC ⟨_,ξ,?_⟩;have e:acc.toList.toArray=acc:=by simp
  rw[e];exact h h' tk' acc hk be
def GJ(hc:X.calm=true):CallR X (.type "tuple") (λxs H Q=>∃r j,xs=[.ref r]/\H r=u8 (.rng 0 j)/\0<=j/\j<=1000/\∀l,H l=none->Q (.ref l) (upd H l (.tup ((below j.toNat).map V.int)))):=by
 intro aI s σ H xs us Q I rr h;obtain⟨r,j,rfl,hr,j0,j1,q⟩:=h;obtain⟨u,rfl,ru⟩:=rr.one;cases ru;obtain⟨t1,t2,t3,e⟩:=I.hok r _ hr;refine callType_new PySem.F.called_tuple ζ (PySem.F.typeCall_tuple_1 _) (PySem.F.newCall_tuple_1 _) (λobj=>PySem.F.args_object_init_2 obj _) PySem.F.entry_tuple_new
  (meets_tuple_range r 0 j 1 t1 t2 t3 j.toNat (WN δ δ δ δ) (by rw[Sf];split<;>lia) (xY j1)) ⟨I.ok.hd hc,e,λh' tk acc hk be=>⟨⟨_,AQ _ rfl,ξ⟩,?_⟩⟩
 have I1:Inv X aI σ H {s with heap:=h',toks:=tk}:=I.kept hk;have hn:=I1.hok.fresh (AI _);refine⟨.ref h'.objs.size,_,I1.laid (a:=h'.objs.size) (o:=.tup ((below j.toNat).map V.int)) (t':=tk) (λb o e=>AE _ e) (AI _) ⟨?_,acc.toList,?_,⟨_,AQ _ rfl,ξ,0,θ⟩⟩,ξ,q _ hn⟩
 .rw[AB,AB,B6]
  exact small (xY j1)
 .refine JR (by simp[be.1]) λi x u h1 h2=>?_
  have gE:acc[i]?=u8 u:=by simpa using h2
  obtain⟨t,rfl⟩:=be.2 i u gE;have hi:i<j.toNat:=by
   have:=(CL.mp gE).1;rw[be.1] at this;exact this
  rw[AV,AV,EX hi] at h1;have ex:=(AM h1).symm;subst ex;exact⟨t,by rw[UB,SG]⟩
end L2
namespace ST
open PySem PySem.SetTable
theorem Bo:∀{l₁ l₂:vI},l₁.Nodup->(∀x∈l₁,x∈l₂)->l₁.length<=l₂.length
 | [],_,_,_=>Bz _
 | a::t,l₂,nd,hs=>by
  obtain⟨n1,n2⟩:=DV.mp nd;have ha:=hs a AF;have hl:=G4 ha;have ih:=Bo (l₂:=l₂.erase a) n2 λx hx=>(IL (λ(e:x=a)=>n1 (by rw[<- e];exact hx))).mpr (hs x (AJ _ hx));have:0<l₂.length:=HE ha;simp;exact yd ih hl this
end ST
namespace ST
open PySem PySem.W PyProof.Rows
theorem Jf:∀{x y:vG},HT.lexLt x y=true->HT.lexLt y x=false
 | [],[],h=>by cases h
 | [],_::_,_=>rfl
 | _::_,[],h=>by cases h
 | a::x,b::y,h=>by
  rw[HT.CP] at h ⊢;by_cases c:a=b
  .rw[vB c] at h
   rw[vB c.symm];exact Jf h
  .rw[vA c] at h
   rw[vA (BU c)];have:=vE h;exact vD (xU this)
end ST
namespace L2
open PySem PySem.Spec PyProof.Rows
theorem VH{prog:AL}{w:AR}:∀{ns:vG}{us:vO},Vals (ns.map V.int) us->ItemsAre (LO prog w) ns us
 | [],_,.nil=>.nil
 | n::ns,_,.cons ⟨t,e⟩ r=>by
  subst e;exact .cons (intKind_is prog w n t) (VH r)
def min_list(hc:X.calm=true):CallR X (.builtin "min") (λxs H Q=>∃(p:Addr) (ns:vG),xs=[.ref p]/\SqL X.K H p (ns.map V.int)/\0<ns.length/\∀m,m∈ns->(∀a∈ns,m<=a)->Q (.int m) H):=by
 intro aI s σ H xs us Q I r h;obtain⟨p,ns,rfl,hq,cS,q⟩:=h;obtain⟨u0,rfl,ru⟩:=r.one;cases ru;obtain⟨a5,rv,pl,hz⟩:=I.list hq;have hi:=intsAre_of rv;have hl:=pl.isList;obtain⟨ys,e⟩:=hi.allInts.items;have g6:ns=ys.toList.map (·.1):=by rw[<- hi.numsOf,<- nums_intItems,<- e]
 have hsz:0<ys.size:=by
  rw[g6,AB,AZ] at cS;exact cS
 rw[e] at hl;refine min_intList (I.ok.hd hc) hl hsz λv h' tk hv hk=>?_;obtain⟨t,rfl⟩:=intItems_at hv;obtain⟨h1,h2⟩:=argBest_lt (R6 ys) (ys.size-1);refine⟨.int (R6 ys (argBest (λi j=>decide (R6 ys i<R6 ys j)) (ys.size-1))),H,I.kept hk,⟨t,ξ⟩,q _ ?_ λa ha=>?_⟩
 .rw[g6,U1]
  exact getD_mem (by rw[AB,AZ];exact zY h1 hsz)
 .rw[g6] at ha
  obtain⟨j,hj,rfl⟩:=mem_getD ha;rw[AB,AZ] at hj;rw[<- U1];exact h2 j (wD hj)
def rNeT(K:As){α:Type}[DecidableEq α](R:Rep α):R2:=λx y H Q=>∃as bs,rTup K R H as x/\rTup K R H bs y/\Q (.bl (!decide (as=bs))) H
def AHW[DecidableEq α]{R:Rep α}(D:Dat X n R)(hu:X.A.units+(n+1)<Cs):OpR X (DS .NotEq) (rNeT X.K R):=by
 intro aI s σ H x y v u Q I rx ry h;obtain⟨as,bs,⟨p,xs,rfl,hp,pa⟩,⟨q,ys,rfl,hq,pb⟩,h⟩:=h;cases rx;cases ry;obtain⟨a5,ra,ta,_⟩:=I.tuple hp;obtain⟨fg,rb,tb,_⟩:=I.tuple hq;have l1:as.length=a5.toArray.size:=by rw[AO,<- ra.length];exact AT pa
 have l2:bs.length=fg.toArray.size:=by rw[AO,<- rb.length];exact AT pb
 refine Z9 (e:=λj=>decide (as[j]?=bs[j]?)) ta tb (vp hu) (D.place (A:=X.A.in1) I (by show X.A.units+1+n<Cs;exact wx hu) pa pb ra rb) X.prog X.w _ _ ?_;rw[Fe l1 l2];exact⟨.bl _,H,I,ξ,h⟩
def AFk[DecidableEq α]{R:Rep α}(D:Dat X n R)(hu:X.A.units+(n+1)<Cs)(hK:X.K=K):OpR X (DS .NotEq) (rNeT K R):=by subst hK;exact AHW D hu
def AFb(hK:X.K=K):SlR X (rSlT K):=by subst hK;exact AHQ
def ABH(hK:X.K=K)(hc:X.calm=true):CallR X (.builtin "min") (λxs H Q=>∃(p:Addr) (ns:vG),xs=[.ref p]/\SqL K H p (ns.map V.int)/\0<ns.length/\∀m,m∈ns->(∀a∈ns,m<=a)->Q (.int m) H):=by subst hK;exact min_list hc
end L2
namespace L2
open PySem PySem.Spec PyProof.Rows
open AutoSeq1 (wpAny_loadPart')
def YL:OI (.type "list_reverseiterator") "__len__" = pure u9:=by rw[MV,KG];kernel_rfl
def ADs:OI (.type "list_reverseiterator") "__length_hint__" = pure (u8 (.builtin "list_reverseiterator.__length_hint__")):=by rw[MV,KG];kernel_rfl
def ABi{i:Int}{Q:vK}(br:s.heap.IsRevIter it l i)(h:Q false s):wpAny (AN prog w) A (HL (.ref it)) Q E s:=by
 unfold HL;refine Ap (FK br.typeIs YL ?_);show wpAny _ A (specialOf (A7 it) (HK "__length_hint__") >>= _) _ _ _;refine Ap (FK br.typeIs ADs ?_);generalize hid:("list_reverseiterator.__length_hint__" : String)=id0
 wp_delta
 rw[show splitId id0=u8 ("list_reverseiterator","__length_hint__") from by subst hid;decide+kernel];subst hid;refine Ap (Hm (T:="list_reverseiterator") (b:=true) br.typeIs (by rw[NC];kernel_rfl) ?_);refine FL (λoT=>vF oT ζ) (λ_=>?_);refine FL (λ_=>?_) (λoT=>vF ψ oT);refine FL (λoT=>vF oT ψ) (λ_=>?_);exact AC h
def WD(hh:A.handled=u9)(br:s.heap.IsRevIter it l ((items.size:Int)-1))(hl:s.heap.IsList l items)(cS:l≠it)(bh:items.size<=2 ^ 24)
  (S:Addr) (qV:Au) (c₀:Nat) (hS:s.heap.get? S=u8 {cls:=.type "list",data:=.seq #[] c₀}) (t5:S≠it) (sT:S≠l)
  (hR:∀h' tk a9 c',(∀b o,b≠S->b≠it->s.heap.get? b=u8 o->h'.get? b=u8 o)->h'.get? S=u8 {cls:=.type "list",dict:=u9,data:=.seq a9 c',slots:=#[]} ->
   ItemsOf (λi v=>items[items.size-1-i]?=u8 v) a9 items.size->R (.ok (.ret qV)) {s with heap:=h',toks:=tk}) :
  wpAny (AN prog w) A.in1 (DU (.ref S) (.ref it) qV)
   (λfin s'=>match fin with| .done f=>R (.ok f) s' | .again c'=>c'.quiet=true/\codeAny (AN prog w) A c' R s') (λe s'=>R (.error e) s') s:=by
 have hSf:S∉[it,l]:=λhm=>by
  rcases AY.mp hm with e| hm
  .exact t5 e
  .exact sT (B8.mp hm)
 have W:=(Walks.listRev (prog:=prog) (w:=w) (A:=A.in1) hh it l cS items).toS;unfold DU;refine Ap (KA (T:="list_reverseiterator") br.typeIs ?_);have h1:IY (.ref S) (.ref it)=false:=by simp[IY,t5]
 have h2:(CM "list_reverseiterator" == CM "list")=false:=by decide
 have h3:(CM "list_reverseiterator" == CM "tuple")=false:=by decide
 simp only[h1,h2,h3,On,BY,if_false];refine Ap (wpAny_pyIter_revIter br ?_);refine Ap (Dx (ABi br ?_));refine FL (λoT=>vF oT ψ) (λ_=>AC ⟨Iy SA _,?_⟩);refine R8 W (by rw[EW];lia) S hSf qV items.size 0 _ #[] c₀ rfl (Bz _) ⟨Bz _,?_,hl⟩ hS (ZN _) λs' a9 c' hm cK be=>?_
 .have e:(items.size:Int)-1-((0:Nat):Int)=(items.size:Int)-1:=by lia
  rw[e];exact br
 rw[W7 hm];refine hR s'.heap s'.toks a9 c' (λb o hb qE e=>hm.heap b o (λfm=>?_) e) cK be;rcases AY.mp fm with e' | fm
 .exact hb e'
 .exact qE (B8.mp fm)
def ADm(hh:A.handled=u9)(br:s.heap.IsRevIter it l ((items.size:Int)-1))(hl:s.heap.IsList l items)(cS:l≠it)(bh:items.size<=2 ^ 24)
  (S:Addr) (hS:s.heap.get? S=u8 {cls:=.type "list",data:=.seq #[]}) (t5:S≠it) (sT:S≠l)
  (hR:∀h' tk a9 c',(∀b o,b≠S->b≠it->s.heap.get? b=u8 o->h'.get? b=u8 o)->h'.get? S=u8 {cls:=.type "list",dict:=u9,data:=.seq a9 c',slots:=#[]} ->
   ItemsOf (λi v=>items[items.size-1-i]?=u8 v) a9 items.size->R (.ok (.ret .none)) {s with heap:=h',toks:=tk}) :
  wpAny (AN prog w) A.in1 (Builtin.«list.__init__» ⟨[.ref S,.ref it],[]⟩)
   (λfin s'=>match fin with| .done f=>R (.ok f) s' | .again c'=>c'.quiet=true/\codeAny (AN prog w) A c' R s') (λe s'=>R (.error e) s') s:=by
 show wpAny _ _ (do let bv <- QP (.ref S);Zs (.ref S) (λ_=>#[]);letGo bv.toList.reverse;DU (.ref S) (.ref it) .none) _ _ s;refine Ap ?_;unfold QP;refine Ap (IQ hS rfl (AC ?_));show wpAny _ _ (updateSeq S (λ_=>#[]) >>= λ_=>letGo (#[]:vP).toList.reverse >>= λ_=>DU (.ref S) (.ref it) .none) _ _ s;refine Ap (MX hS rfl ?_);have hS₂:=Ev (CO (λ_=>(#[]:vP))) hS rfl;have rJ:∀b o,b≠S->s.heap.get? b=u8 o->(s.heap.update S (CO (λ_=>(#[]:vP)))).get? b=u8 o :=
  λb o hb e=>(D4 _ _ (BU hb)).trans e
 refine Ap (wpAny_letGo ?_);refine WD hh (br.at λo e=>rJ it o (BU t5) e) (hl.at λo e=>rJ l o (BU sT) e) cS bh S .none _ hS₂ t5 sT λh' tk a9 c' hk cK be=>?_;exact hR h' tk a9 c' (λb o hb qE e=>hk b o hb qE (rJ b o hb e)) cK be
def ABd(hh:A.handled=u9)(br:s.heap.IsRevIter it l ((items.size:Int)-1))(hl:s.heap.IsList l items)(cS:l≠it)(bh:items.size<=2 ^ 24)
  (hQ:∀h' tk a9 c',(∀b o,b≠it->s.heap.get? b=u8 o->h'.get? b=u8 o) ->
   h'.get? s.heap.objs.size=u8 {cls:=.type "list",dict:=u9,data:=.seq a9 c',slots:=#[]}->ItemsOf (λi v=>items[items.size-1-i]?=u8 v) a9 items.size->Q (.ref s.heap.objs.size) {s with heap:=h',toks:=tk}) :
  wpAny (AN prog w) A (call (.type "list") [.ref it]) Q E s:=by
 refine callType_codes (Q₁:=λobj s₁=>obj=.ref s.heap.objs.size/\s₁={s with heap:=s.heap.push {cls:=.type "list",data:=.seq #[]}}) F.called_list (F.typeCall_list_1 _) F.entry_list_init
  (code_list_new _ ⟨ξ,ξ⟩) λobj s₁ h₁=>?_
 obtain⟨rfl,rfl⟩:=h₁;have hS:(s.heap.push {cls:=.type "list",data:=.seq #[]}).get? s.heap.objs.size=u8 {cls:=.type "list",data:=.seq #[]}:=AQ _ rfl;have ni:s.heap.objs.size≠it:=λe=>by
  obtain⟨o,ho,_⟩:=br;have:=Be ho;rw[e] at this;exact Ex _ this
 have nl:s.heap.objs.size≠l:=λe=>by
  obtain⟨o,ho,_⟩:=hl;have:=Be ho;rw[e] at this;exact Ex _ this
 refine⟨⟨_,hS,ξ⟩,F.args_list_init_2 _ _,ADm (A:=A.in1) hh (br.at λo e=>AE _ e) (hl.at λo e=>AE _ e) cS bh _ hS ni nl λh' tk a9 c' hk cK be=>?_⟩;exact⟨ξ,hQ h' tk a9 c' (λb o hb e=>hk b o (BF (Be e)) hb (AE _ e)) cK be⟩
def AIB(K:As)(te:TE):TE:=λσ H Q=>te σ H λv H1=>∃a xs,v=.ref a/\SqL K H1 a xs/\xs.length<=1000/\∀l,H1 l=none->Q (.ref l) (upd H1 l (.lst xs.reverse))
def AFX(hc:X.calm=true)(hg:Gl X "list")(hm:X.mg "list" = u9)(l6:Gl X "reversed")(hm2:X.mg "reversed" = u9)(he:PE X e te)
  (hv:HI "list" = u8 (.type "list"):=by exact EF) (hv2:autoParam (HI "reversed" = u8 (.type "reversed")) zA3._auto_1)
  (s1:autoParam (B3 [e] X.env=(false,eval e X.env)::B3 [] X.env) zA0._auto_1)
  (s2:autoParam (B3 [.Call (.Name "reversed" p2) [e] [] eI] X.env=(false,eval (.Call (.Name "reversed" p2) [e] [] eI) X.env)::B3 [] X.env) zA0._auto_1) :
  PE X (.Call (.Name "list" p1) [.Call (.Name "reversed" p2) [e] [] eI] [] pos) (AIB X.K te):=by
 intro aI s σ H Q I h;refine EB (El I hg hm hv ?_ ζ ζ);refine DT ?_ s2 rfl;rw[s2];show wpAny _ _ (V6 ((false,eval (.Call (.Name "reversed" p2) [e] [] eI) X.env)::FB pos (B3 [] X.env))) _ _ s;refine F3 ?_;refine EB (El I l6 hm2 hv2 ?_ ζ ζ);refine DT ?_ s1 rfl;rw[s1];show wpAny _ _ (V6 ((false,eval e X.env)::FB eI (B3 [] X.env))) _ _ s;refine F3 (thn (he aI s σ H _ I h) λu s1 hq=>?_);obtain⟨x,H1,I1,r1,q1⟩:=hq;refine IB ?_;obtain⟨a,xs,rfl,ha,hz,q⟩:=q1;cases r1;obtain⟨a5,r,pl,_⟩:=I1.list ha;have lx:=r.length;have hl:=pl.isList;refine call_reversed_list hl ?_;refine IB ?_;have cS:a≠s1.heap.objs.size:=λe=>by
  obtain⟨o,ho,_⟩:=hl;have:=Be ho;rw[e] at this;exact Ex _ this
 refine ABd (items:=a5.toArray) (I1.ok.hd hc) ⟨_,AQ _ rfl,ξ,ξ⟩ (hl.at λo e=>AE _ e) cS (by rw[AO];lia) λh' tk a9 c' hk cK be=>?_;have hsz:(s1.heap.push (revObj a ((a5.toArray.size:Int)-1))).objs.size=s1.heap.objs.size+1:=by simp[Heap.push]
 refine⟨.ref _,_,I1.laid (o:=.lst xs.reverse) (a:=(s1.heap.push (revObj a ((a5.toArray.size:Int)-1))).objs.size) (t':=tk) (λb o e=>hk b o (BF (Be e)) (AE _ e)) (by rw[hsz];exact vq) ⟨?_,a9.toList,c',?_,by simpa using cK⟩,ξ,q _ (I1.hok.fresh (by rw[hsz];exact vq))⟩
 .rw[M8]
  exact small hz
 .refine JR (by rw[M8,lx,<- AO,<- be.1];simp) λi x u h1 h2=>?_
  have gE:a9[i]?=u8 u:=by simpa using h2
  have hi:i<a5.length:=by
   have:=(CL.mp gE).1;rw[be.1,AO] at this;exact this
  have g:=be.2 i u gE;rw[AO] at g;have g':a5[a5.length-1-i]?=u8 u:=by simpa using g
  rw[List.getElem?_reverse (dl hi lx),lx] at h1;obtain⟨u',fi,rr⟩:=r.get h1;rw[fi] at g';cases g';exact rr
end L2
namespace G
abbrev Row:=Nat×Nat×Nat
def Low(aE:List Row)(t k l:Nat):Prop:=l<k/\(l<=1\/∃r,aE[l-2]?=u8 r/\t<r.1)
def Ok(n:Nat)(aE:List Row):Prop:=∀(i:Nat) (r:Row),aE[i]?=u8 r->r.1<n/\Low aE r.1 (i+2) r.2.1/\Low aE r.1 (i+2) r.2.2
structure Least(n:Nat)(aE:List Row):Prop where
 ok:Ok n aE
 pos:∀(i:Nat) (r:Row),aE[i]?=u8 r->r.2.2≠0
 one:∀(i j:Nat) (r:Row),aE[i]?=u8 r->aE[j]?=u8 r->i=j
noncomputable def rank(n:Nat)(aE:List Row)(k:Nat):Nat:=if k<2 then n+1-k else(aE.getD (k-2) (0,0,0)).1
noncomputable def ledF(aE:List Row):Nat->Nat->vI->Bool
 | 0,_,_=>false
 | f+1,k,s=>if k<=1 then decide (k=1/\s=[]) else
  let r:=aE.getD (k-2) (0,0,0)
  match s with
  | []=>ledF aE f r.2.1 []
  | x::xs=>if x<r.1 then false else if x=r.1 then ledF aE f r.2.2 xs else ledF aE f r.2.1 (x::xs)
noncomputable def led(aE:List Row)(k:Nat)(s:vI):Bool:=ledF aE (k+1) k s
def Knot(aE:List Row)(k:Nat):Prop:=k<aE.length+2
section
variable{aE:List Row}
def Bb{k:Nat}(h:Knot aE k)(h2:2<=k):aE[k-2]?=u8 (aE.getD (k-2) (0,0,0)):=by
 have:k-2<aE.length:=by unfold Knot at h;exact xq h h2
 rw[AK this,AD,AK this];rfl
def Ok.low(o:Ok n aE){r:Row}(h:aE[i]?=u8 r):r.1<n/\r.2.1<i+2/\r.2.2<i+2/\r.1<rank n aE r.2.1/\r.1<rank n aE r.2.2/\Knot aE r.2.1/\Knot aE r.2.2:=by
 obtain⟨h1,h2,h3⟩:=o i r h;have hi:=(AG.mp h).1;have rk:∀l,Low aE r.1 (i+2) l->r.1<rank n aE l/\Knot aE l:=by
  intro l hl;obtain⟨a,b⟩:=hl;refine⟨?_,by unfold Knot;lia⟩;unfold rank;by_cases c:l<2
  .rw[vB c];lia
  .rw[vA c]
   rcases b with b| ⟨r',e,z⟩
   ·lia
   .rw[AD,e];exact z
 exact⟨h1,h2.1,h3.1,(rk _ h2).1,(rk _ h3).1,(rk _ h2).2,(rk _ h3).2⟩
def AAo(o:Ok n aE):∀(f k:Nat) (s:vI),k<f->Knot aE k->ledF aE (f+1) k s=ledF aE f k s:=by
 intro f
 induction f with
 | zero=>intro k s h;lia
 | succ f ih =>
  intro k s hk kn;unfold ledF;by_cases c:k<=1
  .rw[vB c,vB c]
  rw[vA c,vA c];obtain⟨h1,h2,h3,_,_,k1,k2⟩:=o.low (Bb kn (wd c));have e1:∀s,ledF aE (f+1) (aE.getD (k-2) (0,0,0)).2.1 s=ledF aE f (aE.getD (k-2) (0,0,0)).2.1 s:=λs=>ih _ _ (xx h2 hk c) k1;have e2:∀s,ledF aE (f+1) (aE.getD (k-2) (0,0,0)).2.2 s=ledF aE f (aE.getD (k-2) (0,0,0)).2.2 s:=λs=>ih _ _ (xx h3 hk c) k2;cases s with
  | nil=>exact e1 _
  | cons x xs =>
   show(if _ then _ else if _ then ledF aE (f+1) _ _ else ledF aE (f+1) _ _)=_;rw[e1,e2]
theorem Ky(o:Ok n aE){k:Nat}(s:vI)(kn:Knot aE k):∀d,ledF aE (k+1+d) k s=led aE k s
 | 0=>rfl
 | d+1=>by rw[show k+1+(d+1)=(k+1+d)+1 from xW,AAo o _ k s δ kn,Ky o s kn d]
def DQ(s:vI):led aE 1 s=decide (s=[]):=by
 unfold led ledF;simp
def Cp(s:vI):led aE 0 s=false:=by
 unfold led ledF;simp
def DW(o:Ok n aE){k:Nat}(kn:Knot aE k)(h2:2<=k):led aE k []=led aE (aE.getD (k-2) (0,0,0)).2.1 []:=by
 obtain⟨h1,gE,h3,_,_,k1,k2⟩:=o.low (Bb kn h2);unfold led
 conv=>lhs;unfold ledF
 rw[vA (xp h2)];have:=Ky o [] k1 (k-(aE.getD (k-2) (0,0,0)).2.1-1);rw[show(aE.getD (k-2) (0,0,0)).2.1+1+(k-(aE.getD (k-2) (0,0,0)).2.1-1)=k from yf gE h2] at this;exact this
def Bm(o:Ok n aE){k x:Nat}{xs:vI}(kn:Knot aE k)(h2:2<=k):led aE k (x::xs) =
  if x<(aE.getD (k-2) (0,0,0)).1 then false else if x=(aE.getD (k-2) (0,0,0)).1 then led aE (aE.getD (k-2) (0,0,0)).2.2 xs else led aE (aE.getD (k-2) (0,0,0)).2.1 (x::xs):=by
 obtain⟨h1,gE,h3,_,_,k1,k2⟩:=o.low (Bb kn h2);unfold led
 conv=>lhs;unfold ledF
 rw[vA (xp h2)];have e1:=Ky o (x::xs) k1 (k-(aE.getD (k-2) (0,0,0)).2.1-1);rw[show(aE.getD (k-2) (0,0,0)).2.1+1+(k-(aE.getD (k-2) (0,0,0)).2.1-1)=k from yf gE h2] at e1;have e2:=Ky o xs k2 (k-(aE.getD (k-2) (0,0,0)).2.2-1);rw[show(aE.getD (k-2) (0,0,0)).2.2+1+(k-(aE.getD (k-2) (0,0,0)).2.2-1)=k from yf h3 h2] at e2;show(if _ then _ else if _ then ledF aE k _ _ else ledF aE k _ _)=_;rw[e1,e2];rfl
def Way(n:Nat)(aE:List Row)(k:Nat)(s:vI):Prop:=led aE k s=true/\s.Pairwise (· < ·)/\∀x∈s,x<n/\rank n aE k<=x
def ADK(L:Least n aE){k:Nat}{s:vI}(kn:Knot aE k)(h2:2<=k)(w:Way n aE (aE.getD (k-2) (0,0,0)).2.2 s):Way n aE k ((aE.getD (k-2) (0,0,0)).1::s):=by
 obtain⟨w1,w2,w3⟩:=w;obtain⟨h1,gE,h3,r1,r2,k1,k2⟩:=L.ok.low (Bb kn h2);have rk:rank n aE k=(aE.getD (k-2) (0,0,0)).1:=by unfold rank;rw[vA (v9 h2)]
 refine⟨?_,?_,?_⟩
 .rw[Bm L.ok kn h2,vA wV,vB rfl];exact w1
 .exact S6 (λx hx=>by have:=(w3 x hx).2;exact vy r2 this) w2
 .intro x hx
  rcases AY.mp hx with rfl| hx
  .exact⟨h1,wH rk⟩
  .have:=w3 x hx
   exact⟨this.1,δ⟩
def AFa:Way n aE 1 []:=⟨by rw[DQ];rfl,.nil,λx hx=>nomatch hx⟩
def off(o:Ok n aE){b x:Nat}{xs:vI}(kb:Knot aE b)(h:x<rank n aE b):led aE b (x::xs)=false:=by
 unfold rank at h;by_cases c:b<2
 .have hb:b=0\/b=1:=xv c
  rcases hb with rfl| rfl
  .exact Cp _
  .rw[DQ];rfl
 .rw[vA c] at h
  rw[Bm o kb (vo c),vB h]
end
section
variable{t:Nat}{aE aS new:List Row}
noncomputable def tieOf(aE:List Row)(k:Nat):Nat:=(aE.getD (k-2) (0,0,0)).1
noncomputable def outOf(aE:List Row)(k:Nat):Nat:=(aE.getD (k-2) (0,0,0)).2.1
noncomputable def intoOf(aE:List Row)(k:Nat):Nat:=(aE.getD (k-2) (0,0,0)).2.2
structure Closed(aE:List Row)(rc:vI):Prop where
 two:∀k∈rc,2<=k
 knot:∀k∈rc,Knot aE k
 out:∀k∈rc,outOf aE k<=1\/outOf aE k∈rc
 into:∀k∈rc,intoOf aE k<=1\/intoOf aE k∈rc
structure Kept(n t:Nat)(aE:List Row)(rc:vI)(aS:List Row)(pl:Nat->vT):Prop where
 least:Least n aS
 ge:∀r∈aS,t<=r.1
 z:pl 0=u8 0
 o:pl 1=u8 1
 has:∀k∈rc,t<=tieOf aE k->∃p,pl k=u8 p/\Knot aS p/\tieOf aE k<=rank n aS p
def AAn(hn:∀k∈rc,tieOf aE k<n):Kept n n aE rc [] (λk=>if k=0 then u8 0 else if k=1 then u8 1 else u9) :=
 ⟨⟨λi r h=>by simp at h,λi r h=>by simp at h,λi j r h=>by simp at h⟩,λr h=>(nomatch h),ξ,ξ,λk hk h=>vF (hn k hk) (v9 h)⟩
def Mr{p:Nat}(h:Knot aS p):rank n (aS++new) p=rank n aS p:=by
 unfold rank;by_cases c:p<2
 .rw[vB c,vB c]
 .rw[vA c,vA c,AD,AD,BB (by unfold Knot at h;lia)]
def FT{p:Nat}(h:Knot aS p):Knot (aS++new) p:=by unfold Knot at *;rw[A2];lia
def Kept.low(I:Kept n (t+1) aE rc aS pl)(o:Ok n aE)(hn:t<n){l:Nat}(h:l<=1\/l∈rc)(z:l<=1\/t<tieOf aE l):∃p,pl l=u8 p/\Knot aS p/\t<rank n aS p:=by
 rcases C9 l 2 with c| c
 .have e:l=0\/l=1:=xv c
  rcases e with rfl| rfl
  .exact⟨0,I.z,by unfold Knot;exact xi,by unfold rank;rw[vB ζ];lia⟩
  .exact⟨1,I.o,by unfold Knot;exact xr,by unfold rank;rw[vB ζ];lia⟩
 .have hr:=h.resolve_left (wY c)
  have hz:=z.resolve_left (wY c);obtain⟨p,h1,h2,h3⟩:=I.has l hr hz;exact⟨p,h1,h2,vy hz h3⟩
noncomputable def rowIn(aE:List Row)(pl:Nat->vT)(k:Nat):Row:=(tieOf aE k,(pl (outOf aE k)).getD 0,(pl (intoOf aE k)).getD 0)
def Closed.low(c:Closed aE rc)(o:Ok n aE){k:Nat}(h:k∈rc):tieOf aE k<n/\(outOf aE k<=1\/tieOf aE k<tieOf aE (outOf aE k))/\(intoOf aE k<=1\/tieOf aE k<tieOf aE (intoOf aE k)):=by
 obtain⟨h1,h2,h3⟩:=o _ _ (Bb (c.knot k h) (c.two k h));refine⟨h1,h2.2.imp id λ⟨r,e,z⟩=>?_,h3.2.imp id λ⟨r,e,z⟩=>?_⟩
 .show(aE.getD (k-2) (0,0,0)).1<(aE.getD ((aE.getD (k-2) (0,0,0)).2.1-2) (0,0,0)).1
  rw[AD (l:=aE) (i:=(aE.getD (k-2) (0,0,0)).2.1-2),e];exact z
 .show(aE.getD (k-2) (0,0,0)).1<(aE.getD ((aE.getD (k-2) (0,0,0)).2.2-2) (0,0,0)).1
  rw[AD (l:=aE) (i:=(aE.getD (k-2) (0,0,0)).2.2-2),e];exact z
def Kept.row(I:Kept n (t+1) aE rc aS pl)(c:Closed aE rc)(o:Ok n aE)(hn:t<n){k:Nat}(h:k∈rc)(ht:tieOf aE k=t) :
  ∃a b,pl (outOf aE k)=u8 a/\pl (intoOf aE k)=u8 b/\rowIn aE pl k=(t,a,b)/\Knot aS a/\Knot aS b/\t<rank n aS a/\t<rank n aS b:=by
 obtain⟨_,z1,z2⟩:=c.low o h;obtain⟨a,a1,a2,a3⟩:=I.low o hn (c.out k h) (by rw[<- ht];exact z1);obtain⟨b,b1,b2,b3⟩:=I.low o hn (c.into k h) (by rw[<- ht];exact z2);exact⟨a,b,a1,b1,by unfold rowIn;rw[a1,b1,ht];rfl,a2,b2,a3,b3⟩
def ABn{p k:Nat}(h:Knot aS p)(hk:aS.length+2<=k)(z:t<rank n aS p):Low (aS++new) t k p:=by
 refine⟨by unfold Knot at h;exact vy h hk,?_⟩;rcases C9 p 2 with c| c
 .exact .inl (wA c)
 .refine .inr ⟨aS.getD (p-2) (0,0,0),?_,?_⟩
  .rw[BB (by unfold Knot at h;lia)]
   exact Bb h c
  .unfold rank at z
   rw[vA (wW c)] at z;exact z
def Kept.step(I:Kept n (t+1) aE rc aS pl)(c:Closed aE rc)(o:Ok n aE)(hn:t<n)(hw:∀r,r∈new->∃k,k∈rc/\tieOf aE k=t/\r=rowIn aE pl k/\r.2.2≠0)(nd:new.Nodup)
  (h1:∀k,k∉rc\/tieOf aE k≠t->i5 k=pl k)
  (h2:∀k∈rc,tieOf aE k=t->∃p,i5 k=u8 p/\((∃i,(aS++new)[i]?=u8 (rowIn aE pl k)/\p=i+2)\/(rowIn aE pl k∉aS++new/\p=(rowIn aE pl k).2.1))) :
  Kept n t aE rc (aS++new) i5:=by
 have at_new:∀(i:Nat) (r:Row),aS.length<=i->(aS++new)[i]?=u8 r->new[i-aS.length]?=u8 r:=λi r hi e=>by rw[Cc hi] at e;exact e
 have at_old:∀(i:Nat) (r:Row),i<aS.length->(aS++new)[i]?=u8 r->aS[i]?=u8 r:=λi r hi e=>by rw[BB hi] at e;exact e
 have tn:∀r∈new,∃a b,r=(t,a,b)/\b≠0/\Knot aS a/\Knot aS b/\t<rank n aS a/\t<rank n aS b:=λr hr=>by
  obtain⟨k,k1,k2,k3,k4⟩:=hw r hr;obtain⟨a,b,_,_,e,x1,x2,x3,x4⟩:=I.row c o hn k1 k2;rw[e] at k3;refine⟨a,b,k3,?_,x1,x2,x3,x4⟩;rw[k3] at k4;exact k4
 have two:∀k∈rc,k≠0/\k≠1:=λk hk=>by have:=c.two k hk;lia
 refine⟨⟨?_,?_,?_⟩,?_,?_,?_,?_⟩
 .intro i r e
  rcases C9 i aS.length with hi| hi
  .obtain⟨z1,z2,z3⟩:=I.least.ok i r (at_old i r hi e)
   refine⟨z1,⟨z2.1,z2.2.imp id λ⟨q,e,z⟩=>⟨q,?_,z⟩⟩,⟨z3.1,z3.2.imp id λ⟨q,e,z⟩=>⟨q,?_,z⟩⟩⟩
   .rw[BB (by have:=(AG.mp e).1;exact this)];exact e
   .rw[BB (by have:=(AG.mp e).1;exact this)];exact e
  .obtain⟨a,b,rfl,_,x1,x2,x3,x4⟩:=tn r (By (at_new i r hi e))
   exact⟨hn,ABn x1 (ar484 hi) x3,ABn x2 (ar484 hi) x4⟩
 .intro i r e
  rcases C9 i aS.length with hi| hi
  .exact I.least.pos i r (at_old i r hi e)
  .obtain⟨a,b,rfl,x,_⟩:=tn r (By (at_new i r hi e))
   exact x
 .intro i j r e1 e2
  have qA:∀(i j:Nat),i<aS.length->aS.length<=j->(aS++new)[i]?=u8 r->(aS++new)[j]?=u8 r->False:=λi j hi hj e1 e2=>by
   have g:=I.ge r (By (at_old i r hi e1));obtain⟨a,b,rfl,_⟩:=tn r (By (at_new j r hj e2));have g':=g;lia
  rcases C9 i aS.length with hi| hi
  .rcases C9 j aS.length with hj| hj
   .exact I.least.one i j r (at_old i r hi e1) (at_old j r hj e2)
   .exact(qA i j hi hj e1 e2).elim
  .rcases C9 j aS.length with hj| hj
   .exact(qA j i hj hi e2 e1).elim
   .have a1:=at_new i r hi e1
    have a2:=at_new j r hj e2;have:=(L5 (AG.mp a1).1 nd).mp (a1.trans a2.symm);lia
 .intro r hr
  rcases Cf.mp hr with hr| hr
  .have:=I.ge r hr;exact wc this
  .obtain⟨a,b,rfl,_⟩:=tn r hr
   exact AI t
 .rw[h1 0 (.inl λh=>(two 0 h).1 rfl)];exact I.z
 .rw[h1 1 (.inl λh=>(two 1 h).2 rfl)];exact I.o
 .intro k hk kB
  by_cases e:tieOf aE k=t
  .obtain⟨p,p1,p2⟩:=h2 k hk e
   refine⟨p,p1,?_⟩;obtain⟨a,b,_,_,re,x1,x2,x3,x4⟩:=I.row c o hn hk e;rcases p2 with⟨i,i1,rfl⟩| ⟨i1,rfl⟩
   .have il:=(AG.mp i1).1
    refine⟨by unfold Knot;exact wo il,?_⟩;unfold rank;rw[vA zd,CF,AD,i1,re];show tieOf aE k<=t;exact wH e
   .rw[re]
    refine⟨FT x1,?_⟩;rw[Mr x1,e];exact D7 x3
  .obtain⟨p,p1,p2,p3⟩:=I.has k hk (wI kB e)
   exact⟨p,by rw[h1 k (.inr e)];exact p1,FT p2,by rw[Mr p2];exact p3⟩
end
structure SetsOk(n lo:Nat)(ss:vH):Prop where
 nd:ss.Nodup
 asc:∀s∈ss,s.Pairwise (· < ·)
 rng:∀s∈ss,∀x∈s,(lo:Int)<=x/\x<n
theorem all_nil:∀{ss:vH},ss.Nodup->(∀s∈ss,s=[])->ss=[]\/ss=[[]]
 | [],_,_=>.inl rfl
 | [s],_,h=>.inr (by rw[h s AF])
 | s::u::r,nd,h=>by
  have e1:=h s AF;have e2:=h u (AJ _ AF);have:=(DV.mp nd).1;rw[e1,e2] at this;exact vF AF this
section
variable{d t m1 m2:Nat}{ss:vH}{aE more a7 a8:List Row}
def SetsOk.some(h:SetsOk n lo ss)(h0:ss≠[])(h1:ss≠[[]]):∃s∈ss,s≠[]:=by
 rcases Classical.em (∃s∈ss,s≠[]) with z| z
 .exact z
 .rcases all_nil h.nd λs hs=>Ct λc=>z ⟨s,hs,c⟩ with e| e
  .exact vF e h0
  .exact vF e h1
noncomputable def heads(ss:vH):vG:=(ss.filter λs=>!decide (s=[])).map λs=>s.headD 0
def Ei{a:Int}:a∈heads ss↔∃r,a::r∈ss:=by
 unfold heads;rw[A1];constructor
 .rintro⟨s,hs,rfl⟩
  obtain⟨h1,h2⟩:=BG.mp hs;cases s with
  | nil=>simp at h2
  | cons x r=>exact⟨r,h1⟩
 .rintro⟨r,h⟩
  exact⟨a::r,BG.mpr ⟨h,θ⟩,ξ⟩
def SetsOk.least(h:SetsOk n lo ss)(hm:(t:Int)∈heads ss):lo<=t/\t<n:=by
 obtain⟨r,hr⟩:=Ei.mp hm;have:=h.rng _ hr t AF;lia
def SetsOk.out(h:SetsOk n lo ss)(hl:∀a∈heads ss,(t:Int)<=a):SetsOk n (t+1) (ss.filter λs=>!decide ((t:Int)∈s)):=by
 refine⟨h.nd.filter _,λs hs=>h.asc s (BG.mp hs).1,λs hs x hx=>?_⟩;obtain⟨h1,h2⟩:=BG.mp hs;have gE:(t:Int)∉s:=by simpa using h2
 refine⟨?_,(h.rng s h1 x hx).2⟩;cases s with
 | nil=>cases hx
 | cons a r =>
  have la:=hl a (Ei.mpr ⟨r,h1⟩);have na:(t:Int)≠a:=λe=>gE (by rw[e];exact AF);rcases AY.mp hx with rfl| hx
  ·lia
  .have:=(B0.mp (h.asc _ h1)).1 x hx
   lia
def SetsOk.led(h:SetsOk n lo ss)(hl:∀a∈heads ss,(t:Int)<=a){s:vG}(hs:s∈ss)(ht:(t:Int)∈s):s=(t:Int)::s.tail:=by
 cases s with
 | nil=>cases ht
 | cons a r =>
  have la:=hl a (Ei.mpr ⟨r,hs⟩);rcases AY.mp ht with e| ht
  .rw[e];rfl
  .have:=(B0.mp (h.asc _ hs)).1 _ ht
   lia
theorem Lf{t:Int}:∀{l:vH},l.Nodup->(∀s∈l,s=t::s.tail)->(l.map P0).Nodup
 | [],_,_=>.nil
 | s::l,nd,h=>by
  obtain⟨h1,h2⟩:=DV.mp nd;rw[BO];refine DV.mpr ⟨λz=>?_,Lf h2 λu hu=>h u (AJ _ hu)⟩;obtain⟨u,hu,e⟩:=A1.mp z;refine h1 ?_;rw[h s AF,<- e,<- h u (AJ _ hu)];exact hu
def SetsOk.into(h:SetsOk n lo ss)(hl:∀a∈heads ss,(t:Int)<=a):SetsOk n (t+1) ((ss.filter λs=>decide ((t:Int)∈s)).map P0):=by
 have led:∀s∈ss.filter (λs=>decide ((t:Int)∈s)),s∈ss/\s=(t:Int)::s.tail:=λs hs=>by
  obtain⟨h1,h2⟩:=BG.mp hs;exact⟨h1,h.led hl h1 (vE h2)⟩
 refine⟨Lf (h.nd.filter _) λs hs=>(led s hs).2,λs hs=>?_,λs hs x hx=>?_⟩
 .obtain⟨u,hu,rfl⟩:=A1.mp hs
  have a:=h.asc u (led u hu).1;rw[(led u hu).2] at a;exact(B0.mp a).2
 .obtain⟨u,hu,rfl⟩:=A1.mp hs
  have a:=h.asc u (led u hu).1;rw[(led u hu).2] at a;have:=(B0.mp a).1 x hx;have z:=h.rng u (led u hu).1 x (List.mem_of_mem_tail hx);lia
theorem split_len(p:vG->Bool):∀ss:vH,(ss.filter λs=>!p s).length+(ss.filter p).length=ss.length
 | []=>rfl
 | s::ss=>by
  have:=split_len p ss;rw[C6,C6];cases p s<;>simp<;>lia
structure Made(n lo d:Nat)(aE more:List Row)(k m:Nat):Prop where
 ok:Ok n (aE++more)
 kn:Knot (aE++more) k
 up:k<=1\/lo<=tieOf (aE++more) k
 ge:∀r∈more,lo<=r.1
 cnt:∀t,(more.filter λr=>decide (r.1=t)).length<=m
 len:more.length<=d*m
def Made.none(o:Ok n aE):Made n lo d aE [] 0 m:=⟨by rw[B5];exact o,by unfold Knot;exact xi,.inl wU,λr h=>(nomatch h),λt=>by simp,θ⟩
def Made.one(o:Ok n aE):Made n lo d aE [] 1 m:=⟨by rw[B5];exact o,by unfold Knot;exact xr,.inl wC,λr h=>(nomatch h),λt=>by simp,θ⟩
def Ks{l k:Nat}(h:Low aE t k l):Low (aE++more) t k l:=⟨h.1,h.2.imp id λ⟨q,e,z⟩=>⟨q,by rw[BB (AG.mp e).1];exact e,z⟩⟩
def ADR(o:Ok n aE)(ht:t<n)(h1:Low aE t (aE.length+2) k1)(h2:Low aE t (aE.length+2) k2):Ok n (aE++[(t,k1,k2)]):=by
 intro j r e;rcases C9 j aE.length with c| c
 .rw[BB c] at e
  obtain⟨z1,z2,z3⟩:=o j r e;exact⟨z1,Ks z2,Ks z3⟩
 .rw[Cc c] at e
  have j0:j=aE.length:=by
   have:=(AG.mp e).1;simp at this;lia
  subst j0;rw[IZ] at e;cases e;exact⟨ht,Ks h1,Ks h2⟩
def Ii{k:Nat}(kn:Knot aE k)(up:k<=1\/t+1<=tieOf aE k):Low aE t (aE.length+2) k:=by
 refine⟨kn,?_⟩;rcases C9 k 2 with c| c
 .exact .inl (wA c)
 .exact .inr ⟨_,Bb kn c,by have:=up.resolve_left (wY c);unfold tieOf at this;exact yI this⟩
def ZM{k:Nat}(kn:Knot aE k)(h2:2<=k):tieOf (aE++more) k=tieOf aE k:=by
 unfold tieOf;rw[AD,AD,BB (by unfold Knot at kn;exact xq kn h2)]
def Made.step(M1:Made n (t+1) d aE a7 k1 m1)(M2:Made n (t+1) d (aE++a7) a8 k2 m2)(em:m1+m2=m)(hm:1<=m)(ht:t<n)(ie:lo<=t) :
  Made n lo (d+1) aE (a7++a8++[(t,k1,k2)]) ((aE++(a7++a8)).length+2) m:=by
 have e:aE++(a7++a8)=aE++a7++a8:=(CH ..).symm;have sQ:Knot (aE++a7++a8) k1:=FT M1.kn;have up1:k1<=1\/t+1<=tieOf (aE++a7++a8) k1:=by
  rcases C9 k1 2 with c| c
  .exact .inl (wA c)
  .rw[ZM M1.kn c];exact M1.up
 have oa:=ADR M2.ok ht (Ii sQ up1) (Ii M2.kn M2.up);have er:aE++(a7++a8++[(t,k1,k2)])=aE++a7++a8++[(t,k1,k2)]:=by simp
 refine⟨by rw[er];exact oa,?_,.inr ?_,λr hr=>?_,λu=>?_,?_⟩
 .unfold Knot
  rw[er,e,A2 (as:=aE++a7++a8),DC];exact Pi
 .rw[er,e]
  unfold tieOf;rw[CF,AD,Cc (AI _),IZ];exact ie
 .rcases Cf.mp hr with hr| hr
  .rcases Cf.mp hr with hr| hr
   .have:=M1.ge r hr;exact XL ie this
   .have:=M2.ge r hr;exact XL ie this
  .rw[B8.mp hr];exact ie
 .have c1:=M1.cnt u
  have c2:=M2.cnt u;rw[CI,CI,A2,A2];by_cases z:t=u
  .have u9:∀(l:List Row),(∀r∈l,t+1<=r.1)->(l.filter λr=>decide (r.1=u)).length=0:=λl h=>by
    rw[CU,HG];intro r hr;have:=h r hr;simp;lia
   rw[u9 _ M1.ge,u9 _ M2.ge];refine BQ ?_ hm;rw[F8];exact BQ (CY _ _) (AI _)
  .rw[C6,vA (by simpa using z),J5,HU]
   lia
 .have l1:=M1.len
  have l2:=M2.len;rw[A2,A2,DC,Nat.add_mul,<- em,ZO];lia
end
section
variable{t:Nat}{aE aS new more:List Row}
def ADf(o:Ok n aE):∀(f k:Nat) (s:vI),Knot aE k->ledF (aE++more) f k s=ledF aE f k s:=by
 intro f
 induction f with
 | zero=>intro k s h;rfl
 | succ f ih =>
  intro k s kn;unfold ledF;by_cases c:k<=1
  .rw[vB c,vB c]
  rw[vA c,vA c];have eg:(aE++more).getD (k-2) (0,0,0)=aE.getD (k-2) (0,0,0):=by
   rw[AD,AD,BB (by unfold Knot at kn;lia)]
  obtain⟨h1,h2,h3,_,_,k1,k2⟩:=o.low (Bb kn (wd c));rw[eg];cases s with
  | nil=>exact ih _ _ k1
  | cons x xs =>
   show(if _ then _ else if _ then ledF (aE++more) f _ _ else ledF (aE++more) f _ _)=_;rw[ih _ _ k1,ih _ _ k2]
def Cz(o:Ok n aE){k:Nat}(s:vI)(kn:Knot aE k):led (aE++more) k s=led aE k s:=ADf o _ _ _ kn
def RowLt(a b:Row):Prop:=b.1<a.1\/(a.1=b.1/\(a.2.1<b.2.1\/(a.2.1=b.2.1/\a.2.2<b.2.2)))
structure Kept2(n t:Nat)(aE:List Row)(rc:vI)(aS:List Row)(pl:Nat->vT):Prop where
 base:Kept n t aE rc aS pl
 sem:∀k∈rc,t<=tieOf aE k->∀p,pl k=u8 p->∀s,led aS p s=led aE k s
 img:∀k∈rc,t<=tieOf aE k->∀p,pl k=u8 p->(2<=p/\aS[p-2]?=u8 (rowIn aE pl k))\/((rowIn aE pl k).2.2=0/\p=(rowIn aE pl k).2.1)
 sur:∀(i:Nat) (r:Row),aS[i]?=u8 r->∃k∈rc,t<=tieOf aE k/\pl k=u8 (i+2)
 srt:aS.Pairwise RowLt
def Xk(hn:∀k∈rc,tieOf aE k<n):Kept2 n n aE rc [] (λk=>if k=0 then u8 0 else if k=1 then u8 1 else u9) :=
 ⟨AAn hn,λk hk h=>vF (hn k hk) (v9 h),λk hk h=>vF (hn k hk) (v9 h),λi r h=>by simp at h,.nil⟩
def XH(c:Closed aE rc)(o:Ok n aE)(h1:∀k,k∉rc\/tieOf aE k≠t->i5 k=pl k){k:Nat}(hk:k∈rc)(ht:t<=tieOf aE k):rowIn aE i5 k=rowIn aE pl k:=by
 have two:∀k,k<=1->k∉rc:=λk h z=>by have:=c.two k z;exact zQ this h
 obtain⟨_,z1,z2⟩:=c.low o hk;have e1:i5 (outOf aE k)=pl (outOf aE k):=by
  rcases z1 with z| z
  .exact h1 _ (.inl (two _ z))
  .exact h1 _ (.inr (zR ht z))
 have e2:i5 (intoOf aE k)=pl (intoOf aE k):=by
  rcases z2 with z| z
  .exact h1 _ (.inl (two _ z))
  .exact h1 _ (.inr (zR ht z))
 unfold rowIn;rw[e1,e2]
def Kept2.low(I:Kept2 n (t+1) aE rc aS pl){l p:Nat}(h:l<=1\/l∈rc)(z:l<=1\/t<tieOf aE l)(hp:pl l=u8 p)(s:vI):led aS p s=led aE l s:=by
 rcases C9 l 2 with c| c
 .have e:l=0\/l=1:=xv c
  rcases e with rfl| rfl
  .rw[I.base.z] at hp
   cases hp;rw[Cp,Cp]
  .rw[I.base.o] at hp
   cases hp;rw[DQ,DQ]
 .exact I.sem l (h.resolve_left (wY c)) (z.resolve_left (wY c)) p hp s
def Kept2.step(I:Kept2 n (t+1) aE rc aS pl)(c:Closed aE rc)(o:Ok n aE)(hn:t<n)(hw:∀r,r∈new->∃k,k∈rc/\tieOf aE k=t/\r=rowIn aE pl k/\r.2.2≠0)(nd:new.Nodup)
  (hw2:∀k∈rc,tieOf aE k=t->(rowIn aE pl k).2.2≠0->rowIn aE pl k∈new) (so:new.Pairwise RowLt)
  (h1:∀k,k∉rc\/tieOf aE k≠t->i5 k=pl k)
  (h2:∀k∈rc,tieOf aE k=t->∃p,i5 k=u8 p/\((∃i,(aS++new)[i]?=u8 (rowIn aE pl k)/\p=i+2)\/(rowIn aE pl k∉aS++new/\p=(rowIn aE pl k).2.1))) :
  Kept2 n t aE rc (aS++new) i5:=by
 have B:=I.base.step c o hn hw nd h1 h2;have oC:=I.base.least.ok;have at_:∀k∈rc,tieOf aE k=t->∀p,i5 k=u8 p->(∃i,(aS++new)[i]?=u8 (rowIn aE pl k)/\p=i+2)\/((rowIn aE pl k).2.2=0/\p=(rowIn aE pl k).2.1):=λk hk ht p hp=>by
  obtain⟨p',e,h⟩:=h2 k hk ht;rw[hp] at e;cases e;rcases h with h| ⟨nm,e⟩
  .exact .inl h
  .refine .inr ⟨?_,e⟩
   rcases Th (rowIn aE pl k).2.2 with z| z
   .exact z
   .exact vF (Co _ (hw2 k hk ht δ)) nm
 have bv:∀k∈rc,t+1<=tieOf aE k->∀p,i5 k=u8 p->pl k=u8 p:=λk hk ht p hp=>by rw[h1 k (.inr (zS ht))] at hp;exact hp
 refine⟨B,λk hk ht p hp s=>?_,λk hk ht p hp=>?_,λi r e=>?_,?_⟩
 .by_cases e:tieOf aE k=t
  .obtain⟨a,b,ea,eb,re,x1,x2,x3,x4⟩:=I.base.row c o hn hk e
   obtain⟨_,z1,z2⟩:=c.low o hk;have la:=I.low (c.out k hk) (by rw[<- e];exact z1) ea;have lb:=I.low (c.into k hk) (by rw[<- e];exact z2) eb;have kk:=c.knot k hk;have k2:=c.two k hk;have et:(aE.getD (k-2) (0,0,0)).1=t:=e;rcases at_ k hk e p hp with⟨i,hi,rfl⟩| ⟨w0,rfl⟩
   .have il:=(AG.mp hi).1
    have kp:Knot (aS++new) (i+2):=by unfold Knot;exact wo il
    have eg:(aS++new).getD (i+2-2) (0,0,0)=(t,a,b):=by rw[CF,AD,hi,re];rfl
    cases s with
    | nil =>
     rw[DW B.least.ok kp fv,eg,DW o kk k2];rw[Cz oC [] x1];exact la []
    | cons x xs =>
     rw[Bm B.least.ok kp fv,eg,Bm o kk k2,et];rw[Cz oC _ x1,Cz oC _ x2,la,lb];rfl
   .rw[re] at w0
    have b0:b=0:=w0;rw[re];rw[Cz oC _ x1,la];have uP:∀s,led aE (intoOf aE k) s=false:=λs=>by rw[<- lb,b0,Cp]
    have uj:∀x xs,x<=t->led aE (outOf aE k) (x::xs)=false:=λx xs h=>by rw[<- la];exact off oC x1 (v6 h x3)
    cases s with
    | nil=>rw[DW o kk k2];rfl
    | cons x xs =>
     rw[Bm o kk k2,et];by_cases c1:x<t
     .rw[vB c1];exact uj x xs (w6 c1)
     .rw[vA c1]
      by_cases c2:x=t
      .rw[vB c2]
       show _=led aE (intoOf aE k) xs;rw[uP];exact uj x xs (wH c2)
      .rw[vA c2];rfl
  .have qS:=bv k hk (wI ht e) p hp
   obtain⟨p',e1,e2,_⟩:=I.base.has k hk (wI ht e);rw[qS] at e1;cases e1;rw[Cz oC s e2];exact I.sem k hk (wI ht e) p qS s
 .rw[XH c o h1 hk ht]
  by_cases e:tieOf aE k=t
  .rcases at_ k hk e p hp with⟨i,hi,rfl⟩| h
   .exact .inl ⟨fv,hi⟩
   .exact .inr h
  .rcases I.img k hk (wI ht e) p (bv k hk (wI ht e) p hp) with⟨h2,h3⟩| h
   .refine .inl ⟨h2,?_⟩
    rw[BB (AG.mp h3).1];exact h3
   .exact .inr h
 .rcases C9 i aS.length with hi| hi
  .rw[BB hi] at e
   obtain⟨k,hk,ht,hp⟩:=I.sur i r e;exact⟨k,hk,wc ht,by rw[h1 k (.inr (zS ht))];exact hp⟩
  .have e':=e
   rw[Cc hi] at e';obtain⟨k,hk,ht,rfl,w0⟩:=hw r (By e');obtain⟨p,hp,h⟩:=h2 k hk ht;refine⟨k,hk,wg ht,?_⟩;rcases h with⟨j,hj,rfl⟩| ⟨nm,_⟩
   .rw[B.least.one i j _ e hj]
    exact hp
   .exact vF (By e) nm
 .refine C4.mpr ⟨I.srt,so,λa ha b hb=>.inl ?_⟩
  have:=I.base.ge a ha;obtain⟨k,_,hk,rfl,_⟩:=hw b hb;show tieOf aE k<a.1;lia
structure Canon(n:Nat)(aS:List Row)(top:Nat):Prop where
 least:Least n aS
 srt:aS.Pairwise RowLt
 knot:Knot aS top
 led:∀p,2<=p->Knot aS p->p=top\/∃r∈aS,r.2.1=p\/r.2.2=p
def Kept2.canon(I:Kept2 n 0 aE rc aS pl)(c:Closed aE rc)(o:Ok n aE){top:Nat}(ht:top<=1\/top∈rc)(hp:pl top=u8 hd)(par:∀k∈rc,k=top\/∃k'∈rc,k<k'/\(outOf aE k'=k\/intoOf aE k'=k)) :
  Canon n aS hd/\∀s,led aS hd s=led aE top s:=by
 have key:∀d k p,k∈rc->aE.length+2-k<=d->pl k=u8 p->2<=p->p=hd\/∃r∈aS,r.2.1=p\/r.2.2=p:=by
  intro d
  induction d with
  | zero =>
   intro k p hk eh _ _;have:=c.knot k hk;unfold Knot at this;lia
  | succ d ih =>
   intro k p hk eh rG p2;rcases par k hk with rfl| ⟨k',bp,lt,ch⟩
   .rw[hp] at rG
    exact .inl (AM rG).symm
   .obtain⟨p',qS,_⟩:=I.base.has k' bp (Bz _)
    have im:=I.img k' bp (Bz _) p' qS;rcases ch with e| e
    .have ep:(rowIn aE pl k').2.1=p:=by
      show(pl (outOf aE k')).getD 0=p;rw[e,rG];rfl
     rcases im with⟨_,h3⟩| ⟨_,h4⟩
     .exact .inr ⟨_,By h3,.inl ep⟩
     .rw[ep] at h4
      subst h4;have:=c.knot k' bp;unfold Knot at this;exact ih k' p' bp (zT eh lt) qS p2
    .have ep:(rowIn aE pl k').2.2=p:=by
      show(pl (intoOf aE k')).getD 0=p;rw[e,rG];rfl
     rcases im with⟨_,h3⟩| ⟨h4,_⟩
     .exact .inr ⟨_,By h3,.inr ep⟩
     ·lia
 refine⟨⟨I.base.least,I.srt,?_,λp p2 kp=>?_⟩,λs=>?_⟩
 .rcases ht with h| h
  .have:top=0\/top=1:=xu h
   rcases this with rfl| rfl
   .rw[I.base.z] at hp;cases hp;unfold Knot;exact xi
   .rw[I.base.o] at hp;cases hp;unfold Knot;exact xr
  .obtain⟨p,e,kn,_⟩:=I.base.has top h (Bz _)
   rw[hp] at e;cases e;exact kn
 .obtain⟨k,hk,_,rG⟩:=I.sur (p-2) _ (Bb kp p2)
  rw[show p-2+2=p from xT p2] at rG;exact key _ k p hk (AI _) rG p2
 .rcases ht with h| h
  .have:top=0\/top=1:=xu h
   rcases this with rfl| rfl
   .rw[I.base.z] at hp;cases hp;rw[Cp,Cp]
   .rw[I.base.o] at hp;cases hp;rw[DQ,DQ]
  .exact I.sem top h (Bz _) hd hp s
end
theorem NT{α:Type}{R:α->α->Prop}(as:∀a b,R a b->R b a->False):∀{l m:List α},l.Pairwise R->m.Pairwise R->(∀x,x∈l↔x∈m)->l=m
 | [],[],_,_,_=>rfl
 | [],b::m,_,_,h=>vF ((h b).mpr AF) (λz=>nomatch z)
 | a::l,[],_,_,h=>vF ((h a).mp AF) (λz=>nomatch z)
 | a::l,b::m,hl,hm,h=>by
  obtain⟨l1,l2⟩:=B0.mp hl;obtain⟨m1,m2⟩:=B0.mp hm;have e:a=b:=by
   rcases AY.mp ((h a).mp AF) with e| e
   .exact e
   .rcases AY.mp ((h b).mpr AF) with e' | e'
    .exact e'.symm
    .exact(as _ _ (m1 a e) (l1 b e')).elim
  subst e
  congr 1
  refine NT as l2 m2 λx=>⟨λhx=>?_,λhx=>?_⟩
  .rcases AY.mp ((h x).mp (AJ _ hx)) with e| e
   .rw[e] at hx;exact(as _ _ (l1 a hx) (l1 a hx)).elim
   .exact e
  .rcases AY.mp ((h x).mpr (AJ _ hx)) with e| e
   .rw[e] at hx;exact(as _ _ (m1 a hx) (m1 a hx)).elim
   .exact e
def Vf(a b:Row)(h:RowLt a b)(k:RowLt b a):False:=by
 unfold RowLt at h k;lia
theorem Gy(t:Nat):∀{A:List Row},A.Pairwise RowLt->A=A.filter (λr=>decide (t<=r.1))++A.filter (λr=>!decide (t<=r.1))
 | [],_=>rfl
 | a::l,h=>by
  obtain⟨h1,h2⟩:=B0.mp h;by_cases c:t<=a.1
  .rw[C6,C6,vB (by simpa using c),vA (by simpa using c),O8,<- Gy t h2]
  .have z:∀r∈l,¬ t<=r.1:=λr hr=>by
    have:=h1 r hr;unfold RowLt at this;lia
   have e1:l.filter (λr=>decide (t<=r.1))=[]:=HG.mpr λr hr=>by simpa using z r hr
   have e2:l.filter (λr=>!decide (t<=r.1))=l:=List.filter_eq_self.mpr λr hr=>by simpa using z r hr
   rw[C6,C6,vA (by simpa using c),vB (by simpa using c),e1,e2];rfl
section
variable{A B:List Row}{a b k:Nat}
theorem Mj(L:Least n A):∀(f k:Nat),k<f->Knot A k->k≠0->∃s,Way n A k s/\(2<=k->∃xs,s=rank n A k::xs)/\(k=1->s=[])
 | 0,k,h,_,_=>by lia
 | f+1,k,h,kn,k0=>by
  rcases C9 k 2 with c| c
  .have e:k=1:=by lia
   subst e;exact⟨[],AFa,λz=>by lia,λ_=>rfl⟩
  .obtain⟨_,_,h3,_,_,_,k2⟩:=L.ok.low (Bb kn c)
   have w0:=L.pos _ _ (Bb kn c);obtain⟨s,hs,_⟩:=Mj L f _ (yc h3 h c) k2 w0;refine⟨_,ADK L kn c hs,λ_=>⟨s,?_⟩,λz=>by lia⟩;unfold rank;rw[vA (wW c)]
structure Sim(A B:List Row)(k k':Nat):Prop where
 ka:Knot A k
 kb:Knot B k'
 eq:∀s,led A k s=led B k' s
def Sim.symm(S:Sim A B k k'):Sim B A k' k:=⟨S.kb,S.ka,λs=>(S.eq s).symm⟩
def Sim.no(LA:Least n A)(LB:Least n B)(S:Sim A B k k'):¬ rank n A k<rank n B k':=λh=>by
 have k0:k≠0:=λe=>by
  subst e;have:rank n B k'<=n+1:=by
   unfold rank;by_cases c:k'<2
   .rw[vB c];exact wk
   .rw[vA c]
    have:=(LB.ok.low (Bb S.kb (vo c))).1;lia
  have e:rank n A 0=n+1:=by unfold rank;rw[vB ζ];rfl
  lia
 obtain⟨s,⟨w1,_,_⟩,s2,s1⟩:=Mj LA _ k (ER _) S.ka k0;rcases C9 k 2 with c| c
 .have e:k=1:=by lia
  subst e;rw[s1 rfl,S.eq] at w1;have e1:rank n A 1=n:=by unfold rank;rw[vB ζ];rfl
  have k1:k'=0:=by
   unfold rank at h e1;rw[e1] at h;by_cases c':k'<2
   .rw[vB c'] at h;lia
   .rw[vA c'] at h
    have:=(LB.ok.low (Bb S.kb (vo c'))).1;lia
  rw[k1,Cp] at w1;cases w1
 .obtain⟨xs,rfl⟩:=s2 c
  rw[S.eq,off LB.ok S.kb h] at w1;cases w1
def Sim.rank_eq(LA:Least n A)(LB:Least n B)(S:Sim A B k k'):rank n A k=rank n B k':=by
 have h1:=S.no LA LB;have h2:=S.symm.no LB LA;lia
def GQ(L:Least n A)(kn:Knot A k):2<=k↔rank n A k<n:=by
 unfold rank;constructor
 .intro h
  rw[vA (v9 h)];exact(L.ok.low (Bb kn h)).1
 .intro h
  rcases C9 k 2 with c| c
  .rw[vB c] at h;lia
  .exact c
def Sim.small(LA:Least n A)(LB:Least n B)(S:Sim A B k k')(h:k<=1):k=k':=by
 have e:=S.rank_eq LA LB;have z:=GQ LA S.ka;have z':=GQ LB S.kb;have:¬ 2<=k':=λc=>by have:=z'.mp c;rw[<- e] at this;have:=z.mpr this;exact zQ this h
 unfold rank at e;rw[vB δ,vB (xh this)] at e;lia
def Sim.child(LA:Least n A)(LB:Least n B)(S:Sim A B k k')(h:2<=k):2<=k'/\tieOf A k=tieOf B k'/\Sim A B (outOf A k) (outOf B k')/\Sim A B (intoOf A k) (intoOf B k'):=by
 have e:=S.rank_eq LA LB;have k2:=(GQ LB S.kb).mpr (by rw[<- e];exact(GQ LA S.ka).mp h);have et:tieOf A k=tieOf B k':=by
  unfold rank at e;rw[vA (v9 h),vA (v9 k2)] at e;exact e
 obtain⟨_,_,_,ra,_,ka1,ka2⟩:=LA.ok.low (Bb S.ka h);obtain⟨_,_,_,rb,_,kb1,kb2⟩:=LB.ok.low (Bb S.kb k2);refine⟨k2,et,⟨ka1,kb1,λs=>?_⟩,⟨ka2,kb2,λs=>?_⟩⟩
 .cases s with
  | nil =>
   have:=S.eq [];rw[DW LA.ok S.ka h,DW LB.ok S.kb k2] at this;exact this
  | cons x xs =>
   by_cases c:x<=tieOf A k
   .rw[show led A (outOf A k) (x::xs)=false from off LA.ok ka1 (by show x<rank n A (A.getD (k-2) (0,0,0)).2.1;unfold tieOf at c;exact v6 c ra),show led B (outOf B k') (x::xs)=false from off LB.ok kb1 (by show x<rank n B (B.getD (k'-2) (0,0,0)).2.1;unfold tieOf at c et;lia)]
   .have:=S.eq (x::xs)
    rw[Bm LA.ok S.ka h,Bm LB.ok S.kb k2] at this;unfold tieOf at c et;rw[vA (y4 c),vA (y6 c),vA δ,vA δ] at this;exact this
 .have:=S.eq (tieOf A k::s)
  rw[Bm LA.ok S.ka h,Bm LB.ok S.kb k2] at this;unfold tieOf at this et;rw[vA wV,vB rfl,vA δ,vB et] at this;exact this
theorem Sim.all(CA:Canon n A a)(CB:Canon n B b)(S:Sim A B a b):∀(d k:Nat),A.length+2-k<=d->2<=k->Knot A k->∃k',Sim A B k k'
 | 0,k,h,_,kn=>by unfold Knot at kn;lia
 | d+1,k,h,k2,kn=>by
  rcases CA.led k k2 kn with rfl| ⟨r,hr,ch⟩
  .exact⟨b,S⟩
  .obtain⟨i,hi⟩:=DD.mp hr
   have il:=(AG.mp hi).1;obtain⟨_,lo,li,_⟩:=CA.least.ok.low hi;have er:A.getD (i+2-2) (0,0,0)=r:=by rw[CF,AD,hi];rfl
   obtain⟨j,SJ⟩:=Sim.all CA CB S d (i+2) (by unfold Knot at kn;rcases ch with e| e<;>lia) fv (by unfold Knot;exact wo il);obtain⟨_,_,s1,s2⟩:=SJ.child CA.least CB.least fv;unfold outOf at s1;unfold intoOf at s2;rw[er] at s1 s2;rcases ch with e| e
   .rw[e] at s1;exact⟨_,s1⟩
   .rw[e] at s2;exact⟨_,s2⟩
def half(CA:Canon n A a)(CB:Canon n B b)(S:Sim A B a b){t:Nat}(P:∀k k',Sim A B k k'->t+1<=rank n A k->k=k'){r:Row}(hr:r∈A)(ht:r.1=t):r∈B:=by
 obtain⟨i,hi⟩:=DD.mp hr;have il:=(AG.mp hi).1;have er:A.getD (i+2-2) (0,0,0)=r:=by rw[CF,AD,hi];rfl
 obtain⟨j,SJ⟩:=Sim.all CA CB S _ (i+2) (AI _) fv (by unfold Knot;exact wo il);obtain⟨j2,et,s1,s2⟩:=SJ.child CA.least CB.least fv;obtain⟨_,_,_,r1,r2,_,_⟩:=CA.least.ok.low hi;have e1:r.2.1=outOf B j:=by
  have:=P _ _ s1 (by unfold outOf;rw[er];exact zU r1 ht);unfold outOf at this ⊢;rw[er] at this;exact this
 have e2:r.2.2=intoOf B j:=by
  have:=P _ _ s2 (by unfold intoOf;rw[er];exact zU r2 ht);unfold intoOf at this ⊢;rw[er] at this;exact this
 have e3:r.1=tieOf B j:=by
  unfold tieOf at et ⊢;rw[er] at et;exact et
 have:r=B.getD (j-2) (0,0,0):=K0 e3 (K0 e1 e2);rw[this];exact By (Bb SJ.kb j2)
def Zu(CA:Canon n A a)(CB:Canon n B b)(S:Sim A B a b):∀d,(∀r:Row,n<=r.1+d->(r∈A↔r∈B))/\∀k k',Sim A B k k'->n<=rank n A k+d->k=k':=by
 intro d
 induction d with
 | zero =>
  have hA:∀r∈A,r.1<n:=λr hr=>by
   obtain⟨i,hi⟩:=DD.mp hr;exact(CA.least.ok.low hi).1
  have hB:∀r∈B,r.1<n:=λr hr=>by
   obtain⟨i,hi⟩:=DD.mp hr;exact(CB.least.ok.low hi).1
  refine⟨λr h=>⟨λz=>?_,λz=>?_⟩,λk k' s h=>?_⟩
  .have:=hA r z;lia
  .have:=hB r z;lia
  .refine s.small CA.least CB.least ?_
   have:=GQ CA.least s.ka;rcases C9 k 2 with c| c
   .exact wA c
   .have:=this.mp c;lia
 | succ d ih =>
  obtain⟨M,P⟩:=ih;have M':∀r:Row,n<=r.1+(d+1)->(r∈A↔r∈B):=λr h=>by
   by_cases c:n<=r.1+d
   .exact M r c
   .refine⟨λz=>half CA CB S (λk k' s hk=>P k k' s δ) z rfl,λz=>half CB CA S.symm (λk k' s hk=>?_) z rfl⟩
    have e:=s.rank_eq CB.least CA.least;exact(P k' k s.symm δ).symm
  refine⟨M',λk k' s h=>?_⟩;by_cases c:n<=rank n A k+d
  .exact P k k' s c
  rcases C9 k 2 with k2| k2
  .exact s.small CA.least CB.least (wA k2)
  obtain⟨k2',et,s1,s2⟩:=s.child CA.least CB.least k2;obtain⟨_,_,_,r1,r2,_,_⟩:=CA.least.ok.low (Bb s.ka k2);have rk:rank n A k=tieOf A k:=by unfold rank tieOf;rw[vA (wW k2)]
  have e1:=P _ _ s1 (by unfold outOf;unfold tieOf at rk;exact zV h rk r1);have e2:=P _ _ s2 (by unfold intoOf;unfold tieOf at rk;exact zV h rk r2);have er:=K0 et (K0 e1 e2);have ef:A.filter (λr=>decide (tieOf A k<=r.1))=B.filter (λr=>decide (tieOf A k<=r.1)):=by
   refine NT Vf (CA.srt.filter _) (CB.srt.filter _) λr=>?_;rw[BG,BG];constructor
   .rintro⟨h1,h2⟩
    exact⟨(M' r (by have:=vE h2;exact zW h rk this)).mp h1,h2⟩
   .rintro⟨h1,h2⟩
    exact⟨(M' r (by have:=vE h2;exact zW h rk this)).mpr h1,h2⟩
  have mem:A.getD (k-2) (0,0,0)∈A.filter (λr=>decide (tieOf A k<=r.1)):=BG.mpr ⟨By (Bb s.ka k2),vC (AI _)⟩;obtain⟨i,hi⟩:=DD.mp mem;have il:=(AG.mp hi).1;have iA:A[i]?=u8 (A.getD (k-2) (0,0,0)):=by
   rw[Gy (tieOf A k) CA.srt,BB il];rw[<- Gy (tieOf A k) CA.srt];exact hi
  have iB:B[i]?=u8 (B.getD (k'-2) (0,0,0)):=by
   rw[<- er];rw[ef] at hi il;rw[Gy (tieOf A k) CB.srt,BB il];exact hi
  have j1:=CA.least.one _ _ _ iA (Bb s.ka k2);have j2:=CB.least.one _ _ _ iB (Bb s.kb k2');lia
def vc(CA:Canon n A a)(CB:Canon n B b)(h:∀s,G.led A a s=G.led B b s):A=B/\a=b:=by
 have S:Sim A B a b:=⟨CA.knot,CB.knot,h⟩;obtain⟨M,P⟩:=Zu CA CB S n;exact⟨NT Vf CA.srt CB.srt λr=>M r fv,P a b S fv⟩
end
def up(s:vI):vG:=s.map λ(x:Nat)=>(x:Int)
theorem Jo:∀{s u:vI},up s=up u->s=u
 | [],[],_=>rfl
 | [],_::_,h=>by cases h
 | _::_,[],h=>by cases h
 | x::s,y::u,h=>by
  have h':(x:Int)::up s=(y:Int)::up u:=h;injection h' with h1 h2
  rw[Jo h2,Mo h1]
section
variable{d t:Nat}{ss:vH}{aE more a7 a8:List Row}
structure Made2(n lo d:Nat)(aE more:List Row)(k:Nat)(ss:vH):Prop where
 base:Made n lo d aE more k ss.length
 sem:∀s,led (aE++more) k s=decide (up s∈ss)
def Made2.none(o:Ok n aE)(e:ss=[]):Made2 n lo d aE [] 0 ss:=⟨Made.none o,λs=>by rw[Cp,e];rfl⟩
def Made2.one(o:Ok n aE)(e:ss=[[]]):Made2 n lo d aE [] 1 ss:=⟨Made.one o,λs=>by
 rw[DQ,e];cases s with
 | nil=>rfl
 | cons x xs =>
  rw[vD (λz=>by cases z),vD (λz=>by
   have:=B8.mp z;cases this)]⟩
def Made2.step(so:SetsOk n lo ss)(hl:∀a∈heads ss,(t:Int)<=a)(M1:Made2 n (t+1) d aE a7 k1 (ss.filter λs=>!decide ((t:Int)∈s)))(M2:Made2 n (t+1) d (aE++a7) a8 k2 ((ss.filter λs=>decide ((t:Int)∈s)).map P0))
  (hm:1<=ss.length) (ht:t<n) (ie:lo<=t):Made2 n lo (d+1) aE (a7++a8++[(t,k1,k2)]) ((aE++(a7++a8)).length+2) ss:=by
 have sp:=split_len (λs=>decide ((t:Int)∈s)) ss;have B2:=M2.base;rw[AB] at B2;have M:=M1.base.step B2 sp hm ht ie;refine⟨M,λs=>?_⟩;have er:aE++(a7++a8++[(t,k1,k2)])=aE++a7++a8++[(t,k1,k2)]:=by simp
 have tT:aE++(a7++a8++[(t,k1,k2)])=(aE++a7)++(a8++[(t,k1,k2)]):=by simp
 have ek:(aE++(a7++a8++[(t,k1,k2)])).getD ((aE++(a7++a8)).length+2-2) (0,0,0)=(t,k1,k2):=by
  rw[er,CF,AD,Cc θ,show(aE++(a7++a8)).length-(aE++a7++a8).length=0 by simp];rfl
 have l1:∀s,led (aE++(a7++a8++[(t,k1,k2)])) k1 s=decide (up s∈ss.filter λs=>!decide ((t:Int)∈s)):=λs=>by
  rw[tT,Cz M1.base.ok s M1.base.kn];exact M1.sem s
 have l2:∀s,led (aE++(a7++a8++[(t,k1,k2)])) k2 s=decide (up s∈(ss.filter λs=>decide ((t:Int)∈s)).map P0):=λs=>by
  rw[er,Cz M2.base.ok s M2.base.kn];exact M2.sem s
 cases s with
 | nil =>
  rw[DW M.ok M.kn fv,ek];rw[l1];refine decide_eq_decide.mpr ?_;rw[BG];exact⟨λh=>h.1,λh=>⟨h,ξ⟩⟩
 | cons x xs =>
  rw[Bm M.ok M.kn fv,ek];have asc:up (x::xs)∈ss->∀y∈up xs,(x:Int)<y:=λh=>(B0.mp (so.asc _ h)).1;by_cases c1:x<t
  .rw[vB c1]
   refine(vD λh=>?_).symm;have:=hl (x:Int) (Ei.mpr ⟨up xs,h⟩);lia
  .rw[vA c1]
   by_cases c2:x=t
   .rw[vB c2,l2]
    refine decide_eq_decide.mpr ?_;subst c2;constructor
    .intro h
     obtain⟨u,hu,e⟩:=A1.mp h;obtain⟨h1,h2⟩:=BG.mp hu;have:=so.led hl h1 (vE h2);rw[e] at this;rw[this] at h1;exact h1
    .intro h
     exact A1.mpr ⟨up (x::xs),BG.mpr ⟨h,vC AF⟩,ξ⟩
   .rw[vA c2,l1]
    refine decide_eq_decide.mpr ?_;rw[BG];refine⟨λh=>h.1,λh=>⟨h,?_⟩⟩;have:(t:Int)∉up (x::xs):=λz=>by
     rcases AY.mp (show(t:Int)∈(x:Int)::up xs from z) with e| e
     ·lia
     .have:=asc h _ e;lia
    rw[vD this];rfl
end
end G
variable{aE aS more:List G.Row}
namespace L2
def smallN(h:n<=100000):n<PySem.sizeLine:=EQ h ζ
end L2
namespace K34s
open PySem L2 G
noncomputable def top(i:Nat):Stmt:=IC.main.body.getD i (.Pass ⟨0,0,0,0⟩)
abbrev Yi:Stmt:=top 11
abbrev AHD:Stmt:=top 12
abbrev Tc:Stmt:=top 15
abbrev ADL:Stmt:=top 16
abbrev Il:Stmt:=top 17
abbrev Es:Stmt:=top 18
abbrev Xj:Stmt:=top 19
abbrev AHm:Stmt:=top 20
abbrev Lj:Stmt:=top 21
abbrev RV:Stmt:=top 22
abbrev sIn:Stmt:=top 23
abbrev MJ:Stmt:=inClass (top 10) 0
abbrev ADl:Stmt:=inClass (top 10) 1
abbrev Xo:Stmt:=inClass (top 10) 2
abbrev AGt:Stmt:=inClass (top 10) 3
def ra:¬ (("amount" : Str) = "rows"):=ψ
def ha:¬ (("amount" : Str) = "head"):=ψ
def hr':¬ (("rows" : Str) = "head"):=ψ
noncomputable def flds(z:Int)(j:Addr)(h:Int):List (Str×V):=putF "head" (.int h) (putF "rows" (.ref j) (putF "amount" (.int z) []))
def Ga(z:Int)(j:Addr)(h:Int):(flds z j h).lookup ("amount" : Str)=u8 (.int z):=by
 unfold flds;rw[Aj,vA ha,Aj,vA ra,Aj,vB rfl]
def Zj(z:Int)(j:Addr)(h:Int):(flds z j h).lookup ("rows" : Str)=u8 (.ref j):=by
 unfold flds;rw[Aj,vA hr',Aj,vB rfl]
structure Txt(K:As)(mg:vM)(C:Addr):Prop where
 cl:Cls K C
 nA:NoAttr K C "amount"
 nR:NoAttr K C "rows"
 nH:NoAttr K C "head"
 mgC:mg "Sieve" = u8 (.ref C)
 mt:∃t,mg "MOST_TIES_making" = u8 (.int 12 t)
 len:mg "len" = u9
 range:mg "range" = u9
 int:mg "int" = u9
 sorted:mg "sorted" = u9
 set:mg "set" = u9
 tuple:mg "tuple" = u9
 list:mg "list" = u9
 bool:mg "bool" = u9
 enum:mg "enumerate" = u9
 all:mg "all" = u9
 isi:mg "isinstance" = u9
 min:mg "min" = u9
 rev:mg "reversed" = u9
def rRow(K:As):Rep Row:=λH r v=>∃p,v=.ref p/\SqT K H p [.int r.1,.int r.2.1,.int r.2.2]
def Bd:TRep (rRow K):=by rintro H H' r v t ⟨p,a,b⟩;exact⟨p,a,t.seq b⟩
def SvAt(K:As)(C:Addr)(H:Hp)(p:Addr)(z:Int)(aE:List Row)(h:Int):Prop:=∃dx j,H p=u8 (.ins C dx (flds z j h))/\rTup K (rRow K) H aE (.ref j)
def SvAt.same{z hd:Int}{aE:List Row}(h:SvAt K C H p z aE hd)(e:Same H H'):SvAt K C H' p z aE hd:=by
 obtain⟨dx,j,h1,h2⟩:=h;exact⟨dx,j,e _ _ h1,Ak Bd _ _ _ _ e.ts h2⟩
def JW(K:As)(C:Addr):Sp:=λvs H Q _=>∃(p dx l:Addr) (z h:Int) (xs:List V) (aE:List Row),vs=[.ref p,.int z,.ref l,.int h]/\H p=u8 (.ins C dx [])/\SqL K H l xs/\A9 (rRow K H) aE xs /\
 ∀(H':Hp),(∀b o,H b=u8 o->b≠p->H' b=u8 o)->SvAt K C H' p z aE h->Q .non H'
def ADu(K:As)(C:Addr):Sp:=λvs H Q _=>∃(p:Addr) (z h:Int) (aE:List Row),vs=[.ref p]/\SvAt K C H p z aE h/\Q (.int z) H
def VL(K:As)(C:Addr):Sp:=λvs H Q _=>∃(p:Addr) (z h:Int) (aE:List Row),vs=[.ref p]/\SvAt K C H p z aE h/\Q (.int h) H
def Ip(K:As)(C:Addr):Sp:=λvs H Q _=>∃(p:Addr) (z h:Int) (aE:List Row),vs=[.ref p]/\SvAt K C H p z aE h/\∀(l:Addr) (ys:List V) (H':Hp),Same H H'->H l=none->H' l=u8 (.lst ys)->A9 (rRow K H') aE ys->Q (.ref l) H'
def AHb:FnScope zl0 zl0 (Af ADl):=fscp ψ
def AEj(F:Fun K "many" "Sieve.many" ADl f fd)(T:Txt K mg C):FnOk P w K mg base CX0 1 f fd zl0 (ADu K C):=by
 refine F.ok AHb (λbt A outer s H vs Q E hr h=>?_);obtain⟨p,z,hd,aE,rfl,⟨dx,j,hP,hj⟩,q⟩:=h;refine⟨_,Ah (Ar (Bk (pv 0) rfl)),?_⟩;exact⟨_,ξ,p,C,dx,_,_,ξ,hP,T.cl,T.nA,Ga _ _ _,q⟩
def AFy:FnScope zl0 zl0 (Af Xo):=fscp ψ
def ACI(F:Fun K "knots" "Sieve.knots" Xo f fd)(T:Txt K mg C):FnOk P w K mg base CX0 1 f fd zl0 (Ip K C):=by
 refine F.ok AFy (λbt A outer s H vs Q E hr h=>?_);obtain⟨p,z,hd,aE,rfl,⟨dx,j,hP,j',xs,ej,hj,pj⟩,q⟩:=h;cases ej;refine⟨_,Ah (Ar (BP Ec rfl T.list EF (Aa (Bk (pv 0) rfl) Ac))),?_⟩;refine⟨_,ξ,p,C,dx,_,_,ξ,hP,T.cl,T.nR,Zj _ _ _,j,xs,ξ,.inr hj,λl hl=>?_⟩;refine q l xs _ (vk hl _) hl Ab ?_;exact vj (λa b=>Bd H _ a b (TSm.new hl)) pj
def ABK(z:Int)(j:Addr)(h:Int):(flds z j h).lookup ("head" : Str)=u8 (.int h):=by
 unfold flds;rw[Aj,vB rfl]
def AIY:FnScope zl0 zl0 (Af AGt):=fscp ψ
def AHr(F:Fun K "top" "Sieve.top" AGt f fd)(T:Txt K mg C):FnOk P w K mg base CX0 1 f fd zl0 (VL K C):=by
 refine F.ok AIY (λbt A outer s H vs Q E hr h=>?_);obtain⟨p,z,hd,aE,rfl,⟨dx,j,hP,hj⟩,q⟩:=h;refine⟨_,Ah (Ar (Bk (pv 0) rfl)),?_⟩;exact⟨_,ξ,p,C,dx,_,_,ξ,hP,T.cl,T.nH,ABK _ _ _,q⟩
def Xr:FnScope zl1 zl1 (Af MJ):=fscp ψ
def JC(F:Fun K "__init__" "Sieve.__init__" MJ f fd)(T:Txt K mg C):FnOk P w K mg base CX0 1 f fd zl1 (JW K C):=by
 refine F.ok Xr (λbt A outer s H vs Q E hr h=>?_);obtain⟨p,dx,l,z,h,xs,aE,rfl,hP,hS,pa,q⟩:=h;refine⟨_,Ad (Dy (pv 0) (pv 1) rfl)
  (Ad (Dy (pv 0) (BP Bp rfl T.tuple DE (Aa (pv 2) Ac)) rfl)
  (Ah (Dy (pv 0) (pv 3) rfl))),?_⟩
 have sl:∀{H:Hp}{fs gs:List (Str×V)}{a:Addr}{zs:List V},H p=u8 (.ins C dx fs)->SqL K H a zs->SqL K (upd H p (.ins C dx gs)) a zs:=λ{H fs gs a zs} hP h=>by
  rcases h with(h| ⟨o,h⟩)| h
  .exact .inl (.inl (by rw[Ag (Cu h hP (by intro z;cases z))];exact h))
  .exact .inl (.inr ⟨o,by rw[Ag (Cu h hP (by intro z;cases z))];exact h⟩)
  .exact .inr h
 have ts:∀{H:Hp}{fs gs:List (Str×V)},H p=u8 (.ins C dx fs)->TSm H (upd H p (.ins C dx gs)):=λ{H fs gs} hP b u hb t=>by
  rw[Ag ?_]
  .exact hb
  .rintro rfl
   rw[hP] at hb;cases hb;obtain⟨ys,e| ⟨o,e⟩⟩:=t
   .cases e
   .cases e
 refine⟨_,ξ,_,ξ,p,C,dx,[],ξ,hP,T.cl,T.nA,ζ,?_⟩;refine⟨_,ξ,l,xs,ξ,.inl ⟨sl hP hS,λj hj=>?_⟩⟩;have jp:p≠j:=λe=>by rw[<- e,Ab] at hj;cases hj
 have hP2:(upd (upd H p (.ins C dx (putF "amount" (.int z) []))) j (.tup xs)) p=u8 (.ins C dx (putF "amount" (.int z) [])):=by rw[Ag jp,Ab]
 have t2:=ts (gs:=putF "rows" (.ref j) (putF "amount" (.int z) [])) hP2;refine⟨_,ξ,p,C,dx,_,ξ,hP2,T.cl,T.nR,(by show 1<1000;decide),?_⟩;have t3:=ts (H:=upd (upd (upd H p (.ins C dx (putF "amount" (.int z) []))) j (.tup xs)) p (.ins C dx (putF "rows" (.ref j) (putF "amount" (.int z) [])))) (gs:=flds z j h) Ab;refine⟨_,ξ,_,ξ,p,C,dx,_,ξ,Ab,T.cl,T.nH,(by show 2<1000;decide),?_⟩;refine q _ (λb o e hb=>?_) ⟨dx,j,Ab,j,xs,ξ,t3.seq (t2.seq (ve Ab)),?_⟩
 .rw[Ag hb,Ag hb,Ag ?_,Ag hb]
  .exact e
  .rintro rfl
   rw[Ag hb,e] at hj;cases hj
 .exact vj (λa b r=>Bd _ _ _ _ t3 (Bd _ _ _ _ t2 (Bd _ _ _ _ (TSm.new hj) (Bd _ _ _ _ (ts hP) r)))) pa
abbrev Sq(K:As)(H:Hp)(l:Addr)(xs:List V):Prop:=SqL K H l xs\/SqT K H l xs
def Sq.same(h:Sq K H l xs)(e:Same H H'):Sq K H' l xs:=h.elim (λz=>.inl (e.seq z)) λz=>.inr (e.ts.seq z)
def rIxA(K:As):R2:=λx y H Q=>rIxL K x y H Q\/rIxT K x y H Q
def Ck:IxR X (rIxA X.K):=by
 intro bn ci aI s σ H x y v u Q I rx ry h hs;rcases h with h| h
 .exact Cg bn ci aI s σ H x y v u Q I rx ry h hs
 .exact Bc bn ci aI s σ H x y v u Q I rx ry h hs
def SM(hK:X.K=K):IxR X (rIxA K):=by subst hK;exact Ck
def ixA{i:Int}{Q:VK}(h:Sq K H p xs)(e:atI xs i=u8 v)(q:Q v H):rIxA K (.ref p) (.int i) H Q :=
 h.elim (λz=>.inl ⟨p,_,i,_,ξ,ξ,z,e,q⟩) λz=>.inr ⟨p,_,i,_,ξ,ξ,z,e,q⟩
def rRowA(K:As)(H:Hp)(r:Row)(v:V):Prop:=∃p,v=.ref p/\Sq K H p [.int r.1,.int r.2.1,.int r.2.2]
def Zq{r:Row}(e:Same H H')(h:rRowA K H r v):rRowA K H' r v:=by obtain⟨p,a,b⟩:=h;exact⟨p,a,b.same e⟩
def RowsAt(K:As)(H:Hp)(l:Addr)(aE:List Row):Prop:=∃xs,Sq K H l xs/\A9 (rRowA K H) aE xs
def RowsAt.same{aE:List Row}(h:RowsAt K H l aE)(e:Same H H'):RowsAt K H' l aE:=by obtain⟨xs,a,b⟩:=h;exact⟨xs,a.same e,vj (λ_ _ r=>Zq e r) b⟩
def RowsAt.of{aE:List Row}(h:rLst K (rRow K) H aE (.ref l)):RowsAt K H l aE:=by
 obtain⟨l',xs,e,hS,pa⟩:=h;cases e;exact⟨xs,.inl hS,vj (by rintro _ _ ⟨p,a,b⟩;exact⟨p,a,.inr b⟩) pa⟩
noncomputable abbrev iN(s:vI):List V:=s.map λ(x:Nat)=>V.int (x:Int)
def Io{aE:List Row}{k:Nat}(h:RowsAt K H l aE)(kn:Knot aE k)(h2:2<=k) :
  ∃xs p,Sq K H l xs/\atI xs ((k:Int)-2)=u8 (.ref p)/\Sq K H p [.int (aE.getD (k-2) (0,0,0)).1,.int (aE.getD (k-2) (0,0,0)).2.1,.int (aE.getD (k-2) (0,0,0)).2.2]:=by
 obtain⟨xs,hS,pa⟩:=h;obtain⟨v,hv,p,rfl,hp⟩:=vZ pa (Bb kn h2);exact⟨xs,p,hS,by rw[show(k:Int)-2=((k-2:Nat):Int) from yL h2];exact Bv hv,hp⟩
def ABe{aE:List Row}{k:Nat}(h:rLst K (rRow K) H aE (.ref l))(kn:Knot aE k)(h2:2<=k) :
  ∃xs p,SqL K H l xs/\atI xs ((k:Int)-2)=u8 (.ref p)/\SqT K H p [.int (aE.getD (k-2) (0,0,0)).1,.int (aE.getD (k-2) (0,0,0)).2.1,.int (aE.getD (k-2) (0,0,0)).2.2]:=by
 obtain⟨l',xs,e,hS,pa⟩:=h;cases e;obtain⟨v,hv,p,rfl,hp⟩:=vZ pa (Bb kn h2);exact⟨xs,p,hS,by rw[show(k:Int)-2=((k-2:Nat):Int) from yL h2];exact Bv hv,hp⟩
def at0{a b c:V}:atI [a,b,c] 0=u8 a:=rfl
def at1{a b c:V}:atI [a,b,c] 1=u8 b:=rfl
def at2{a b c:V}:atI [a,b,c] 2=u8 c:=rfl
noncomputable def lay(aE:List Row)(t:Nat)(rc:vI)(j:Nat):vI:=(rc.take j).filter λk=>decide (tieOf aE k=t)
def VF{aE:List Row}{t:Nat}{k:Nat}(h:rc[j]?=u8 k):lay aE t rc (j+1)=lay aE t rc j++if tieOf aE k=t then [k] else []:=by
 unfold lay;rw[DA,h,CI];by_cases c:tieOf aE k=t
 .simp[c]
 .simp[c]
def Ie{aE:List Row}{t:Nat}{k:Nat}:k∈lay aE t rc rc.length↔k∈rc/\tieOf aE k=t:=by
 unfold lay;rw[CD,BG];simp
def Gu(h:n<=20000):n<sizeLine:=EQ h ζ
def has(aT:List (Key×V))(k:Nat):Prop:=(valV aT (.inl (k:Int))).isSome=true
def has_put{aT:List (Key×V)}{a k:Nat}:has (putK aT (.inl (a:Int)) v) k↔k=a\/has aT k:=by
 unfold has;rw[Em];by_cases e:k=a
 .subst e;simp
 .rw[vA (λz=>e (by injection z with z;exact vx z))]
  exact⟨.inr,λh=>h.resolve_left e⟩
noncomputable def rcOf(aT:List (Key×V))(i:Nat):vI:=((AX i).map (·+2)).filter λk=>(valV aT (.inl (k:Int))).isSome
def Py(aT:List (Key×V))(i:Nat):rcOf aT (i+1)=rcOf aT i++if(valV aT (.inl ((i+2:Nat):Int))).isSome=true then [i+2] else []:=by
 unfold rcOf;rw[G2,BI,CI,NX,C6,J5]
def MN{aT:List (Key×V)}{k:Nat}:k∈rcOf aT i↔2<=k/\k<i+2/\has aT k:=by
 unfold rcOf has;rw[BG,A1];constructor
 .rintro⟨⟨a,ha,rfl⟩,h⟩
  rw[AU] at ha;exact⟨fv,wo ha,h⟩
 .rintro⟨h1,h2,h3⟩
  exact⟨⟨k-2,AU.mpr (xq h2 h1),xT h1⟩,h3⟩
def ABu(aT:List (Key×V))(i:Nat):(rcOf aT i).length<=i:=by
 unfold rcOf;refine BQ (CY _ _) ?_;rw[AB,B6];exact AI _
def getD_map:∀(aE:List Row),(AX aE.length).map (λi=>aE.getD i (0,0,0))=aE:=λaE=>by
 apply FF;intro i;by_cases c:i<aE.length
 .simp[c]
 .simp[c]
def ACU{aE:List Row}{t:Nat}(h:rc.Sublist ((AX m).map (·+2)))(hm:m<=aE.length):(lay aE t rc j).length<=(aE.filter λr=>decide (r.1=t)).length:=by
 have h1:(lay aE t rc j).Sublist (((AX aE.length).map (·+2)).filter λk=>decide (tieOf aE k=t)):=by
  unfold lay;exact(((Kk _ _).trans h).trans ((List.range_sublist.mpr hm).map _)).filter _
 refine BQ h1.length_le ?_;have e:(aE.filter λr=>decide (r.1=t))=(((AX aE.length).filter λi=>decide ((aE.getD i (0,0,0)).1=t)).map λi=>aE.getD i (0,0,0)):=by
  conv=>lhs;rw[<- getD_map aE]
  rw[P3];rfl
 rw[e,AB,P3,AB];exact AI _
def AHq(aT:List (Key×V))(i:Nat):(rcOf aT i).Sublist ((AX i).map (·+2)):=List.filter_sublist
def AIQ(K:As):Sp:=λvs H Q _=>∃(d p:Addr) (r:Row) (x y:Nat) (aT:List (Key×V)),vs=[.ref d,.ref p]/\H d=u8 (.dK aT)/\rRowA K H r (.ref p)/\valV aT (.inl (r.2.1:Int))=u8 (.int x)/\valV aT (.inl (r.2.2:Int))=u8 (.int y) /\
 ∀t,H t=none->Q (.ref t) (upd H t (.tup [.int r.1,.int x,.int y]))
def Zd(K:As):Sp:=λvs H Q _=>∃(l:Addr) (n top:Nat) (aE:List Row),vs=[.ref l,.int top]/\RowsAt K H l aE/\Ok n aE/\aE.length<=4100/\Knot aE top /\
 ∀(D:Addr) (rc:vI) (H':Hp),Same H H'->H D=none->H' D=u8 (.lst (iN rc))->Closed aE rc->(top<=1\/top∈rc)->(∀t j,(lay aE t rc j).length<=(aE.filter λr=>decide (r.1=t)).length)->(∀k∈rc,k=top\/∃k'∈rc,k<k'/\(outOf aE k'=k\/intoOf aE k'=k))->Q (.ref D) H'
def AIr:FnScope zl2 zl2 (Af sIn):=fscp ψ
def AIc(F:Fun K "row_in_places" "row_in_places" sIn f fd):FnOk P w K mg base CX0 1 f fd zl2 (AIQ K):=by
 refine F.ok AIr (λbt A outer s H vs Q E hr h=>?_);obtain⟨d,p,r,x,y,aT,rfl,hd,⟨p',e,hp⟩,hx,hy,q⟩:=h;cases e;refine⟨_,Ah (Ar (Bs (Aa (Ax Ck (pv 1) Ae) (Aa (RP (CK hr) (pv 0) (Ax Ck (pv 1) Ae) (λ_ _=>rfl)) (Aa (RP (CK hr) (pv 0) (Ax Ck (pv 1) Ae) (λ_ _=>rfl)) Ac))))),?_⟩;refine⟨_,ξ,ixA hp at0 ⟨_,ξ,_,ξ,ixA hp at1 ⟨d,.int x,ξ,?_,_,ξ,_,ξ,ixA hp at2 ⟨d,.int y,ξ,?_,(by show 3<=sizeLine;decide),q⟩⟩⟩⟩
 .have:=DGet.k (k:=.inl (r.2.1:Int)) hd
  rw[hx] at this;exact this
 .have:=DGet.k (k:=.inl (r.2.2:Int)) hd
  rw[hy] at this;exact this
def SQ:FnScope ["rows","top","reached","knot"] zl20 (Af RV):=fscp ψ
def ADS(F:Fun K "reached_knots" "reached_knots" RV f fd)(T:Txt K mg C):FnOk P w K mg base CX0 1 f fd zl20 (Zd K):=by
 refine F.ok SQ (λbt A outer s H vs Q E hr h=>?_);obtain⟨l,n,top,aE,rfl,hL,ok,r60,kt,q⟩:=h;refine⟨_,Ad (Ao (i:=2) SQ.nd (Yd (NQ (pv 1) KH Yu) rfl rfl (by intro z;cases z) ζ))
  (Ad (Dj DJ rfl (Ou rfl T.range (Aa (pv 1) (Aa Ae (Aa (ZJ Qm Ae) Ac)))) (Bg (i:=3) SQ.nd)
   (Ah (Bl (Hx (ADx (CK hr) (pv 3) (pv 2)))
    (Ad (Ku (CK hr) (pv 2) (Ax Ck (Ax Ck (pv 0) (Aw Ez (pv 3) Ae)) Ae) KH rfl)
    (Ah (Ku (CK hr) (pv 2) (Ax Ck (Ax Ck (pv 0) (Aw Ez (pv 3) Ae)) Ae) KH rfl))) BJ)))
  (Ah (Ar (Bu (Af RV) ["knot"] ["reached"] [2] rfl rfl ψ ⟨⟨ξ,ψ⟩,trivial⟩ (ABM rfl T.range (Aa Ae (Aa (Aw CQ (pv 1) Ae) Ac)))
   (λ_ _ _=>BL (i:=0))
   (λ_ _ _=>Cm (Hx (ADx (CK hr) (pv 0) (pv 1)) rfl))
   (λ_ _ _=>pv 0))))),?_⟩
 refine λD hD=>⟨_,ξ,Ab,[(.inl (top:Int),.bl true)],ξ,(by show 1<=15;decide),?_⟩;have s0:Same H (upd (upd H D (.dK [])) D (.dK (mergeK [] [(.inl (top:Int),.bl true)]))):=λb o e=>by rw[Ag (Ai e hD),Ag (Ai e hD)];exact e
 refine⟨_,ξ,_,ξ,(top:Int),1,ξ,⟨δ,by have:top<aE.length+2:=kt;lia,δ,δ⟩,?_⟩;refine Us (lo:=(top:Int)) (n:=((top:Int)-1).toNat) (λi σ H2=>∃(aT:List (Key×V)) (kv:Option V),σ=[u8 (.ref l),u8 (.int top),u8 (.ref D),kv]/\Same H H2/\H2 D=u8 (.dK aT)/\aT.length<=1+2*i/\has aT top /\
   (∀k:Nat,top<k+i->k<=top->has aT k->has aT (outOf aE k)/\has aT (intoOf aE k))/\(∀k:Nat,has aT k->k<=top)/\∀k:Nat,2<=k->has aT k->k=top\/∃k',2<=k'/\has aT k'/\k<k'/\(outOf aE k'=k\/intoOf aE k'=k))
  ⟨_,u9,ξ,s0,Ab,by show 1<=1;decide,?_,λk h1 h2=>by lia,?_,?_⟩ ?_ ?_
 .show has (putK [] (.inl (top:Int)) (.bl true)) top
  exact has_put.mpr (.inl rfl)
 .intro k hk
  rcases has_put.mp (show has (putK [] (.inl (top:Int)) (.bl true)) k from hk) with e| e
  .exact wH e
  .exact vF e (by intro z;cases z)
 .intro k _ hk
  rcases has_put.mp (show has (putK [] (.inl (top:Int)) (.bl true)) k from hk) with e| e
  .exact .inl e
  .exact vF e (by intro z;cases z)
 .rintro i σ H2 hi ⟨aT,kv,rfl,sm,eD,hl,ht,hc,hb,hpar⟩
  obtain⟨k,ek,k2⟩:∃k:Nat,(top:Int)-i=k/\2<=k:=⟨((top:Int)-i).toNat,δ,δ⟩;have kk:Knot aE k:=by unfold Knot at *;lia
  rw[ek];refine⟨_,ξ,_,ξ,D,_,ξ,DGet.k (k:=.inl (k:Int)) eD,_,ξ,?_⟩;refine ite2 (λc=>?_) (λc=>?_)
  .have tK:=hL.same sm
   obtain⟨xs,p,hS,ha,hp⟩:=Io tK kk k2;obtain⟨_,lo,li,_⟩:=ok.low (Bb kk k2);have z1:aT.length<sizeLine:=Gu (by unfold Knot at kt;lia);refine⟨_,ξ,_,ξ,_,ξ,_,_,ξ,ξ,ixA hS ha (ixA hp at1 ⟨D,_,ξ,.inl ⟨aT,.inl ((aE.getD (k-2) (0,0,0)).2.1:Int),eD,ξ,z1,ξ⟩,?_⟩)⟩;have l1:=Cd aT (.inl ((aE.getD (k-2) (0,0,0)).2.1:Int)) (.bl true);have z2:(putK aT (.inl ((aE.getD (k-2) (0,0,0)).2.1:Int)) (.bl true)).length<sizeLine:=Gu (by unfold Knot at kt;lia);have sm2:Same H (upd H2 D (.dK (putK aT (.inl ((aE.getD (k-2) (0,0,0)).2.1:Int)) (.bl true)))):=λb o e=>by rw[Ag (Ai e hD)];exact sm b o e
   obtain⟨xs2,p2,hS2,ha2,h8⟩:=Io (hL.same sm2) kk k2;refine⟨_,ξ,_,ξ,_,ξ,_,_,ξ,ξ,ixA hS2 ha2 (ixA h8 at2 ⟨D,_,ξ,.inl ⟨_,.inl ((aE.getD (k-2) (0,0,0)).2.2:Int),Ab,ξ,z2,ξ⟩,?_⟩)⟩;have l2:=Cd (putK aT (.inl ((aE.getD (k-2) (0,0,0)).2.1:Int)) (.bl true)) (.inl ((aE.getD (k-2) (0,0,0)).2.2:Int)) (.bl true);have hup:∀k',has (putK (putK aT (.inl ((aE.getD (k-2) (0,0,0)).2.1:Int)) (.bl true)) (.inl ((aE.getD (k-2) (0,0,0)).2.2:Int)) (.bl true)) k'->k'=outOf aE k\/k'=intoOf aE k\/has aT k':=λk' h=>by
    rcases has_put.mp h with e| h
    .exact .inr (.inl e)
    rcases has_put.mp h with e| h
    .exact .inl e
    exact .inr (.inr h)
   have tH:=c;have kle:k<=top:=by lia
   have lo':outOf aE k<k:=by unfold outOf;exact we lo k2
   have li':intoOf aE k<k:=by unfold intoOf;exact we li k2
   refine⟨_,_,ξ,λb o e=>?_,Ab,δ,has_put.mpr (.inr (has_put.mpr (.inr ht))),λk' h1 h2 h3=>?_,λk' h=>?_,λk' h2 h=>?_⟩
   .rw[Ag (Ai e hD),Ag (Ai e hD)]
    exact sm b o e
   .by_cases e:k'=k
    .subst e
     exact⟨has_put.mpr (.inr (has_put.mpr (.inl rfl))),has_put.mpr (.inl rfl)⟩
    .have h4:has aT k':=by
      rcases has_put.mp h3 with e' | h3
      ·lia
      rcases has_put.mp h3 with e' | h3
      ·lia
      exact h3
     obtain⟨y1,y2⟩:=hc k' (yM ek h1 e) h2 h4;exact⟨has_put.mpr (.inr (has_put.mpr (.inr y1))),has_put.mpr (.inr (has_put.mpr (.inr y2)))⟩
   .rcases hup k' h with e| e| e
    .exact yN ek e lo'
    .exact yN ek e li'
    .exact hb k' e
   .have keep:has (putK (putK aT (.inl ((aE.getD (k-2) (0,0,0)).2.1:Int)) (.bl true)) (.inl ((aE.getD (k-2) (0,0,0)).2.2:Int)) (.bl true)) k:=has_put.mpr (.inr (has_put.mpr (.inr tH)))
    rcases hup k' h with e| e| e
    .exact .inr ⟨k,k2,keep,yt e lo',.inl e.symm⟩
    .exact .inr ⟨k,k2,keep,yt e li',.inr e.symm⟩
    .rcases hpar k' h2 e with z| ⟨u,z1,z2,z3⟩
     .exact .inl z
     .exact .inr ⟨u,z1,has_put.mpr (.inr (has_put.mpr (.inr z2))),z3⟩
  .refine⟨aT,_,ξ,sm,eD,δ,ht,λk' h1 h2 h3=>?_,hb,hpar⟩
   by_cases e:k'=k
   .subst e
    exact vF h3 c
   .exact hc k' (yM ek h1 e) h2 h3
 .rintro σ H2 ⟨aT,kv,rfl,sm,eD,hl,ht,hc,hb,hpar⟩
  refine⟨_,ξ,_,_,ξ,ξ,2,(top:Int)+1,ξ,⟨δ,δ,δ,by unfold Knot at kt;lia⟩,λL jS=>?_⟩;have oj:D≠L:=λe=>by rw[<- e,eD] at jS;cases jS
  have nL:=sm.free jS;refine Cj (lo:=2) (n:=((top:Int)+1-2).toNat) (λi τ H3=>∃kv:Option V,τ=[kv,u8 (.ref D)]/\Same H H3/\H3 D=u8 (.dK aT)/\H3 L=u8 (.lst (iN (rcOf aT i)))) ⟨u9,ξ,sm.trans (vk jS _),by rw[Ag oj];exact eD,Ab⟩ ?_ ?_
  .rintro i τ H3 hi ⟨kv,rfl,sm3,sY,eL3⟩
   have ei:(2:Int)+i=((i+2:Nat):Int):=by lia
   rw[ei];refine⟨_,ξ,_,ξ,D,_,ξ,DGet.k (k:=.inl ((i+2:Nat):Int)) sY,_,ξ,?_⟩;have lr:=ABu aT i;refine ite2 (λc=>?_) (λc=>?_)
   .refine⟨_,ξ,_,eL3,Gu (by rw[AB];unfold Knot at kt;lia),_,ξ,λb o e=>?_,by rw[Ag oj];exact sY,?_⟩
    .rw[Ag (Ai e nL)]
     exact sm3 b o e
    .rw[Ab,Py,vB c]
     unfold iN;rw[BI];rfl
   .refine⟨_,ξ,sm3,sY,?_⟩
    rw[eL3,Py,vA c,B5]
  .rintro τ H3 ⟨kv,rfl,sm3,sY,eL3⟩
   have all:∀k,k∈rcOf aT ((top:Int)+1-2).toNat->2<=k/\k<=top/\has aT k:=λk hk=>by
    obtain⟨a,b,c⟩:=MN.mp hk;exact⟨a,δ,c⟩
   have back:∀k,k<=top->has aT k->k<=1\/k∈rcOf aT ((top:Int)+1-2).toNat:=λk h1 h2=>by
    rcases C9 k 2 with c| c
    .exact .inl (wA c)
    .exact .inr (MN.mpr ⟨c,yO h1,h2⟩)
   have kn:∀k,k<=top->Knot aE k:=λk h=>by unfold Knot at *;exact v6 h kt
   refine q L _ H3 sm3 nL eL3 ⟨λk hk=>(all k hk).1,λk hk=>kn k (all k hk).2.1,λk hk=>?_,λk hk=>?_⟩ (back top (AI _) ht) (λt j=>ACU (AHq _ _) (by unfold Knot at kt;lia)) (λk hk=>by
     obtain⟨a1,b1,c1⟩:=all k hk;rcases hpar k a1 c1 with z| ⟨u,u2,z1,z2⟩
     .exact .inl z
     .exact .inr ⟨u,MN.mpr ⟨u2,by have:=hb u z1;exact yO this,z1⟩,z2⟩)
   .obtain⟨a,b,c⟩:=all k hk
    obtain⟨_,lo,li,_⟩:=ok.low (Bb (kn k b) a);exact back _ (by unfold outOf;exact yP lo b a) (hc k (yQ a) b c).1
   .obtain⟨a,b,c⟩:=all k hk
    obtain⟨_,lo,li,_⟩:=ok.low (Bb (kn k b) a);exact back _ (by unfold intoOf;exact yP li b a) (hc k (yQ a) b c).2
noncomputable def ik3(r:Row):List Key:=[.inl (r.1:Int),.inl (r.2.1:Int),.inl (r.2.2:Int)]
noncomputable abbrev r3(r:Row):List V:=[.int r.1,.int r.2.1,.int r.2.2]
noncomputable def r3i(r:Row):vG:=[(r.1:Int),(r.2.1:Int),(r.2.2:Int)]
def AGC{a b:Row}(h:ik3 a=ik3 b):a=b:=by
 obtain⟨a1,a2,a3⟩:=a;obtain⟨b1,b2,b3⟩:=b;simp[ik3] at h;obtain⟨h1,h2,h3⟩:=h;injection h1 with h1
 injection h2 with h2
 injection h3 with h3
 have e1:a1=b1:=h1;have e2:a2=b2:=h2;have e3:a3=b3:=h3;rw[e1,e2,e3]
def Ke{a b:Row}(h:r3i a=r3i b):a=b:=by
 obtain⟨a1,a2,a3⟩:=a;obtain⟨b1,b2,b3⟩:=b;simp[r3i] at h;obtain⟨h1,h2,h3⟩:=h;have e1:a1=b1:=vx h1;have e2:a2=b2:=vx h2;have e3:a3=b3:=vx h3;rw[e1,e2,e3]
noncomputable def numKV:Nat->List Row->List (List Key×V)
 | _,[]=>[]
 | i,r::rs=>(ik3 r,.int (i:Int))::numKV (i+1) rs
noncomputable def numOf:Nat->List Row->Row->vT
 | _,[],_=>u9
 | i,a::rs,r=>if a=r then u8 i else numOf (i+1) rs r
theorem Jq:∀(i:Nat) (aS:List Row),(numKV i aS).length=aS.length
 | _,[]=>rfl
 | i,_::rs=>by show(numKV (i+1) rs).length+1=rs.length+1;rw[Jq]
theorem Jy(r:Row):∀(i:Nat) (aS:List Row),valV (numKV i aS) (ik3 r)=(numOf i aS r).map λ(m:Nat)=>V.int (m:Int)
 | _,[]=>rfl
 | i,a::rs=>by
  by_cases e:a=r
  .rw[numKV,CV (by show ik3 a=ik3 r;rw[e]),numOf,vB e];rfl
  .rw[numKV,CW (λz=>e (AGC z)),numOf,vA e];exact Jy r (i+1) rs
theorem Lr(r:Row):∀(i:Nat) (aS:List Row) (m:Nat),numOf i aS r=u8 m->∃j,aS[j]?=u8 r/\m=i+j
 | _,[],_,h=>by cases h
 | i,a::rs,m,h=>by
  unfold numOf at h;by_cases e:a=r
  .rw[vB e] at h
   cases h;exact⟨0,by rw[e];rfl,ξ⟩
  .rw[vA e] at h
   obtain⟨j,h1,h2⟩:=Lr r (i+1) rs m h;exact⟨j+1,by simpa using h1,δ⟩
theorem Mf(r:Row):∀(i:Nat) (aS:List Row),numOf i aS r=none->r∉aS
 | _,[],_=>λh=>nomatch h
 | i,a::rs,h=>by
  unfold numOf at h;by_cases e:a=r
  .rw[vB e] at h;cases h
  .rw[vA e] at h
   intro hm;rcases AY.mp hm with rfl| hm
   .exact e rfl
   .exact Mf r (i+1) rs h hm
theorem QM(r:Row):∀(i:Nat) (aS:List Row),r∉aS->numOf i aS r=u9
 | _,[],_=>rfl
 | i,a::rs,h=>by
  unfold numOf;rw[vA (λe=>h (by rw[e];exact AF ..))];exact QM r (i+1) rs λz=>h (AJ _ z)
theorem Pq:∀(i:Nat) (aS:List Row) (r:Row),numKV i (aS++[r])=numKV i aS++[(ik3 r,.int ((i+aS.length:Nat):Int))]
 | i,[],r=>rfl
 | i,a::rs,r=>by
  show(ik3 a,V.int (i:Int))::numKV (i+1) (rs++[r])=(ik3 a,V.int (i:Int))::(numKV (i+1) rs++[(ik3 r,V.int ((i+(rs.length+1):Nat):Int))]);rw[Pq (i+1) rs r];rw[show i+1+rs.length=i+(rs.length+1) from wz]
def AAQ{aS:List Row}{r:Row}(h:r∉aS):putK (numKV 2 aS) (ik3 r) (.int (((numKV 2 aS).length:Int)+2))=numKV 2 (aS++[r]):=by
 rw[JQ _ (by rw[Jy,QM r 2 aS h];rfl),Pq,Jq]
 congr 4
 lia
def ABJ:∀{i:Nat}{aS:List Row}{ys:List V},KeyL H (numKV i aS) ys->A9 (rRow K H) aS ys:=by
 intro i aS ys h
 induction aS generalizing i ys with
 | nil=>cases h;exact .nil
 | cons r rs ih=>cases h with| cons h t=>obtain⟨b,e,hb⟩:=h;exact .cons ⟨b,e,ve hb⟩ (ih t)
theorem Js:∀(ms:vH),(∀m∈ms,∃r,m=r3i r)->∃new:List Row,ms=new.map r3i
 | [],_=>⟨[],ξ⟩
 | m::ms,h=>by
  obtain⟨r,rfl⟩:=h m (AF ..);obtain⟨new,rfl⟩:=Js ms λx hx=>h x (AJ _ hx);exact⟨r::new,ξ⟩
def AAs:∀{new:List Row},(new.map r3i).Pairwise (λa b=>HT.lexLt a b=true)->new.Nodup:=λ{new} h=>by
 have h2:=Cb.mp h;exact h2.imp λ{a b} z e=>by rw[e,Hz] at z;cases z
noncomputable def plOf(pl:Nat->vT)(place:Nat->Nat)(ks:vI)(k:Nat):vT:=if k∈ks then u8 (place k) else pl k
def ADe{place:Nat->Nat}{ks:vI}{a k:Nat}:plOf pl place (ks++[a]) k=if k=a then u8 (place a) else plOf pl place ks k:=by
 unfold plOf;by_cases e:k=a
 .subst e;simp
 .by_cases h:k∈ks
  .simp[h,e]
  .simp[h,e]
def PlD(aT:List (Key×V))(pl:Nat->vT):Prop:=∀k:Nat,valV aT (.inl (k:Int))=(pl k).map λ(p:Nat)=>V.int (p:Int)
def PlD.put{aT:List (Key×V)}{place:Nat->Nat}{ks:vI}{a:Nat}(h:PlD aT (plOf pl place ks)):PlD (putK aT (.inl (a:Int)) (.int (place a:Nat))) (plOf pl place (ks++[a])):=λk=>by
 rw[Em,ADe];by_cases e:k=a
 .subst e;rw[vB rfl,vB rfl];rfl
 .rw[vA (λz=>e (by injection z with z;exact vx z)),vA e]
  exact h k
end K34s
namespace G
def Zm(I:Kept2 n 0 aE rc aS pl)(c:Closed aE rc):aS.length<=aE.length:=by
 have ex:∀i,i<aS.length->∃k,k∈rc/\pl k=u8 (i+2):=λi hi=>by
  obtain⟨k,hk,_,e⟩:=I.sur i _ (AK hi);exact⟨k,hk,e⟩
 let g:Nat->Nat:=λi=>if h:i<aS.length then Ff (ex i h) else 0
 have hg:∀i,i<aS.length->g i∈rc/\pl (g i)=u8 (i+2):=λi hi=>by
  have z:=F5 (ex i hi);show(if h:i<aS.length then Ff (ex i h) else 0)∈rc/\pl (if h:i<aS.length then Ff (ex i h) else 0)=u8 (i+2);rw[dif_pos hi];exact z
 have nd:((AX aS.length).map g).Nodup:=by
  unfold J6;rw[Cb];refine D8 (λ{a b} ha hb h e=>?_) (Jn (n:=aS.length));have h1:=(hg a (AU.mp ha)).2;have h2:=(hg b (AU.mp hb)).2;rw[e,h2] at h1;injection h1 with h1
  lia
 have z:=ST.Bo nd (l₂:=(AX aE.length).map (·+2)) λx hx=>by
  obtain⟨i,hi,rfl⟩:=A1.mp hx;have hk:=(hg i (AU.mp hi)).1;have a:=c.two _ hk;have b:g i<aE.length+2:=c.knot _ hk;exact A1.mpr ⟨g i-2,AU.mpr δ,δ⟩
 rw[AB,AB,B6,B6] at z;exact z
section
variable{t:Nat}{A:List Row}
def Sim.inj(L:Least n A):∀(f k k':Nat),k<f->Sim A A k k'->k=k':=by
 intro f
 induction f with
 | zero=>intro k k' h;lia
 | succ f ih =>
  intro k k' hk S;rcases C9 k 2 with c| c
  .exact S.small L L (wA c)
  .obtain⟨c',et,so,si⟩:=S.child L L c
   have ra:=Bb S.ka c;have rb:=Bb S.kb c';obtain⟨_,a1,a2,_⟩:=L.ok.low ra;have e1:=ih _ _ (by show(A.getD (k-2) (0,0,0)).2.1<f;exact yc a1 hk c) so;have e2:=ih _ _ (by show(A.getD (k-2) (0,0,0)).2.2<f;exact yc a2 hk c) si;have er:=K0 et (K0 e1 e2);rw[er] at ra;have:=L.one _ _ _ ra rb;lia
def Ye(L:Least n A){a b:Nat}(ka:Knot A a)(kb:Knot A b)(h:∀s,led A a s=led A b s):a=b:=Sim.inj L (a+1) a b (ER _) ⟨ka,kb,h⟩
def AAa{P:Nat->Prop}{top:Nat}(pt:P top)(ps:∀k,P k->2<=k->Knot aE k->P (outOf aE k)/\P (intoOf aE k))(c:Closed aE rc)(par:∀k∈rc,k=top\/∃k'∈rc,k<k'/\(outOf aE k'=k\/intoOf aE k'=k)):∀(d k:Nat),aE.length+2-k<=d->k∈rc->P k:=by
 intro d
 induction d with
 | zero=>intro k h hk;have:k<aE.length+2:=c.knot k hk;lia
 | succ d ih =>
  intro k h hk;rcases par k hk with rfl| ⟨k',bp,lt,e⟩
  .exact pt
  .have:k<aE.length+2:=c.knot k hk
   have z:=ps k' (ih k' (zT h lt) bp) (c.two k' bp) (c.knot k' bp);rcases e with rfl| rfl
   .exact z.1
   .exact z.2
noncomputable def lowH(t:Nat):vI->Bool
 | []=>false
 | x::_=>decide (x<=t)
end
section
variable{A:List Row}{k:Nat}
def AFl(aE:List Row)(r:Row):(aE++[r]).getD (aE.length+2-2) (0,0,0)=r:=by
 rw[CF,AD,Cc wC,IZ];rfl
def ABg(aE:List Row)(r:Row):Knot (aE++[r]) (aE.length+2):=by
 unfold Knot;rw[A2,DC];exact Pi
def QF{t:Nat}(ks:vI)(hk:∀k∈ks,2<=k/\Knot A k/\tieOf A k=t)(nd:ks.Nodup):ks.length<=(A.filter λr=>decide (r.1=t)).length:=by
 have iE:∀i∈(ks.map (· - 2)),i<A.length/\(A.getD i (0,0,0)).1=t:=λi hi=>by
  obtain⟨k,bp,rfl⟩:=A1.mp hi;obtain⟨k2,kn,ht⟩:=hk k bp;exact⟨by unfold Knot at kn;exact xq kn k2,ht⟩
 have nd2:(ks.map (· - 2)).Nodup:=by
  unfold J6;rw[Cb];refine D8 (λ{a b} ha hb h e=>h ?_) nd;have:=(hk a ha).1;have:=(hk b hb).1;lia
 have z:=ST.Bo nd2 (l₂:=(AX A.length).filter λi=>decide ((A.getD i (0,0,0)).1=t)) λi hi=>by
  obtain⟨h1,h2⟩:=iE i hi;exact BG.mpr ⟨AU.mpr h1,vC h2⟩
 rw[AB] at z;refine BQ z (OU ?_);have e:A=(AX A.length).map λi=>A.getD i (0,0,0):=by
  apply FF;intro i;rw[AV];by_cases c:i<A.length
  .rw[EX c,AK c]
   simp[AD,c]
  .rw[DZ (vo c),DZ (by rw[B6];exact vo c)]
   rfl
 conv=>rhs;rw[e,P3,AB]
 rfl
end
noncomputable def addRow(S:List (List vI))(r:Row):List (List vI):=S++[S.getD r.2.1 []++(S.getD r.2.2 []).map (r.1::·)]
noncomputable def setsUp(aE:List Row):List (List vI):=aE.foldl addRow [[],[[]]]
def setsOf(aE:List Row)(k:Nat):List vI:=(setsUp aE).getD k []
def Gh(aE:List Row)(r:Row):setsUp (aE++[r])=addRow (setsUp aE) r:=by unfold setsUp;rw[List.foldl_append];rfl
def Dd:∀(aE:List Row),(setsUp aE).length=aE.length+2:=by
 intro aE
 suffices h:∀(l:List Row) (S:List (List vI)),(l.foldl addRow S).length=S.length+l.length by
  unfold setsUp;rw[h];show 2+_=_;exact yV
 intro l
 induction l with
 | nil=>intro S;simp
 | cons a l ih =>
  intro S;rw[P4,ih];unfold addRow;rw[A2];simp;exact wz
noncomputable def num(n:Nat):vI->Nat
 | []=>0
 | x::xs=>2 ^ (n-1-x)+num n xs
theorem Qq{n:Nat}:∀{s:vI}{t:Nat},s.Pairwise (· < ·)->(∀x∈s,t<=x/\x<n)->num n s<2 ^ (n-t)
 | [],t,_,_=>Nat.two_pow_pos _
 | x::xs,t,h,hr=>by
  obtain⟨h1,h2⟩:=B0.mp h;obtain⟨x1,x2⟩:=hr x AF;have ih:=Qq (t:=x+1) h2 λy hy=>⟨h1 y hy,(hr y (AJ _ hy)).2⟩;have e:2 ^ (n-x)=2 ^ (n-1-x)+2 ^ (n-1-x):=by
   rw[show n-x=(n-1-x)+1 by lia,MY];exact xS
  have le:2 ^ (n-x)<=2 ^ (n-t):=IM ζ (zc x1);have e2:n-(x+1)=n-1-x:=xL;rw[e2] at ih;show 2 ^ (n-1-x)+num n xs<_;lia
structure InOrder(n:Nat)(aE:List Row)(k:Nat)(L:List vI):Prop where
 mem:∀s,s∈L↔led aE k s=true
 ord:L.Pairwise λs u=>num n s<num n u
 way:∀s∈L,s.Pairwise (· < ·)/\∀x∈s,rank n aE k<=x/\x<n
def ADW{l m:List α}{k:Nat}{d:α}(h:k<l.length):(l++m).getD k d=l.getD k d:=by
 rw[AD,AD,BB h]
def Xp(o:Ok n aE)(r:Row){k:Nat}(kn:Knot aE k):setsOf (aE++[r]) k=setsOf aE k:=by
 unfold setsOf;rw[Gh];unfold addRow;exact ADW (by rw[Dd];exact kn)
def Xd(aE:List Row)(r:Row):setsOf (aE++[r]) (aE.length+2)=setsOf aE r.2.1++(setsOf aE r.2.2).map (r.1::·):=by
 unfold setsOf;rw[Gh];unfold addRow;rw[AD,Cc (by rw[Dd];exact AI _),Dd,IZ];rfl
def InOrder.app(o:Ok n aE){r:Row}{k:Nat}(kn:Knot aE k)(I:InOrder n aE k L):InOrder n (aE++[r]) k L :=
 ⟨λs=>by rw[Cz o s kn];exact I.mem s,I.ord,λs hs=>by rw[Mr kn];exact I.way s hs⟩
def JC{r:Row}(o:Ok n (aE++[r])):Ok n aE:=λi q e=>by
 have il:=(AG.mp e).1;obtain⟨h1,h2,h3⟩:=o i q (by rw[BB il];exact e);have low:∀l,Low (aE++[r]) q.1 (i+2) l->Low aE q.1 (i+2) l:=λl ⟨a,b⟩=>⟨a,b.imp id λ⟨u,e,z⟩=>⟨u,by rw[BB δ] at e;exact e,z⟩⟩;exact⟨h1,low _ h2,low _ h3⟩
def Gk:∀(m:Nat) (aE:List Row),aE.length=m->Ok n aE->∀k,Knot aE k->InOrder n aE k (setsOf aE k):=by
 intro m
 induction m with
 | zero =>
  intro aE h o k kn;have e:=CU.mp h;subst e;have:k=0\/k=1:=by unfold Knot at kn;simp at kn;exact xv kn
  rcases this with rfl| rfl
  .refine⟨λs=>?_,.nil,λs hs=>by cases hs⟩
   rw[Cp];exact⟨λh=>(by cases h),λh=>(by cases h)⟩
  .refine⟨λs=>?_,JU _ _,λs hs=>?_⟩
   .rw[DQ,decide_eq_true_iff]
    exact B8
   .rw[B8.mp hs]
    exact⟨.nil,λx hx=>by cases hx⟩
 | succ m ih =>
  intro aE h o k kn;have ne:aE≠[]:=λe=>by rw[e] at h;cases h
  obtain⟨init,r,rfl⟩:∃init r,aE=init++[r]:=⟨aE.dropLast,aE.getLast ne,(List.dropLast_concat_getLast ne).symm⟩;have hl:init.length=m:=by simpa using h
  have oi:=JC o;have I:=ih init hl oi;by_cases c:k<init.length+2
  .rw[Xp oi r c]
   exact(I k c).app oi c
  .have ek:k=init.length+2:=by unfold Knot at kn;simp at kn;lia
   subst ek;have hi:(init++[r])[init.length]?=u8 r:=by simp
   obtain⟨t1,l1,l2,r1,r2,_,_⟩:=o.low hi;have sQ:=l1;have kn2:=l2;have I1:=(I _ sQ).app (r:=r) oi sQ;have I2:=(I _ kn2).app (r:=r) oi kn2;have eg:(init++[r]).getD (init.length+2-2) (0,0,0)=r:=by rw[CF,AD,hi];rfl
   have rk:rank n (init++[r]) (init.length+2)=r.1:=by unfold rank;rw[vA zd,eg]
   rw[Xd];refine⟨λs=>?_,?_,λs hs=>?_⟩
   .rw[Cf,A1]
    cases s with
    | nil =>
     rw[DW o kn fv,eg,I1.mem];exact⟨λh=>h.elim id λ⟨u,_,e⟩=>(by cases e),.inl⟩
    | cons x xs =>
     rw[Bm o kn fv,eg,I1.mem];by_cases c1:x<r.1
     .rw[vB c1]
      refine⟨λh=>?_,λh=>by cases h⟩;rcases h with h| ⟨u,_,e⟩
      .rw[off o (FT sQ) (vw c1 r1)] at h;exact h
      .injection e with e _;lia
     .rw[vA c1]
      by_cases c2:x=r.1
      .rw[vB c2]
       subst c2;refine⟨λh=>?_,λh=>.inr ⟨xs,(I2.mem xs).mpr h,ξ⟩⟩;rcases h with h| ⟨u,hu,e⟩
       .rw[off o (FT sQ) r1] at h;cases h
       .injection e with _ e
        rw[<- e];exact(I2.mem u).mp hu
      .rw[vA c2]
       refine⟨λh=>h.elim id λ⟨u,_,e⟩=>(by injection e with e _;lia),.inl⟩
   .refine C4.mpr ⟨I1.ord,?_,λs hs u hu=>?_⟩
    .rw[Cb]
     exact I2.ord.imp λ{a b} h=>by show 2 ^ _+_<2 ^ _+_;exact ze h
    .obtain⟨v,hv,rfl⟩:=A1.mp hu
     obtain⟨w1,w2⟩:=I1.way s hs;have:=Qq (n:=n) (t:=r.1+1) w1 λx hx=>⟨by have:=(w2 x hx).1;lia,(w2 x hx).2⟩;rw[show n-(r.1+1)=n-1-r.1 from xL] at this;show _<2 ^ (n-1-r.1)+_;exact wb this
   .rw[rk]
    rcases Cf.mp hs with hs| hs
    .obtain⟨w1,w2⟩:=I1.way s hs
     exact⟨w1,λx hx=>⟨by have:=(w2 x hx).1;exact xX r1 this,(w2 x hx).2⟩⟩
    .obtain⟨v,hv,rfl⟩:=A1.mp hs
     obtain⟨w1,w2⟩:=I2.way v hv;refine⟨.cons (λx hx=>by have:=(w2 x hx).1;exact vy r2 this) w1,λx hx=>?_⟩;rcases AY.mp hx with rfl| hx
     .exact⟨AI _,t1⟩
     .exact⟨by have:=(w2 x hx).1;exact xX r2 this,(w2 x hx).2⟩
noncomputable def hasW(aE:List Row):Nat->Nat->vG->Bool
 | 0,_,_=>false
 | f+1,k,s=>if k<=1 then decide (k=1/\s=[]) else
  match s with
  | []=>hasW aE f (aE.getD (k-2) (0,0,0)).2.1 []
  | x::xs=>if x=((aE.getD (k-2) (0,0,0)).1:Int) then hasW aE f (aE.getD (k-2) (0,0,0)).2.2 xs else hasW aE f (aE.getD (k-2) (0,0,0)).2.1 (x::xs)
def Mi(o:Ok n aE):∀(f k:Nat) (s:vG),k<f->Knot aE k->(hasW aE f k s=true↔∃u:vI,s=up u/\led aE k u=true):=by
 intro f
 induction f with
 | zero=>intro k s h;lia
 | succ f ih =>
  intro k s hk kn;unfold hasW;by_cases c:k<=1
  .rw[vB c,decide_eq_true_iff]
   constructor
   .rintro⟨rfl,rfl⟩
    exact⟨[],ξ,by rw[DQ];rfl⟩
   .rintro⟨u,rfl,h⟩
    have:k=0\/k=1:=xu c;rcases this with rfl| rfl
    .rw[Cp] at h;cases h
    .rw[DQ,decide_eq_true_iff] at h
     subst h;exact⟨ξ,ξ⟩
  .rw[vA c]
   obtain⟨h1,h2,h3,r1,r2,k1,k2⟩:=o.low (Bb kn (wd c));have tG:=λs=>ih _ s (show(aE.getD (k-2) (0,0,0)).2.1<f from xx h2 hk c) k1;have u5:=λs=>ih _ s (show(aE.getD (k-2) (0,0,0)).2.2<f from xx h3 hk c) k2;cases s with
   | nil =>
    rw[tG];constructor
    .rintro⟨u,e,h⟩
     have:u=[]:=Jo e.symm;subst this;exact⟨[],ξ,by rw[DW o kn (wd c)];exact h⟩
    .rintro⟨u,e,h⟩
     have:u=[]:=Jo e.symm;subst this;rw[DW o kn (wd c)] at h;exact⟨[],ξ,h⟩
   | cons x xs =>
    by_cases e:x=((aE.getD (k-2) (0,0,0)).1:Int)
    .show(if x=_ then _ else _)=true↔_
     rw[vB e,u5];constructor
     .rintro⟨u,rfl,h⟩
      refine⟨(aE.getD (k-2) (0,0,0)).1::u,by rw[e];rfl,?_⟩;rw[Bm o kn (wd c),vA wV,vB rfl];exact h
     .rintro⟨u,eu,h⟩
      cases u with
      | nil=>cases eu
      | cons y ys =>
       have uh:x::xs=(y:Int)::up ys:=eu;injection uh with e1 e2
       have ey:y=(aE.getD (k-2) (0,0,0)).1:=by lia
       rw[Bm o kn (wd c),vA δ,vB ey] at h;exact⟨ys,e2,h⟩
    .show(if x=_ then _ else _)=true↔_
     rw[vA e,tG];constructor
     .rintro⟨u,eu,h⟩
      refine⟨u,eu,?_⟩;cases u with
      | nil=>cases eu
      | cons y ys =>
       have uh:x::xs=(y:Int)::up ys:=eu;injection uh with e1 e2
       have ne:y≠(aE.getD (k-2) (0,0,0)).1:=λz=>e (zf e1 z);have ge:¬ y<(aE.getD (k-2) (0,0,0)).1:=λz=>by
        rw[off o k1 (vw z r1)] at h;cases h
       rw[Bm o kn (wd c),vA ge,vA ne];exact h
     .rintro⟨u,eu,h⟩
      refine⟨u,eu,?_⟩;cases u with
      | nil=>cases eu
      | cons y ys =>
       have uh:x::xs=(y:Int)::up ys:=eu;injection uh with e1 e2
       have ne:y≠(aE.getD (k-2) (0,0,0)).1:=λz=>e (zf e1 z);rw[Bm o kn (wd c)] at h;by_cases c2:y<(aE.getD (k-2) (0,0,0)).1
       .rw[vB c2] at h;cases h
       .rw[vA c2,vA ne] at h;exact h
abbrev Sta:=vG
section
variable{t k:Nat}{f:vI->Bool}
structure Lead(aE:List Row)(t k:Nat)(f:vI->Bool):Prop where
 kn:Knot aE k
 up:k<=1\/t<=tieOf aE k
 eq:∀s,led aE k s=f s
def Lead.app(o:Ok n aE)(h:Lead aE t k f):Lead (aE++more) t k f:=by
 refine⟨FT h.kn,?_,λs=>by rw[Cz o s h.kn,h.eq]⟩;rcases C9 1 k with c| c
 .rw[ZM h.kn c];exact h.up
 .exact .inl c
def Qj(h:∀s,f s=false):Lead aE t 0 f:=⟨by unfold Knot;exact xi,.inl wU,λs=>by rw[Cp,h]⟩
def ABZ(h:∀s,f s=decide (s=[])):Lead aE t 1 f:=⟨by unfold Knot;exact xr,.inl wC,λs=>by rw[DQ,h]⟩
def Cnt(t:Nat)(more:List Row):Prop:=∀j,(more.filter λr=>decide (r.1=j)).length<=if j<t then 0 else 2 ^ (j-t)
def cnt_nil:Cnt t []:=λj=>Bz _
def ACz{m1 m2:List Row}(h1:Cnt (t+1) m1)(h2:Cnt (t+1) m2):Cnt t (m1++m2++[(t,kl,kr)]):=λj=>by
 have a:=h1 j;have b:=h2 j;rw[CI,CI,A2,A2];rcases L6 j t with c| c| c
 .rw[vB δ] at a b
  rw[vB c,JY (by simp;lia)];show _+_+0<=0;lia
 .subst c
  rw[vB δ] at a b;rw[vA wV,IZ,LV θ];show _+_+1<=1;lia
 .rw[vA δ] at a b
  rw[vA δ,JY (by simp;lia)];have e:2 ^ (j-t)=2 ^ (j-(t+1))+2 ^ (j-(t+1)):=by
   rw[show j-t=(j-(t+1))+1 by lia,MY];exact xS
  show _+_+0<=_;lia
end
section
variable{t:Nat}{A:List Row}
def FewB(aE:List Row)(top:Nat):Prop:=∃P:Nat->Prop,P top/\(∀k,P k->2<=k->Knot aE k->P (outOf aE k)/\P (intoOf aE k)) /\
 ∀(t:Nat) (ks:vI),(∀k∈ks,P k/\2<=k/\Knot aE k/\tieOf aE k=t/\∃s,led aE (intoOf aE k) s=true)->ks.Pairwise (λa b=>∃s,led aE a s≠led aE b s)->ks.length<=300
def FewB.sel{top:Nat}(F:FewB aE top)(I:Kept2 n (t+1) aE rc aS pl)(c:Closed aE rc)(o:Ok n aE)(hn:t<n)(par:∀k∈rc,k=top\/∃k'∈rc,k<k'/\(outOf aE k'=k\/intoOf aE k'=k)) :
  ∀new:List Row,new.Nodup->(∀r∈new,∃k,k∈rc/\tieOf aE k=t/\r=rowIn aE pl k/\r.2.2≠0)->new.length<=300:=by
 intro new nd hw;obtain⟨P,pt,ps,few⟩:=F;have hP:∀k∈rc,P k:=λk hk=>AAa pt ps c par _ k (AI _) hk;obtain⟨g,hg⟩:∃g:Row->Nat,∀r∈new,g r∈rc/\tieOf aE (g r)=t/\r=rowIn aE pl (g r)/\r.2.2≠0 :=
  ⟨λr=>if h:r∈new then Ff (hw r h) else 0,λr h=>by
   dsimp only;rw[dif_pos h];exact F5 (hw r h)⟩
 have oC:=I.base.least.ok;have key:∀r∈new,∃a b,r=(t,a,b)/\Knot aS a/\Knot aS b/\b≠0/\(∀s,led aS a s=led aE (outOf aE (g r)) s)/\(∀s,led aS b s=led aE (intoOf aE (g r)) s)/\(∀xs,led aE (g r) (t::xs)=led aS b xs)/\∀s,led aS a s=if lowH t s=true then false else led aE (g r) s:=λr hr=>by
  obtain⟨hk,ht,e,w0⟩:=hg r hr;obtain⟨a,b,ea,eb,re,x1,x2,x3,x4⟩:=I.base.row c o hn hk ht;obtain⟨_,z1,z2⟩:=c.low o hk;have la:=I.low (c.out _ hk) (by rw[<- ht];exact z1) ea;have lb:=I.low (c.into _ hk) (by rw[<- ht];exact z2) eb;have kk:=c.knot _ hk;have k2:=c.two _ hk;have et:(aE.getD (g r-2) (0,0,0)).1=t:=ht;refine⟨a,b,e.trans re,x1,x2,?_,la,lb,λxs=>?_,λs=>?_⟩
  .rw[e,re] at w0
   exact w0
  .rw[Bm o kk k2,et,vA (Ex _),vB rfl,lb]
   rfl
  .cases s with
   | nil=>rw[la,DW o kk k2,vA (by intro z;cases z)];rfl
   | cons x xs =>
    by_cases cs:x<=t
    .rw[vB (show lowH t (x::xs)=true from vC cs)]
     exact off oC x1 (v6 cs x3)
    .rw[vA (show ¬ lowH t (x::xs)=true from λz=>cs (vE z)),la,Bm o kk k2,et,vA (y4 cs),vA (y6 cs)]
     rfl
 have:=few t (new.map g) (λk hk=>by
  obtain⟨r,hr,rfl⟩:=A1.mp hk;obtain⟨h1,h2,h3,h4⟩:=hg r hr;obtain⟨a,b,_,_,kb,b0,_,lb,_⟩:=key r hr;refine⟨hP _ h1,c.two _ h1,c.knot _ h1,h2,?_⟩;obtain⟨s,w,_⟩:=Mj I.base.least (b+1) b (ER _) kb b0;exact⟨s,by rw[<- lb];exact w.1⟩) (by
  rw[Cb];refine D8 (λ{r r'} hr hr' ne=>?_) nd;refine Ct λh=>ne ?_;have same:∀s,led aE (g r) s=led aE (g r') s:=λs=>Ct λz=>h ⟨s,z⟩;obtain⟨a,b,er,ka,kb,_,_,_,lb,la⟩:=key r hr;obtain⟨a',b',er',ka',kb',_,_,_,lb',iq⟩:=key r' hr';have e1:=Ye I.base.least ka ka' λs=>by rw[la,iq,same]
  have e2:=Ye I.base.least kb kb' λs=>by rw[<- lb,<- lb',same]
  rw[er,er',e1,e2])
 rwa [AB] at this
theorem Ue{α:Type}[DecidableEq α]:∀{l₁ l₂:List α},l₁.Nodup->(∀x∈l₁,x∈l₂)->l₁.length<=l₂.length
 | [],_,_,_=>Bz _
 | a::t,l₂,nd,hs=>by
  obtain⟨n1,n2⟩:=DV.mp nd;have ha:=hs a AF;have hl:=G4 ha;have ih:=Ue (l₂:=l₂.erase a) n2 λx hx=>(IL (λ(e:x=a)=>n1 (by rw[<- e];exact hx))).mpr (hs x (AJ _ hx));have:0<l₂.length:=HE ha;simp;exact yd ih hl this
noncomputable def allB:Nat->List (List Bool)
 | 0=>[[]]
 | n+1=>(allB n).map (true::·)++(allB n).map (false::·)
theorem Tz:∀n,(allB n).length=2 ^ n
 | 0=>rfl
 | n+1=>by
  show((allB n).map (true::·)++(allB n).map (false::·)).length=_;rw[A2,AB,AB,Tz n,MY];lia
theorem Uy:∀{n:Nat}{l:List Bool},l.length=n->l∈allB n
 | 0,[],_=>by simp[allB]
 | n+1,b::l,h=>by
  have:=Uy (n:=n) (l:=l) (by simpa using h);cases b with
  | true=>exact F9 _ (Hd this)
  | false=>exact Co _ (Hd this)
 | 0,_::_,h=>by cases h
 | _+1,[],h=>by cases h
noncomputable def subs12:List vI:=[[],[9],[10],[11],[9,10],[9,11],[10,11],[9,10,11]]
def AEm{s:vI}(w:s.Pairwise (· < ·))(bd:∀x∈s,9<=x/\x<12):s∈subs12:=by
 match s,w,bd with
 | [],_,_=>exact by decide
 | [x],_,bd =>
  have:=bd x (AF ..);have:x=9\/x=10\/x=11:=by lia
  rcases this with rfl| rfl| rfl<;>decide
 | [x,y],w,bd =>
  have h1:=bd x (AF ..);have h2:=bd y (AJ _ (AF ..));have lt:=(B0.mp w).1 y (AF ..);have:(x=9/\y=10)\/(x=9/\y=11)\/(x=10/\y=11):=by lia
  rcases this with⟨rfl,rfl⟩| ⟨rfl,rfl⟩| ⟨rfl,rfl⟩<;>decide
 | x::y::z::r,w,bd =>
  have h1:=bd x (AF ..);have h2:=bd y (AJ _ (AF ..));have h3:=bd z (AJ _ (AJ _ (AF ..)));have l1:=(B0.mp w).1 y (AF ..);have w2:=(B0.mp w).2;have l2:=(B0.mp w2).1 z (AF ..);obtain rfl:x=9:=by lia
  obtain rfl:y=10:=by lia
  obtain rfl:z=11:=by lia
  cases r with
  | nil=>decide
  | cons u r =>
   have hu:=bd u θ;have l3:=(B0.mp (B0.mp w2).2).1 u (AF ..);lia
def YG(o:Ok n aE)(fF:n<=12)(c:Cnt 0 aE)(top:Nat):FewB aE top:=by
 refine⟨λ_=>True,trivial,λ_ _ _ _=>⟨trivial,trivial⟩,λt ks hk un=>?_⟩;have nd:ks.Nodup:=un.imp λ{a b} ⟨s,h⟩ e=>h (by rw[e]);rcases C9 t 9 with c9| c9
 .have z:=QF (A:=aE) (t:=t) ks (λk h=>⟨(hk k h).2.1,(hk k h).2.2.1,(hk k h).2.2.2.1⟩) nd
  have y:=c t;rw[vA wa,Nat.sub_zero] at y;have:2 ^ t<=2 ^ 8:=IM ζ δ;lia
 .have lim:∀{k:Nat}{s:vI},Knot aE k->2<=k->tieOf aE k=t->led aE k s=true->s∈subs12:=λ{k s} kn k2 tk ld=>by
   have I0:=Gk _ _ rfl o _ kn;obtain⟨w1,w2⟩:=I0.way s ((I0.mem s).mpr ld);refine AEm w1 λx hx=>?_;have z:=w2 x hx;unfold rank at z;rw[vA (v9 k2)] at z;have e:(aE.getD (k-2) (0,0,0)).1=t:=tk;lia
  have z:=Ue (l₁:=ks.map λk=>subs12.map (led aE k)) (l₂:=allB 8) (by
   unfold J6;rw[Cb];refine D8 (λ{a b} ha hb ⟨s,ne⟩ e=>ne ?_) un;obtain⟨_,a2,ka,ta,_⟩:=hk a ha;obtain⟨_,b2,kb,tb,_⟩:=hk b hb;have same:∀s∈subs12,led aE a s=led aE b s:=λs hs=>(List.map_inj_left.mp e) s hs;cases ea:led aE a s with
   | true=>rw[<- same s (lim ka a2 ta ea),ea]
   | false =>
    cases eb:led aE b s with
    | true=>rw[<- same s (lim kb b2 tb eb),ea] at eb;exact eb
    | false=>rfl) λx hx=>by
   obtain⟨k,_,rfl⟩:=A1.mp hx;exact Uy (by rw[AB];rfl)
  rw[AB,Tz] at z;lia
end
end G
namespace SB
open PySem PySem.SetTable
noncomputable def iter{α:Type}(f:α->α):Nat->α->α
 | 0,x=>x
 | n+1,x=>iter f n (f x)
theorem CZ{α:Type}(f:α->α):∀(m n:Nat) (x:α),iter f (m+n) x=iter f n (iter f m x)
 | 0,n,x=>by rw[F8];rfl
 | m+1,n,x=>by
  rw[Nat.succ_add];exact CZ f m n (f x)
def Zz(f:α->α)(n:Nat)(x:α):iter f (n+1) x=f (iter f n x):=CZ f n 1 x
def Mask(m:Nat):Prop:=m=7\/m=31\/m=127\/m=511
noncomputable def step(M:Nat)(p:JJ):JJ :=
 if p.more>0 then {p with j:=p.j+1,more:=p.more-1} else
 {p with j:=(leap M p.i p.perturb).1,more:=FD M (leap M p.i p.perturb).1-(leap M p.i p.perturb).1,i:=(leap M p.i p.perturb).1,perturb:=(leap M p.i p.perturb).2}
def Hy(t:C7)(p:JJ):t.advance p=step t.mask p:=by
 unfold advance step;split<;>rfl
def Rx(M i:Nat):FD M i-i<=9:=by
 unfold FD;split<;>lia
structure Fine(M:Nat)(p:JJ):Prop where
 more:p.more<=9
 i:p.i<=M
 j:p.j<=M
 jm:p.j+p.more<=M
 dummy:p.dummy=u9
def Xh(h:i<=M):i+(FD M i-i)<=M:=by
 unfold FD;split<;>lia
def Iw(M i p:Nat):(leap M i p).1<=M:=by
 unfold leap;have:=MZ (i*5+1+p / 32) (show 0<M+1 from xc);exact wu this
def Fine.step{M:Nat}{p:JJ}(h:Fine M p):Fine M (step M p):=by
 unfold SB.step;by_cases c:p.more>0
 .rw[vB c]
  have:=h.jm;have:=h.more;exact⟨by show p.more-1<=9;exact xP this,h.i,by show p.j+1<=M;lia,by show p.j+1+(p.more-1)<=M;lia,h.dummy⟩
 .rw[vA c]
  exact⟨Rx _ _,Iw _ _ _,Iw _ _ _,Xh (Iw _ _ _),h.dummy⟩
theorem Fine.iter{M:Nat}:∀(n:Nat) {p:JJ},Fine M p->Fine M (iter (SB.step M) n p)
 | 0,_,h=>h
 | n+1,_,h=>Fine.iter n h.step
def Fine.start(t:C7)(h:Int):Fine t.mask (t.probeStart h):=by
 have:=MZ (bits h) (show 0<t.mask+1 from xc);have hi:bits h%(t.mask+1)<=t.mask:=wu this;exact⟨Rx _ _,hi,hi,Xh hi,ξ⟩
theorem Zc{M:Nat}:∀(k:Nat) {p:JJ},p.more=k->∃q,SB.iter (step M) (k+1) p=q/\q.i=(leap M p.i p.perturb).1/\q.perturb=(leap M p.i p.perturb).2/\q.j=q.i/\q.more<=9
 | 0,p,e=>by
  refine⟨_,ξ,?_⟩;show(step M p).i=_/\(step M p).perturb=_/\(step M p).j=(step M p).i/\(step M p).more<=9;unfold step;rw[vA δ];exact⟨ξ,ξ,ξ,Rx _ _⟩
 | k+1,p,e=>by
  have hs:step M p={p with j:=p.j+1,more:=p.more-1}:=by unfold step;rw[vB δ]
  obtain⟨q,h1,h2⟩:=Zc (M:=M) k (p:=step M p) (by rw[hs];show p.more-1=k;lia);rw[hs] at h2;exact⟨q,h1,h2⟩
noncomputable def leaps(M:Nat):Nat->Nat×Nat->Nat×Nat:=SB.iter (λx=>leap M x.1 x.2)
theorem Nf{M:Nat}:∀(k:Nat) {p:JJ},p.more<=9->∃m,m<=10*k/\((SB.iter (step M) m p).i,(SB.iter (step M) m p).perturb)=leaps M k (p.i,p.perturb)/\(SB.iter (step M) m p).more<=9/\(0<k->(SB.iter (step M) m p).j=(SB.iter (step M) m p).i)
 | 0,p,h=>⟨0,wU,ξ,h,λz=>vF z wV⟩
 | k+1,p,h=>by
  obtain⟨q,e,q1,q2,q3,q4⟩:=Zc (M:=M) p.more (p:=p) rfl;obtain⟨m,hm,h1,h2,h3⟩:=Nf k q4;refine⟨(p.more+1)+m,δ,?_,?_,λ_=>?_⟩
  .rw[CZ,e,h1]
   show leaps M k (q.i,q.perturb)=leaps M k (leap M p.i p.perturb);rw[q1,q2]
  .rw[CZ,e];exact h2
  .rw[CZ,e]
   by_cases c:0<k
   .exact h3 c
   .have:k=0:=by lia
    subst this;have:m=0:=by lia
    subst this;exact q3
theorem Eu{M:Nat}:∀(k:Nat) (x:Nat×Nat),(leaps M k x).2=x.2 / 32 ^ k
 | 0,x=>by simp[leaps,SB.iter]
 | k+1,x=>by
  show(leaps M k (leap M x.1 x.2)).2=_;rw[Eu k];show x.2 / 32 / 32 ^ k=_;rw[Nat.div_div_eq_div_mul,MY,Nat.mul_comm]
noncomputable def lc(n i:Nat):Nat:=(i*5+1)%n
theorem Ia{M:Nat}:∀(k i:Nat),leaps M k (i,0)=(SB.iter (lc (M+1)) k i,0)
 | 0,i=>rfl
 | k+1,i=>by
  show leaps M k (leap M i 0)=_;have:leap M i 0=(lc (M+1) i,0):=by unfold leap lc;simp
  rw[this,Ia k];rfl
def cyc8:∀j,j<8->∃k,k<8/\SB.iter (lc 8) k 0=j:=ψ
def cyc32:∀j,j<32->∃k,k<32/\SB.iter (lc 32) k 0=j:=ψ
def cyc128:∀j,j<128->∃k,k<128/\SB.iter (lc 128) k 0=j:=ψ
noncomputable def iters(f:Nat->Nat):Nat->Nat->vI
 | 0,_=>[]
 | n+1,x=>x::iters f n (f x)
theorem UW(f:Nat->Nat):∀(n x j:Nat),j∈iters f n x->∃k,k<n/\SB.iter f k x=j
 | 0,x,j,h=>by cases h
 | n+1,x,j,h=>by
  rcases AY.mp h with rfl| h
  .exact⟨0,OW _,ξ⟩
  .obtain⟨k,hk,e⟩:=UW f n (f x) j h
   exact⟨k+1,Nat.succ_lt_succ hk,e⟩
def all512:((AX 512).all λj=>(iters (lc 512) 512 0).contains j)=true:=ψ
def cyc512:∀j,j<512->∃k,k<512/\SB.iter (lc 512) k 0=j:=λj hj=>UW _ _ _ _ (List.contains_iff_mem.mp (E8.mp all512 j (AU.mpr hj)))
def cyc(h:Mask M):(∀j,j<M+1->∃k,k<M+1/\SB.iter (lc (M+1)) k 0=j)/\SB.iter (lc (M+1)) (M+1) 0=0:=by
 rcases h with rfl| rfl| rfl| rfl
 .exact⟨cyc8,ψ⟩
 .exact⟨cyc32,ψ⟩
 .exact⟨cyc128,ψ⟩
 .exact⟨cyc512,ψ⟩
def ZL(h:Mask M)(hi:i<M+1)(hj:j<M+1):∃k,k<M+1/\SB.iter (lc (M+1)) k i=j:=by
 obtain⟨c1,c2⟩:=cyc h;obtain⟨a,ha,ea⟩:=c1 i hi;obtain⟨b,hb,eb⟩:=c1 j hj;by_cases c:a<=b
 .refine⟨b-a,xK hb,?_⟩
  rw[<- ea,<- CZ,show a+(b-a)=b from ww c,eb]
 .refine⟨M+1+b-a,δ,?_⟩
  rw[<- ea,<- CZ,show a+(M+1+b-a)=(M+1)+b by lia,CZ,c2,eb]
theorem Bo:∀{l₁ l₂:vI},l₁.Nodup->(∀x∈l₁,x∈l₂)->l₁.length<=l₂.length
 | [],_,_,_=>Bz _
 | a::t,l₂,nd,hs=>by
  obtain⟨n1,n2⟩:=DV.mp nd;have ha:=hs a AF;have hl:=G4 ha;have ih:=Bo (l₂:=l₂.erase a) n2 λx hx=>(IL (λ(e:x=a)=>n1 (by rw[<- e];exact hx))).mpr (hs x (AJ _ hx));have:0<l₂.length:=HE ha;simp;exact yd ih hl this
def AGH{place:Array Nat}(h:place.size<=M):∃j,j<M+1/\j∉place.toList:=by
 refine Ct λc=>?_;have all:∀j∈AX (M+1),j∈place.toList:=λj hj=>Ct λz=>c ⟨j,AU.mp hj,z⟩;have:=Bo Jn all;rw[B6,AZ] at this;lia
def Qz(h:Int):bits h<2 ^ 64:=by
 unfold bits;have h1:=D6 h (show(2 ^ 64:Int)≠0 by decide);have h2:=Da h (show(0:Int)<2 ^ 64 by decide);lia
theorem Nz{M:Nat}:∀(n:Nat) (p:JJ),(SB.iter (step M) n p).perturb<=p.perturb
 | 0,_=>AI _
 | n+1,p=>by
  refine BQ (Nz n (step M p)) ?_;unfold step;split
  .exact AI _
  .exact Nat.div_le_self _ _
def QG{place:Array Nat}(hM:Mask M)(hs:place.size<=M){p:JJ}(hp:Fine M p)(hb:p.perturb<2 ^ 64):∃m,m<10*OM M/\(SB.iter (step M) m p).j∉place.toList:=by
 obtain⟨j,hj,nj⟩:=AGH hs;obtain⟨m1,hm1,e1,k1,_⟩:=Nf (M:=M) 13 (p:=p) hp.more;generalize hq:SB.iter (step M) m1 p=q at *;have fq:Fine M q:=by rw[<- hq];exact hp.iter m1
 have pz:q.perturb=0:=by
  have h2:=congrArg Prod.snd e1;rw[Eu] at h2;have h3:q.perturb=p.perturb / 32 ^ 13:=h2;rw[h3];exact U5 (Cn hb ζ)
 obtain⟨k,hk,ek⟩:=ZL hM (i:=lc (M+1) q.i) (j:=j) (MZ _ (Y0 _)) hj;obtain⟨m2,hm2,e2,_,k2⟩:=Nf (M:=M) (k+1) (p:=q) fq.more;refine⟨m1+m2,?_,?_⟩
 .unfold OM
  lia
 .rw[CZ,hq,k2 (Y0 _)]
  have h1:=congrArg Prod.fst e2;rw[pz,Ia] at h1;have h2:(SB.iter (step M) m2 q).i=SB.iter (lc (M+1)) k (lc (M+1) q.i):=h1;rw[h2,ek];exact nj
theorem Ng{xs:Array Nat}{j:Nat}(so:xs.toList.Pairwise (· < ·)):∀(bi lo hi:Nat),lo<=hi->hi<=xs.size->hi-lo<=bi->(∀k,k<lo->xs.getD k j<j)->(∀k,hi<=k->k<xs.size->j<=xs.getD k j) ->
  (∀k,k<below.go xs j bi lo hi->xs.getD k j<j)/\(∀k,below.go xs j bi lo hi<=k->k<xs.size->j<=xs.getD k j)/\below.go xs j bi lo hi<=xs.size
 | 0,lo,hi,h1,h2,h3,h4,h5=>by
  have:lo=hi:=by lia
  subst this;exact⟨h4,h5,h2⟩
 | bi+1,lo,hi,h1,h2,h3,h4,h5=>by
  unfold below.go;by_cases c:lo<hi
  .rw[vB c]
   have hm:(lo+hi) / 2<xs.size:=by lia
   have so':=B7.mp so;have gd:∀k,k<xs.size->xs.getD k j=xs.toList.getD k j:=λk hk=>by simp[Eg,hk]
   by_cases d:xs.getD ((lo+hi) / 2) j<j
   .simp only[vB d]
    refine Ng so bi _ hi δ h2 δ (λk hk=>?_) h5;by_cases e:k=(lo+hi) / 2
    .rw[e];exact d
    .have bp:k<(lo+hi) / 2:=xJ hk e
     have z:=so' k ((lo+hi) / 2) (by simpa using(show k<xs.size from vw bp hm)) (by simpa using hm) bp;have g1:xs.getD k j=xs[k]'(vw bp hm):=by simp[Eg,show k<xs.size from vw bp hm]
     have g2:xs.getD ((lo+hi) / 2) j=xs[(lo+hi) / 2]'hm:=by simp[Eg,hm]
     rw[g2] at d;rw[g1];simp at z;exact vw z d
   .simp only[vA d]
    refine Ng so bi lo _ δ (w6 hm) δ h4 (λk hk kB=>?_);by_cases e:k=(lo+hi) / 2
    .rw[e];exact vo d
    .have z:=so' ((lo+hi) / 2) k (by simpa using hm) (by simpa using kB) δ
     have g1:xs.getD k j=xs[k]'kB:=by simp[Eg,kB]
     have g2:xs.getD ((lo+hi) / 2) j=xs[(lo+hi) / 2]'hm:=by simp[Eg,hm]
     rw[g2] at d;rw[g1];simp at z;lia
  .rw[vA c]
   have:lo=hi:=wB h1 c;subst this;exact⟨h4,h5,h2⟩
def FZ{xs:Array Nat}(so:xs.toList.Pairwise (· < ·)):(∀k,k<below xs j->xs.getD k j<j)/\(∀k,below xs j<=k->k<xs.size->j<=xs.getD k j)/\below xs j<=xs.size :=
 Ng so xs.size 0 xs.size (Bz _) (AI _) (AI _) (λk hk=>vF hk wa) (λk h1 h2=>vF h2 (v9 h1))
def below_at{xs:Array Nat}(so:xs.toList.Pairwise (· < ·))(h:j∈xs.toList):xs[below xs j]?=u8 j:=by
 obtain⟨b1,b2,b3⟩:=FZ (j:=j) so;obtain⟨k,hk,e⟩:=CS.mp h;have bp:k<xs.size:=by simpa using hk
 have e':xs[k]=j:=by simpa using e
 have g1:xs.getD k j=j:=by simp[Eg,bp,e']
 have h1:below xs j<=k:=by
  refine Ct λc=>?_;have:=b1 k (xh c);exact wj this g1
 by_cases c:below xs j=k
 .rw[c,BC bp,e']
 .have hb:below xs j<xs.size:=v6 h1 bp
  have z:=B7.mp so (below xs j) k (by simpa using hb) hk (xw h1 c);have b:=b2 (below xs j) (AI _) hb;have g2:xs.getD (below xs j) j=xs[below xs j]'hb:=by simp[Eg,hb]
  rw[g2] at b;simp at z;lia
structure Tab(t:C7):Prop where
 mask:Mask t.mask
 none:t.dummies=#[]
 size:t.place.size<=t.mask
 le:∀j∈t.place.toList,j<=t.mask
 rise:t.place.toList.Pairwise (· < ·)
def slot_of{t:C7}(T:Tab t)(j:Nat):(t.slot j=.empty/\j∉t.place.toList)\/∃i,t.slot j=.live i/\t.place[i]?=u8 j:=by
 unfold slot;by_cases c:t.place[below t.place j]?=u8 j
 .right
  exact⟨below t.place j,by simp[c],c⟩
 .left
  have hd:has t.dummies j=false:=by rw[T.none];unfold has;simp
  refine⟨by simp[c,hd],λh=>c (below_at T.rise h)⟩
def way(t:C7)(p:JJ)(m:Nat):Nat:=(SB.iter (step t.mask) m p).j
def Vp(t:C7)(p:JJ)(m:Nat):way t (step t.mask p) m=way t p (m+1):=rfl
theorem AGN{t:C7}(T:Tab t){hashAt:Nat->Int}{h:Int}:∀(bi:Nat) (p:JJ),p.dummy=none->(∃m,m<bi/\way t p m∉t.place.toList) ->
  ∃m,(∀m',m'<m->∃i,t.place[i]?=u8 (way t p m')/\hashAt i≠h) /\
   (
    (way t p m∉t.place.toList/\NE t hashAt h bi p=u8 (.empty (way t p m) u9)) \/
    ∃i,t.place[i]?=u8 (way t p m)/\t.slot (way t p m)=.live i/\hashAt i=h/\NE t hashAt h bi p=u8 (.candidate (way t p m) i (SB.iter (step t.mask) (m+1) p)))
 | 0,p,_,⟨m,hm,_⟩=>vF hm wa
 | bi+1,p,hd,⟨m0,hm0,n0⟩=>by
  unfold NE;rcases slot_of T p.j with⟨e,ne⟩| ⟨i,e,pi⟩
  .refine⟨0,λm' h=>vF h wa,.inl ⟨ne,?_⟩⟩
   rw[e];show u8 (Met.empty p.j p.dummy)=_;rw[hd];rfl
  .by_cases c:hashAt i=h
   .refine⟨0,λm' h=>vF h wa,.inr ⟨i,pi,e,c,?_⟩⟩
    rw[e];simp only[c,beq_self_eq_true,if_true];rw[Hy];rfl
   .have m1:m0≠0:=λz=>by
     subst z;exact n0 (by rw[DD];exact⟨i,by rw[B4];exact pi⟩)
    have eh:(step t.mask p).dummy=u9:=by unfold step;split<;>exact hd
    obtain⟨m,h1,h2⟩:=AGN T (hashAt:=hashAt) (h:=h) bi (step t.mask p) eh ⟨m0-1,yH hm0 m1,by rw[Vp,show m0-1+1=m0 by lia];exact n0⟩;have ee:NE t hashAt h (bi+1) p=NE t hashAt h bi (step t.mask p):=by
     show(match t.slot p.j with| .empty=>u8 (Met.empty p.j p.dummy)| .dummy=>NE t hashAt h bi (t.advance {p with dummy:=u8 p.j})| .live i=>if hashAt i==h then u8 (.candidate p.j i (t.advance p)) else NE t hashAt h bi (t.advance p))=_;rw[e];have cb:(hashAt i==h)=false:=by simpa using c
     simp only[cb,BY,if_false];rw[Hy]
    refine⟨m+1,λm' dA=>?_,?_⟩
    .by_cases z:m'=0
     .subst z;exact⟨i,pi,c⟩
     .have:=h1 (m'-1) δ
      rw[Vp,show m'-1+1=m' by lia] at this;exact this
    .rw[e]
     have cb:(hashAt i==h)=false:=by simpa using c
     simp only[cb,BY,if_false,Hy];exact h2
def Loc(t:C7)(hs:vG):Prop:=∀(bj j:Nat) (h:Int),t.place[bj]?=u8 j->hs[bj]?=u8 h->∃m,way t (t.probeStart h) m=j/\∀m',m'<m->way t (t.probeStart h) m'∈t.place.toList
def ABp{t:C7}(T:Tab t){hashAt:Nat->Int}{h:Int}{p:JJ}(hp:Fine t.mask p)(hb:p.perturb<2 ^ 64) :
  ∃m,(∀m',m'<m->∃i,t.place[i]?=u8 (way t p m')/\hashAt i≠h) /\
   (
    (way t p m∉t.place.toList/\t.probe hashAt h p=u8 (.empty (way t p m) u9)) \/
    ∃i,t.place[i]?=u8 (way t p m)/\t.slot (way t p m)=.live i/\hashAt i=h/\t.probe hashAt h p=u8 (.candidate (way t p m) i (SB.iter (step t.mask) (m+1) p))) :=
 AGN T _ p hp.dummy (QG T.mask T.size hp hb)
def BX(xs:Array α)(p:Nat)(x:α):(EK xs p x).toList=xs.toList.take p++[x]++xs.toList.drop p:=by
 unfold EK;simp;exact Mc θ
structure Put(t:C7)(j:Nat):Prop where
 le:j<=t.mask
 new:j∉t.place.toList
 room:t.place.size+1<=t.mask
def Jv{t:C7}(T:Tab t):(t.put j).1={t with place:=EK t.place (below t.place j) j}/\(t.put j).2=below t.place j:=by
 unfold put;have hd:has t.dummies j=false:=by rw[T.none];unfold has;simp
 simp[hd]
def AGJ{t:C7}(T:Tab t)(P:Put t j):Tab (t.put j).1:=by
 obtain⟨e,_⟩:=Jv T (j:=j);obtain⟨b1,b2,b3⟩:=FZ (j:=j) T.rise;rw[e];refine⟨T.mask,T.none,?_,λk hk=>?_,?_⟩
 .show(EK t.place (below t.place j) j).size<=t.mask
  have:=congrArg Fu (BX t.place (below t.place j) j);simp at this;have:=P.room;lia
 .have bp:=hk
  rw[BX] at bp;rcases Cf.mp bp with bp| bp
  .rcases Cf.mp bp with bp| bp
   .exact T.le k (M0 bp)
   .rw[B8.mp bp];exact P.le
  .exact T.le k (R9 bp)
 .rw[BX]
  have so:=T.rise;have get:∀k (hk:k<t.place.size),t.place.getD k j=t.place.toList[k]'(by simpa using hk):=λk hk=>by simp[Eg,hk]
  refine C4.mpr ⟨C4.mpr ⟨so.sublist (Kk _ _),JU _ _,λa ha b hb=>?_⟩,so.sublist (ID _ _),λa ha b hb=>?_⟩
  .rw[B8.mp hb]
   obtain⟨k,hk,rfl⟩:=CS.mp ha;rw[BV] at hk;have kB:k<t.place.size:=by simp at hk;exact yv hk
   have:=b1 k (xj hk);rw[get k kB] at this;rw[Kt];exact this
  .obtain⟨k,hk,rfl⟩:=CS.mp hb
   rw[IU] at hk;have kB:below t.place j+k<t.place.size:=by simp at hk;lia
   rw[OC];have z:=b2 (below t.place j+k) vq kB;rw[get _ kB] at z;have ne:t.place.toList[below t.place j+k]'(by simpa using kB)≠j:=λe=>P.new (e ▸ Fa _);rcases Cf.mp ha with ha| ha
   .obtain⟨i,hi,rfl⟩:=CS.mp ha
    rw[BV] at hi;rw[Kt];exact B7.mp so i (below t.place j+k) (yv hi) (by simpa using kB) δ
   .rw[B8.mp ha]
    lia
def AFi{t:C7}(T:Tab t)(hl:hs.length=t.place.size)(L:Loc t hs){h:Int}(hm:∀m',m'<m->way t (t.probeStart h) m'∈t.place.toList) :
  Loc (t.put (way t (t.probeStart h) m)).1 (hs.take (t.put (way t (t.probeStart h) m)).2++[h]++hs.drop (t.put (way t (t.probeStart h) m)).2):=by
 generalize hj:way t (t.probeStart h) m=j;obtain⟨e,e2⟩:=Jv T (j:=j);obtain⟨_,_,b3⟩:=FZ (j:=j) T.rise;rw[e,e2];generalize hp:below t.place j=p at *;have mem:∀k,k∈t.place.toList->k∈(EK t.place p j).toList:=λk hk=>by
  rw[BX];rw[<- F6 p t.place.toList] at hk;rcases Cf.mp hk with hk| hk
  .exact F9 _ (F9 _ hk)
  .exact Co _ hk
 have memj:j∈(EK t.place p j).toList:=by
  rw[BX];exact F9 _ (Co _ (B8.mpr rfl))
 intro bj k h' hk hh;have bp:(EK t.place p j).toList[bj]?=u8 k:=by simpa using hk
 rw[BX] at bp;have wy:∀(q:JJ) m,way {t with place:=EK t.place p j} q m=way t q m:=λ_ _=>rfl;have ps:∀h,({t with place:=EK t.place p j}:C7).probeStart h=t.probeStart h:=λ_=>rfl;have lt:(t.place.toList.take p).length=p:=by rw[BV,AZ];lia
 have lh:(hs.take p).length=p:=by rw[BV];lia
 rw[CH] at bp hh;have bv:∀i,t.place.toList[i]?=u8 k->hs[i]?=u8 h'->∃m,way {t with place:=EK t.place p j} (({t with place:=EK t.place p j}:C7).probeStart h') m=k/\∀m',m'<m->way {t with place:=EK t.place p j} (({t with place:=EK t.place p j}:C7).probeStart h') m'∈({t with place:=EK t.place p j}:C7).place.toList:=λi a b=>by
  obtain⟨m,x,y⟩:=L i k h' (by rw[<- B4];exact a) b;exact⟨m,x,λm' dA=>mem _ (y m' dA)⟩
 by_cases c:bj<p
 .rw[BB δ,G1 c] at bp hh
  exact bv bj bp hh
 .rw[Cc δ] at bp hh
  rw[lt] at bp;rw[lh] at hh;by_cases d:bj=p
  .subst d
   simp at bp hh;subst bp hh;exact⟨m,hj,λm' dA=>mem _ (hm m' dA)⟩
  .rw[Cc (by simp;lia)] at bp hh
   simp only[DC,Tk] at bp hh;rw[show p+(bj-p-1)=bj-1 by lia] at bp hh;exact bv (bj-1) bp hh
noncomputable def CN(M i perturb:Nat):JJ:={j:=i,more:=FD M i-i,i:=i,perturb:=perturb,dummy:=u9}
theorem Ly{M:Nat}:∀(m:Nat) (p:JJ),m<=p.more->SB.iter (step M) m p={p with j:=p.j+m,more:=p.more-m}
 | 0,p,_=>by cases p;rfl
 | m+1,p,h=>by
  have hs:step M p={p with j:=p.j+1,more:=p.more-1}:=by unfold step;rw[vB δ]
  show SB.iter (step M) m (step M p)=_;rw[Ly m (step M p) (by rw[hs];show m<=p.more-1;lia),hs];rw[show p.j+1+m=p.j+(m+1) from wz,show p.more-1-m=p.more-(m+1) by lia]
def XC{pe:Nat}:SB.iter (step M) (FD M i-i+1) (CN M i pe)=CN M (leap M i pe).1 (leap M i pe).2:=by
 rw[Zz,Ly (FD M i-i) (CN M i pe) (AI _)];unfold step;rw[vA (by show ¬ (FD M i-i-(FD M i-i)>0);lia)];rfl
def ABQ(M i:Nat):i<=FD M i:=by
 unfold FD;split<;>lia
def wayM(M:Nat)(p:JJ)(m:Nat):Nat:=(SB.iter (step M) m p).j
theorem Yt{M:Nat}{owner:Array vT}:∀(bi i pe:Nat),i<=M->(∃k,k<bi/\owner.getD (leaps M k (i,pe)).1 (u8 0)=u9) ->
  ∃m,K8 M owner bi i pe=u8 (wayM M (CN M i pe) m)/\owner.getD (wayM M (CN M i pe) m) (u8 0)=u9/\∀m',m'<m->(owner.getD (wayM M (CN M i pe) m') (u8 0)).isSome=true
 | 0,i,pe,_,⟨k,hk,_⟩=>vF hk wa
 | bi+1,i,pe,hi,⟨k,hk,nk⟩=>by
  have ge:=ABQ M i;have wy:∀m,m<=FD M i-i->wayM M (CN M i pe) m=i+m:=λm hm=>by
   unfold wayM;rw[Ly m (CN M i pe) hm];rfl
  unfold K8;cases hf:(AX (FD M i+1-i)).find? λk=>(owner.getD (i+k) (u8 0)).isNone with
  | some k' =>
   have h1:=List.find?_some hf;have h2:=AU.mp (List.mem_of_find?_eq_some hf);refine⟨k',?_,?_,λm' dA=>?_⟩
   .rw[wy k' (xQ h2)]
   .rw[wy k' (xQ h2)]
    simpa using h1
   .rw[wy m' δ]
    obtain⟨_,as,bs,e,hb⟩:=List.find?_eq_some_iff_append.mp hf;have hl:as.length=k':=by
     have:(AX (FD M i+1-i))[as.length]?=u8 k':=by rw[e];simp
     rw[EX (by have:=congrArg Fu e;simp at this;lia)] at this;exact AM this
    have hm:m'∈as:=by
     have:(AX (FD M i+1-i))[m']?=u8 m':=EX (vw dA h2);rw[e,BB (dl dA hl)] at this;exact By this
    have:=hb m' hm;simpa [ON] using this
  | none =>
   have hn:=List.find?_eq_none.mp hf;have all:∀m,m<=FD M i-i->(owner.getD (i+m) (u8 0)).isSome=true:=λm hm=>by
    have:=hn m (AU.mpr δ);simpa [ON] using this
   have k0:k≠0:=λz=>by
    subst z;have:=all 0 (Bz _);have nk':owner.getD i (u8 0)=u9:=nk;rw[Ta,nk'] at this;cases this
   obtain⟨m,h1,h2,h3⟩:=Yt bi (leap M i pe).1 (leap M i pe).2 (Iw _ _ _) ⟨k-1,yH hk k0,by
    have e:leaps M k (i,pe)=leaps M (k-1) (leap M i pe):=by
     obtain⟨k',rfl⟩:∃k',k=k'+1:=⟨k-1,δ⟩;rfl
    rw[e] at nk;exact nk⟩
   have sh:∀m,wayM M (CN M (leap M i pe).1 (leap M i pe).2) m=wayM M (CN M i pe) (FD M i-i+1+m):=λm=>by
    unfold wayM;rw[CZ,XC]
   rw[sh] at h1 h2;refine⟨FD M i-i+1+m,h1,h2,λm' dA=>?_⟩;by_cases c:m'<=FD M i-i
   .rw[wy m' c]
    exact all m' c
   .have:=h3 (m'-(FD M i-i+1)) δ
    rw[sh,show FD M i-i+1+(m'-(FD M i-i+1))=m' by lia] at this;exact this
structure Own(M:Nat)(owner:Array vT)(hs:vG):Prop where
 size:owner.size=M+1
 has:∀bj,bj<hs.length->∃j:Nat,owner[j]?=u8 (u8 bj)
 at_:∀(j bj:Nat),owner[j]?=u8 (u8 bj)->bj<hs.length/\∃m,wayM M (CN M (bits (hs.getD bj 0)%(M+1)) (bits (hs.getD bj 0))) m=j/\∀m',m'<m->(owner.getD (wayM M (CN M (bits (hs.getD bj 0)%(M+1)) (bits (hs.getD bj 0))) m') (u8 0)).isSome=true
 one:∀(j j' bj:Nat),owner[j]?=u8 (u8 bj)->owner[j']?=u8 (u8 bj)->j=j'
def Own.start(M:Nat):Own M (VU (M+1) u9) []:=by
 have no:∀(j bj:Nat),¬ (VU (M+1) (u9:vT))[j]?=u8 (u8 bj):=λj bj e=>by
  rw[Array.getElem?_replicate] at e;split at e<;>cases e
 exact⟨Array.size_replicate ..,λbj h=>vF h θ,λj bj e=>vF e (no j bj),λj _ bj e=>vF e (no j bj)⟩
def Own.free(O:Own M owner hs)(h:hs.length<=M):∃j,j<M+1/\owner.getD j (u8 0)=u9:=by
 refine Ct λc=>?_;have all:∀j,j<M+1->∃bj,owner[j]?=u8 (u8 bj):=λj hj=>by
  have b6:j<owner.size:=by rw[O.size];exact hj
  cases e:owner[j] with
  | none=>exact vF ⟨j,hj,by simp[Eg,b6,e]⟩ c
  | some bj=>exact⟨bj,by rw[BC b6,e]⟩
 have key:∀n,n<=M+1->∃l:vI,l.length=n/\l.Nodup/\∀x∈l,∃j,j<n/\owner[j]?=u8 (u8 x):=by
  intro n
  induction n with
  | zero=>exact λ_=>⟨[],ξ,Q4,λx hx=>by cases hx⟩
  | succ n ih =>
   intro hn;obtain⟨l,l1,l2,l3⟩:=ih (wc hn);obtain⟨bj,e⟩:=all n (yI hn);refine⟨bj::l,by simp[l1],DV.mpr ⟨λhm=>?_,l2⟩,λx hx=>?_⟩
   .obtain⟨j,hj,ej⟩:=l3 bj hm
    have:=O.one _ _ _ ej e;exact wj hj this
   .rcases AY.mp hx with rfl| hx
    .exact⟨n,wR,e⟩
    .obtain⟨j,hj,ej⟩:=l3 x hx
     exact⟨j,wb hj,ej⟩
 obtain⟨l,l1,l2,l3⟩:=key (M+1) (AI _);have:=Bo (l₂:=AX hs.length) l2 λx hx=>by
  obtain⟨j,_,ej⟩:=l3 x hx;exact AU.mpr (O.at_ j x ej).1
 rw[B6] at this;lia
theorem VB{M:Nat}:∀(k:Nat) (x:Nat×Nat),x.1<=M->(leaps M k x).1<=M
 | 0,x,h=>h
 | k+1,x,h=>VB k (leap M x.1 x.2) (Iw _ _ _)
def ABG(a b:Nat)(x:Nat×Nat):leaps M (a+b) x=leaps M b (leaps M a x):=CZ _ a b x
def Own.next(hM:Mask M)(O:Own M owner hs)(hl:hs.length<=M)(h:Int) :
  ∃j,K8 M owner (OM M) (bits h%(M+1)) (bits h)=u8 j/\Own M (owner.setIfInBounds j (u8 hs.length)) (hs++[h]):=by
 obtain⟨f,hf,nf⟩:=O.free hl;have hi:bits h%(M+1)<=M:=by
  have:=MZ (bits h) (show 0<M+1 from xc);exact wu this
 have reach:∃k,k<OM M/\owner.getD (leaps M k (bits h%(M+1),bits h)).1 (u8 0)=u9:=by
  have p13:(leaps M 13 (bits h%(M+1),bits h)).2=0:=by
   rw[Eu];exact U5 (Cn (Qz h) ζ)
  have i13:=VB (M:=M) 13 (bits h%(M+1),bits h) hi;obtain⟨k,hk,ek⟩:=ZL hM (i:=(leaps M 13 (bits h%(M+1),bits h)).1) (j:=f) (xO i13) hf;refine⟨13+k,by unfold OM;lia,?_⟩;have e:leaps M 13 (bits h%(M+1),bits h)=((leaps M 13 (bits h%(M+1),bits h)).1,0):=K0 rfl p13;rw[ABG,e,Ia,ek];exact nf
 obtain⟨m,h1,h2,h3⟩:=Yt (M:=M) (owner:=owner) (OM M) _ (bits h) hi reach;refine⟨_,h1,?_⟩;generalize hj:wayM M (CN M (bits h%(M+1)) (bits h)) m=j at h2;have hjs:j<owner.size:=by
  refine Ct λc=>?_;have:owner.getD j (u8 0)=u8 0:=by simp[Eg,c]
  rw[this] at h2;cases h2
 have hjn:owner[j]?=u8 u9:=by
  rw[BC hjs];simp[Eg,hjs] at h2;rw[h2]
 have get:∀k,(owner.setIfInBounds j (u8 hs.length))[k]?=if k=j then u8 (u8 hs.length) else owner[k]?:=λk=>by
  rw[Array.getElem?_setIfInBounds];by_cases c:j=k
  .subst c
   simp[hjs]
  .rw[vA c,vA (BU c)]
 have some_of:∀k,(owner.getD k (u8 0)).isSome=true->((owner.setIfInBounds j (u8 hs.length)).getD k (u8 0)).isSome=true:=λk hk=>by
  rw[HM,get];split
  .rfl
  .rw[HM] at hk
   exact hk
 have gd:∀bj,bj<hs.length->(hs++[h]).getD bj 0=hs.getD bj 0:=λbj hi=>by
  rw[AD,AD,BB hi]
 have gl:(hs++[h]).getD hs.length 0=h:=by rw[AD];simp
 refine⟨by rw[JA];exact O.size,λbj hi=>?_,λk bj e=>?_,λk k' bj e e'=>?_⟩
 .by_cases c:bj<hs.length
  .obtain⟨k,ek⟩:=O.has bj c
   refine⟨k,?_⟩;rw[get,vA (λz=>by rw[z,hjn] at ek;cases ek)];exact ek
  .have:bj=hs.length:=by simp at hi;lia
   exact⟨j,by rw[get,vB rfl,this]⟩
 .rw[get] at e
  by_cases c:k=j
  .rw[vB c] at e
   have:hs.length=bj:=by simpa using e
   subst this;refine⟨θ,m,?_,λm' dA=>?_⟩
   .rw[gl,hj,c]
   .rw[gl]
    exact some_of _ (h3 m' dA)
  .rw[vA c] at e
   obtain⟨i1,m1,w1,w2⟩:=O.at_ k bj e;refine⟨by simp;lia,m1,?_,λm' dA=>?_⟩
   .rw[gd bj i1];exact w1
   .rw[gd bj i1];exact some_of _ (w2 m' dA)
 .rw[get] at e e'
  by_cases c:k=j
  .by_cases c':k'=j
   .rw[c,c']
   .rw[vB c] at e
    rw[vA c'] at e';have:hs.length=bj:=by simpa using e
    have:=(O.at_ k' bj e').1;lia
  .by_cases c':k'=j
   .rw[vA c] at e
    rw[vB c'] at e';have:hs.length=bj:=by simpa using e'
    have:=(O.at_ k bj e).1;lia
   .rw[vA c] at e
    rw[vA c'] at e';exact O.one _ _ _ e e'
set_option tactic.hygienic true in
theorem ADt(hM:Mask M)(h:hashes.size<=M):∃owner,layClean M hashes=u8 owner/\Own M owner hashes.toList:=by
 unfold layClean;rw[<- Array.foldl_toList];have key:∀(l done:vG) (owner:Array vT),Own M owner done->done.length+l.length<=M ->
   ∃du,(l.foldl (λacc h=>do
    let (owner,k) <- acc
    let j <- K8 M owner (OM M) (bits h%(M+1)) (bits h)
    pure (owner.setIfInBounds j (u8 k),k+1)) (u8 (owner,done.length)))=u8 (du,done.length+l.length)/\Own M du (done++l):=by
  intro l
  induction l with
  | nil=>exact λdone owner O _=>⟨owner,ξ,by rw[B5];exact O⟩
  | cons a t ih =>
   intro done owner O hl;simp at hl;obtain⟨j,ej,O'⟩:=O.next hM (wc hl) a
   obtain⟨du,e,O''⟩:=ih (done++[a]) _ O' (by simp;lia);refine⟨du,?_,by simpa using O''⟩;rw[P4];have:(do
    let (owner,k) <- u8 (owner,done.length)
    let j <- K8 M owner (OM M) (bits a%(M+1)) (bits a)
    pure (owner.setIfInBounds j (u8 k),k+1))=u8 (owner.setIfInBounds j (u8 done.length),done.length+1):=by
    show(do
     let j <- K8 M owner (OM M) (bits a%(M+1)) (bits a)
     pure (owner.setIfInBounds j (u8 done.length),done.length+1))=_
    rw[ej];rfl
   rw[this];rw[show(done++[a]).length=done.length+1 by simp] at e;rw[e];simp;exact wz
 obtain⟨du,e,O⟩:=key hashes.toList [] _ (Own.start M) (by simpa using h);refine⟨du,?_,by simpa using O⟩;have e':=congrArg (Option.map Prod.fst) e;exact e'
noncomputable def pairs(owner:Array vT)(l:vI):List (Nat×Nat):=l.filterMap λj=>(owner.getD j u9).map (j,·)
def Jl{l:vI}{bj:Nat}:(j,bj)∈pairs owner l↔j∈l/\owner.getD j u9=u8 bj:=by
 unfold pairs;rw[NN];constructor
 .rintro⟨k,hk,e⟩
  cases o:owner.getD k u9 with
  | none=>rw[o] at e;cases e
  | some x =>
   rw[o] at e;have e':=AM e;cases e';exact⟨hk,o⟩
 .rintro⟨hj,e⟩
  exact⟨j,hj,by rw[e];rfl⟩
theorem Lk{owner:Array vT}:∀{l:vI},l.Pairwise (· < ·)->((pairs owner l).map (·.1)).Pairwise (· < ·)
 | [],_=>.nil
 | a::t,h=>by
  obtain⟨h1,h2⟩:=B0.mp h;have ih:=Lk (owner:=owner) h2;unfold pairs;rw[JI];cases o:owner.getD a u9 with
  | none=>exact ih
  | some x =>
   show((a,x)::pairs owner t|>.map (·.1)).Pairwise (· < ·);rw[BO];refine B0.mpr ⟨λb hb=>?_,ih⟩;obtain⟨⟨b',i⟩,hm,rfl⟩:=A1.mp hb;exact h1 b' (Jl.mp hm).1
theorem Gi:∀{l₁ l₂:vI},l₁.Nodup->(∀x∈l₁,x∈l₂)->l₂.length<=l₁.length->l₁.Perm l₂
 | [],l₂,_,_,h=>by
  have:l₂=[]:=CU.mp (by simpa using h);rw[this]
 | a::t,l₂,nd,hs,h=>by
  obtain⟨n1,n2⟩:=DV.mp nd;have ha:=hs a AF;have hp:=List.perm_cons_erase ha;have hl:=G4 ha;have ih:=Gi (l₂:=l₂.erase a) n2 (λx hx=>(IL (λ(e:x=a)=>n1 (by rw[<- e];exact hx))).mpr (hs x (AJ _ hx))) (by simp at h;exact yw hl h);exact(NF a ih).trans hp.symm
def AFt(hM:Mask M)(h:hashes.size<=M)(finger moves:Nat)(led plain:Bool) :
  ∃(place bm:Array Nat),laid M finger moves led plain hashes=u8 ({mask:=M,place:=place,dummies:=#[],finger:=finger,led:=led,moves:=moves,plain:=plain},bm) /\
   Tab {mask:=M,place:=place,dummies:=#[],finger:=finger,led:=led,moves:=moves,plain:=plain}/\place.size=hashes.size/\bm.toList.Perm (AX hashes.size) /\
   Loc {mask:=M,place:=place,dummies:=#[],finger:=finger,led:=led,moves:=moves,plain:=plain} (bm.toList.map λi=>hashes.toList.getD i 0):=by
 obtain⟨owner,e,O⟩:=ADt hM h;have gd:∀j bj,owner.getD j u9=u8 bj↔owner[j]?=u8 (u8 bj):=λj bj=>by
  rw[HM];cases o:owner[j]? with
  | none=>simp
  | some x=>simp
 have rl:=Hn (n:=M+1);have rise:=Lk (owner:=owner) rl;have mem:∀j bj,(j,bj)∈pairs owner (AX (M+1))↔owner[j]?=u8 (u8 bj):=λj bj=>by
  rw[Jl,gd];refine⟨λz=>z.2,λz=>⟨AU.mpr ?_,z⟩⟩;have:=(CL.mp z).1;rw[O.size] at this;exact this
 have nd:((pairs owner (AX (M+1))).map (·.2)).Nodup:=by
  have r:=Cb.mp rise;refine Cb.mpr (r.imp_of_mem λ{a b} ha hb lt z=>?_);obtain⟨a1,a2⟩:=a;obtain⟨b1,b2⟩:=b;have z':=z;subst z';have:=O.one _ _ _ ((mem a1 a2).mp ha) ((mem b1 a2).mp hb);simp at lt;exact wj lt this
 have sub:∀x∈(pairs owner (AX (M+1))).map (·.2),x∈AX hashes.size:=λx hx=>by
  obtain⟨⟨j,i⟩,hm,rfl⟩:=A1.mp hx;have:=(O.at_ j i ((mem j i).mp hm)).1;exact AU.mpr (by simpa using this)
 have sup:∀x∈AX hashes.size,x∈(pairs owner (AX (M+1))).map (·.2):=λx hx=>by
  obtain⟨j,ej⟩:=O.has x (by simpa using hx);exact A1.mpr ⟨(j,x),(mem j x).mpr ej,ξ⟩
 have l1:=Bo Jn sup;have l2:=Bo nd sub;rw[B6] at l1 l2;have perm:=Gi nd sub (by rw[B6];exact l1);have ll:(pairs owner (AX (M+1))).length=hashes.size:=by
  rw[AB] at l1 l2;exact yy l2 l1
 refine⟨((pairs owner (AX (M+1))).map (·.1)).toArray,((pairs owner (AX (M+1))).map (·.2)).toArray,?_,?_,?_,?_,?_⟩
 .unfold laid
  rw[e];rfl
 .refine⟨hM,ξ,?_,λj hj=>?_,?_⟩
  .rw[AO,AB,ll]
   exact h
  .have b6:=hj
   obtain⟨⟨k,i⟩,hm,rfl⟩:=A1.mp b6;have:=AU.mp (Jl.mp hm).1;show k<=M;exact wu this
  .exact rise
 .rw[AO,AB,ll]
 .exact perm
 .intro bj j hh hj hh'
  have b6:((pairs owner (AX (M+1))).map (·.1))[bj]?=u8 j:=by simpa using hj
  have hh2:=hh';rw[AV] at b6;rw[AV,AV] at hh2;cases o:(pairs owner (AX (M+1)))[bj]? with
  | none=>rw[o] at b6;cases b6
  | some x =>
   obtain⟨k,i⟩:=x;rw[o] at b6 hh2;have ek:=AM b6;have ei:hashes.toList.getD i 0=hh:=AM hh2;subst ek;obtain⟨_,m,w1,w2⟩:=O.at_ k i ((mem k i).mp (By o));rw[ei] at w1 w2;refine⟨m,w1,λm' dA=>?_⟩;have z:=w2 m' dA;have hb:bits hh%(M+1)<=M:=by
    have:=MZ (bits hh) (show 0<M+1 from xc);exact wu this
   have iF:Fine M (CN M (bits hh%(M+1)) (bits hh)):=⟨Rx _ _,hb,hb,Xh hb,ξ⟩;have wl:wayM M (CN M (bits hh%(M+1)) (bits hh)) m'<=M:=(iF.iter m').j;show wayM M (CN M (bits hh%(M+1)) (bits hh)) m'∈(pairs owner (AX (M+1))).map (·.1);generalize wayM M (CN M (bits hh%(M+1)) (bits hh)) m'=wv at z wl;have hw:wv<owner.size:=by rw[O.size];exact xO wl
   cases q:owner[wv] with
   | none =>
    have:owner.getD wv (u8 0)=u9:=by simp[Eg,hw,q]
    rw[this] at z;cases z
   | some i'=>exact A1.mpr ⟨(wv,i'),(mem wv i').mpr (by rw[BC hw,q]),ξ⟩
abbrev IK(prog:AL)(w:AR)(h:Heap)(ks:vG)(a:Addr):Prop:=VW (LO prog w) h ks a
noncomputable abbrev hsh(prog:AL)(w:AR)(ks:vG):Int:=M3 (LO prog w) ks
def Rt{ks:vG}(h:ItemsAre (LO prog w) ks vs):∀v∈vs,∃n t,v=.int n t:=by
 induction h with
 | nil=>intro v hv;cases hv
 | cons h1 _ ih =>
  intro v hv;rcases AY.mp hv with rfl| hv
  .obtain⟨t,e⟩:=G9 h1
   exact⟨_,t,e⟩
  .exact ih v hv
def AEZ{ks:vG}{Q:vK}(hk:IK prog w s.heap ks a)(h:Q true s):wpAny (AN prog w) A (hashByValue 8 (.ref a)) Q E s:=by
 have hT:=hk.typeIs;obtain⟨o,items,n,ho,_,hd,hi⟩:=hk;have rT:=Rt hi;unfold hashByValue;refine Ap (FK hT F.slot_tuple_hash.lookup ?_);refine Ap (IQ ho hd ?_);refine Ap ?_;rw[<- J7];refine FV _ (λbg r s'=>r.1=u9/\s'=s/\∀v∈bg,∃n t,v=NJ n t) _ ?_ ?_ _ _ ⟨ξ,ξ,rT⟩
 .rintro v bg r s' ⟨hr,rfl,ck⟩
  obtain⟨n,t,rfl⟩:=ck v AF;refine Ap (AC ?_);exact AC ⟨ξ,ξ,λu fi=>ck u (AJ _ fi)⟩
 .rintro⟨r1,r2⟩ s' ⟨hr,rfl,_⟩
  simp only at hr;subst hr;exact AC h
def Uq{ks:vG}{Q:vK}(hk:IK prog w s.heap ks a)(h:Q false s):wpAny (AN prog w) A (TW 8 (.ref a)) Q E s:=by
 have hT:=hk.typeIs;obtain⟨o,items,n,ho,_,hd,hi⟩:=hk;have rT:=Rt hi;unfold TW;refine Ap (KA hT ?_);show wpAny _ _ ((if("tuple" == "tuple")=true then pure true else isSubtype (.type "tuple") (.type "tuple")) >>= _) _ _ s;rw[vB ζ];refine Ap (AC ?_);refine Ap (IQ ho hd ?_);refine Ap ?_;rw[<- J7];refine FV _ (λbg r s'=>r.1=u9/\s'=s/\∀v∈bg,∃n t,v=NJ n t) _ ?_ ?_ _ _ ⟨ξ,ξ,rT⟩
 .rintro v bg r s' ⟨hr,rfl,ck⟩
  obtain⟨n,t,rfl⟩:=ck v AF;refine Ap (AC ?_);exact AC ⟨ξ,ξ,λu fi=>ck u (AJ _ fi)⟩
 .rintro⟨r1,r2⟩ s' ⟨hr,rfl,_⟩
  simp only at hr;subst hr;exact AC h
def AEM{ks:vG}{Q:vK}(hk:IK prog w s.heap ks a)(stored:vO)(dS:∀v∈stored,∃k b,v=.ref b/\IK prog w s.heap k b)(h:Q false s):wpAny (AN prog w) A (TZ (.ref a) stored) Q E s:=by
 unfold TZ;refine Ap ?_;refine FV _ (λbg r s'=>r.1=u9/\s'=s/\∀v∈bg,∃k b,v=A7 b/\IK prog w s.heap k b) _ ?_ ?_ _ _ ⟨ξ,ξ,dS⟩
 .rintro v bg r s' ⟨hr,rfl,ck⟩
  have tl:∀u∈bg,∃k b,u=A7 b/\IK prog w s'.heap k b:=λu fi=>ck u (AJ _ fi);obtain⟨k,b,rfl,hb⟩:=ck v AF;dsimp only;by_cases c:(a==b)=true
  .rw[vB (by rw[c];rfl)]
   exact AC ⟨ξ,ξ,tl⟩
  .rw[vA (by simp[c,WF])]
   refine Ap (Re hk ?_);simp only[FU,BY,if_false];refine Ap (Re hb ?_);simp only[FU,BY,if_false];refine Ap (Uq hk ?_);simp only[BY,if_false];refine Ap (Uq hb ?_);simp only[BY,if_false];exact AC ⟨ξ,ξ,tl⟩
 .rintro⟨r1,r2⟩ s' ⟨hr,rfl,_⟩
  simp only at hr;subst hr;exact AC h
def YQ{P:Nat->Prop}:∀(m:Nat),P m->∃n,P n/\∀n',n'<n->¬ P n':=by
 intro m
 induction m using Nat.strongRecOn with
 | ind m ih =>
  intro h;by_cases c:∃n,n<m/\P n
  .obtain⟨n,hn,hp⟩:=c
   exact ih n hn hp
  .exact⟨m,h,λn' ur hp=>c ⟨n',ur,hp⟩⟩
noncomputable def ledOf(w:AR):Bool:=!w.params.followText "set-order"
structure TS(prog:AL)(w:AR)(h:Heap)(S:Addr)(es:Array (Int×Au))(t:C7)(ks:List (vG×Addr)):Prop where
 obj:∃o ep,h.get? S=u8 o/\o.ExactSet/\o.data=.set es ep t
 tab:Tab t
 len:es.size=t.place.size
 loc:Loc t (es.toList.map (·.1))
 els:es.toList=ks.map λx=>(hsh prog w x.1,A7 x.2)
 nd:(ks.map (·.1)).Nodup
 few:t.place.size*5<t.mask*3
 pl:t.plain=true
 ld:t.led=ledOf w
def Yb{t:C7}(T:Tab t):t.fill=t.place.size:=by unfold fill;rw[T.none];rfl
def HN{t:C7}(T:Tab t)(e:n=t.place.size):t.fits n=true:=by
 unfold SetTable.fits;rw[Yb T,e];have:=T.size;simp[this]
section
variable{es:Array (Int×Au)}{t:C7}
def TS.at_(X:TS prog w h S es t ks)(hi:t.place[i]?=u8 j):∃x,ks[i]?=u8 x/\es[i]?=u8 (hsh prog w x.1,A7 x.2):=by
 have hl:=(CL.mp hi).1;have hle:i<es.toList.length:=by rw[AZ,X.len];exact hl
 cases o:ks[i]? with
 | none =>
  have l2:=congrArg Fu X.els;rw[AB] at l2;have:=List.getElem?_eq_none_iff.mp o;lia
 | some x =>
  refine⟨x,ξ,?_⟩;rw[<- B4,X.els,AV,o];rfl
def QS{t:C7}(T:Tab t)(h:t.place[i]?=u8 j)(h':t.place[i']?=u8 j):i=i':=by
 obtain⟨a,ea⟩:=CL.mp h;obtain⟨b,eb⟩:=CL.mp h';have r:=B7.mp T.rise;rcases L6 i i' with c| c| c
 .have:=r i i' (by simpa using a) (by simpa using b) c
  simp at this;exact yC this ea eb
 .exact c
 .have:=r i' i (by simpa using b) (by simpa using a) c
  simp at this;exact yC this eb ea
set_option tactic.hygienic true in
theorem ABW{k:vG}(X:TS prog w s.heap S es t ks)(hK:∀x∈ks,IK prog w s.heap x.1 x.2)(hk:IK prog w s.heap k a)(hu:A.units<Cs){N:Nat}
  (hN:way t (t.probeStart (hsh prog w k)) N∉t.place.toList) (hB:∀m,m<N->way t (t.probeStart (hsh prog w k)) m∈t.place.toList) {Q:SetFound->AA->Prop}
  (h1:k∈ks.map (·.1)->Q (.there u9) s) (h2:k∉ks.map (·.1)->Q (.free (way t (t.probeStart (hsh prog w k)) N) false) s) :
  ∀(bi c:Nat) (ik:Option JJ),c<=N->N-c<bi->ik.getD (t.probeStart (hsh prog w k))=SB.iter (step t.mask) c (t.probeStart (hsh prog w k)) ->
   (∀m,m<c->∀(i:Nat) (x:vG×Addr),t.place[i]?=u8 (way t (t.probeStart (hsh prog w k)) m)->ks[i]?=u8 x->x.1≠k) ->
   wpAny (AN prog w) A (Op S (.ref a) (hsh prog w k) true bi ik) Q E s:=by
 obtain⟨o,ep,ho,ff,hd⟩:=X.obj;have hf:=HN X.tab X.len;intro bi
 induction bi with
 | zero=>intro c ik _ h;lia
 | succ bi ih =>
  intro c ik hc hfu dS hV;unfold Op;refine Ap (FG ho hd hf ?_);dsimp only;have hg:t.gaveWay=false:=by
   unfold SetTable.gaveWay;rcases X.tab.mask with e| e| e| e<;>rw[e]<;>decide
  rw[hg];simp only[BY,if_false];have iF:Fine t.mask (SB.iter (step t.mask) c (t.probeStart (hsh prog w k))):=(Fine.start t _).iter c;have hb:(SB.iter (step t.mask) c (t.probeStart (hsh prog w k))).perturb<2 ^ 64:=EQ (Nz c _) (Qz _);obtain⟨m,hm,oq⟩:=ABp X.tab (hashAt:=λi=>(es[i]?.map (·.1)).getD 0) (h:=hsh prog w k) iF hb;have wy:∀m,way t (SB.iter (step t.mask) c (t.probeStart (hsh prog w k))) m=way t (t.probeStart (hsh prog w k)) (c+m):=λm=>by
   unfold way;rw[CZ]
  have nV:∀{i j:Nat},t.place[i]?=u8 j->j∈t.place.toList:=λ{i j} e=>by
   rw[DD];exact⟨i,by rw[B4];exact e⟩
  have hV':∀m',m'<c+m->∀(i:Nat) (x:vG×Addr),t.place[i]?=u8 (way t (t.probeStart (hsh prog w k)) m')->ks[i]?=u8 x->x.1≠k:=λm' dA i x hi hx ek=>by
   by_cases z:m'<c
   .exact hV m' z i x hi hx ek
   .obtain⟨i',b7,cS⟩:=hm (m'-c) δ
    rw[wy,show c+(m'-c)=m' by lia] at b7;have:=QS X.tab hi b7;subst this;obtain⟨y,hy,ey⟩:=X.at_ hi;rw[hx] at hy;cases hy;refine cS ?_;rw[ey,<- ek];rfl
  have ltN:way t (t.probeStart (hsh prog w k)) (c+m)∈t.place.toList->c+m<N:=λz=>by
   refine Ct λzz=>?_;by_cases q:c+m=N
   .rw[q] at z;exact hN z
   .obtain⟨i',b7,_⟩:=hm (N-c) (yD hc zz q)
    rw[wy,show c+(N-c)=N from ww hc] at b7;exact hN (nV b7)
  split
  .rename_i met heq
   rw[dS] at heq;rcases oq with⟨cS,e⟩| ⟨i,hi,hsl,hhash,e⟩
   .obtain rfl:=AM (heq.symm.trans e)
    dsimp only;have hcN:c+m=N:=by
     rw[wy] at cS;refine Ct λq=>?_;by_cases z:c+m<N
     .exact cS (hB _ z)
     .obtain⟨i',b7,_⟩:=hm (N-c) (yD hc z q)
      rw[wy,show c+(N-c)=N from ww hc] at b7;exact hN (nV b7)
    rw[wy,hcN];refine AC (h2 λfm=>?_);obtain⟨x,hx,ex⟩:=A1.mp fm;obtain⟨i,hi⟩:=DD.mp hx;have hil:i<t.place.size:=by
     have l1:=(AG.mp hi).1;have l2:=congrArg Fu X.els;rw[AB,AZ,X.len] at l2;exact dl l1 l2
    obtain⟨m1,w1,w2⟩:=X.loc i t.place[i] (hsh prog w x.1) (BC hil) (by rw[X.els,ED,AV,hi];rfl);rw[ex] at w1 w2;have hm1:m1<N:=by
     refine Ct λq=>?_;by_cases z:m1=N
     .subst z
      rw[w1] at hN;exact hN (nV (BC hil))
     .exact hN (w2 N δ)
    exact hV' m1 (dl hm1 hcN) i x (by rw[w1];exact BC hil) hi ex
   .obtain rfl:=AM (heq.symm.trans e)
    dsimp only;rw[wy] at hi hsl ⊢;have ce:=ltN (nV hi);obtain⟨x,hx,tt⟩:=X.at_ hi;have hxb:=hK x (By hx);have tail:wpAny (AN prog w) A (do
      let u8 (_,y):=es[i]? | unsupported "internal:set-entry"
      let equal <- Nl [y] (eqBool y (.ref a))
      let (cr,_,t') <- setState S
      if true&&equal then return .there u9
      let u8 same:=t'.sameMemory t.moves t.mask| unsupported "set.changed-during-lookup:is-the-new-block-at-the-old-address"
      let still <- match (if same then t'.slot (way t (t.probeStart (hsh prog w k)) (c+m)) else .empty) with
       | .live i'=>match cr[i']? with
        | some (_,y')=>do pure (if <- isSame y' y then u8 i' else u9)
        | none=>pure u9
       | _=>pure u9
      match still with
      | none=>rule "set.search.anew";Op S (.ref a) (hsh prog w k) true bi u9
      | some i'=>if equal then return .there (u8 i') else Op S (.ref a) (hsh prog w k) true bi (u8 (SB.iter (step t.mask) (m+1) (SB.iter (step t.mask) c (t.probeStart (hsh prog w k)))))) Q E s:=by
     rw[tt];dsimp only;refine Ap (Dx (Tl hu hxb hk ?_));refine Ap (FG ho hd hf ?_);dsimp only;by_cases ek:x.1=k
     .rw[vC ek]
      exact AC (h1 (A1.mpr ⟨x,By hx,ek⟩))
     .rw[vD ek]
      simp only[WB,BY,if_false];have sm:t.sameMemory t.moves t.mask=u8 true:=by unfold sameMemory;simp
      rw[sm];dsimp only;simp only[if_true,hsl];rw[tt];dsimp only;refine Ap (wpAny_isSame_ref_self ?_);simp only[if_true];refine Ap (AC ?_);dsimp only;refine ih (c+m+1) _ ce δ ?_ ?_
      .rw[<- CZ]
       rfl
      .intro m' dA i' x' b7 lj ek'
       by_cases z:m'<c+m
       .exact hV' m' z i' x' b7 lj ek'
       .have:m'=c+m:=by lia
        subst this;have:=QS X.tab hi b7;subst this;rw[hx] at lj;cases lj;exact ek ek'
    cases dm:t.led with
    | true =>
     exact tail
    | false =>
     refine Ap (AEM hk _ ?_ ?_)
     .intro v hv
      obtain⟨e',he',rfl⟩:=A1.mp hv;have he2:e'∈es.toList:=by
       have:e'∈es/\e'.1=hsh prog w k:=by simpa using he'
       simpa using this.1
      rw[X.els] at he2;obtain⟨y,hy,rfl⟩:=A1.mp he2;exact⟨y.1,y.2,ξ,hK y hy⟩
     .exact tail
  .rename_i f7
   rcases oq with⟨_,e⟩| ⟨i,_,_,_,e⟩
   .exact(f7 _ (by rw[dS];exact e)).elim
   .exact(f7 _ (by rw[dS];exact e)).elim
end
theorem Gb{α:Type}{l:List α}(d:α):∀{bm:vI},(∀i∈bm,i<l.length)->bm.filterMap (λi=>l[i]?)=bm.map λi=>l.getD i d
 | [],_=>rfl
 | i::r,h=>by
  have hi:=h i AF;rw[JI,AK hi,BO,Gb d λj hj=>h j (AJ _ hj)];simp[AD,hi]
def Wv(l:List α):(AX l.length).filterMap (λi=>l[i]?)=l:=by
 cases l with
 | nil=>rfl
 | cons d r =>
  rw[Gb d λi hi=>AU.mp hi];apply FF;intro i;by_cases hi:i<(d::r).length
  .rw[AV,EX hi,AK hi]
   show u8 ((d::r).getD i d)=_;rw[AD,AK hi];rfl
  .rw[DZ (by simpa using hi),DZ (vo hi)]
def HJ{l:List α}{bm:vI}(h:bm.Perm (AX l.length)):(bm.filterMap λi=>l[i]?).Perm l:=by
 have:=h.filterMap λi=>l[i]?;rw[Wv] at this;exact this
section
variable{es:Array (Int×Au)}{t:C7}
def stored(ho:h.get? S=u8 o)(ff:o.ExactSet)(hd:o.data=.set es ep t)(cr:Array (Int×Au))(t':C7) :
  ∃o' ky,(h.update S (VX cr t')).get? S=u8 o'/\o'.ExactSet/\o'.data=.set cr ky t':=by
 have hg:(h.update S (VX cr t')).get? S=u8 {o with data:=.set cr (ep+1) t'}:=by
  have:=Ev (VX cr t') ho (by rw[putSet_of cr t' hd];rfl);rw[putSet_of cr t' hd] at this;exact this
 exact⟨_,_,hg,ff,ξ⟩
def ABk(hs:s.heap=h)(ho:h.get? S=u8 o)(ff:o.ExactSet)(hd:o.data=.set es ep t)(T:Tab t)(hl:es.size=t.place.size)(hel:es.toList=ks.map λx=>(hsh prog w x.1,A7 x.2))
  (nd:(ks.map (·.1)).Nodup) (g0:t.mask*3<=t.place.size*5) (gc:(t.place.size-1)*5<t.mask*3) (f8:ks.length<=301) (ic:t.plain=true) (hld:t.led=ledOf w) {Q:vL}
  (q:∀h' cr t' de,ET S h h'->TS prog w h' S cr t' de->de.Perm ks->Q () {s with heap:=h'}) :
  wpAny (AN prog w) A (Y4 S (VY es.size)) Q E s:=by
 subst hs;have sI:ks.length=es.size:=by
  have:=congrArg Fu hel;rw[AB,AZ] at this;exact this.symm
 have key:∃M,sizeAbove (VY es.size)=M+1/\Mask M/\es.size<=M/\es.size*5<M*3:=by
  rcases T.mask with e| e| e| e
  .have:es.size=5:=by rw[e] at g0 gc;lia
   rw[this];exact⟨31,ζ,.inr (.inl rfl),ζ,ζ⟩
  .have:es.size=19:=by rw[e] at g0 gc;lia
   rw[this];exact⟨127,ζ,.inr (.inr (.inl rfl)),ζ,ζ⟩
  .have:es.size=77:=by rw[e] at g0 gc;lia
   rw[this];exact⟨511,ζ,.inr (.inr (.inr rfl)),ζ,ζ⟩
  .rw[e] at g0
   lia
 obtain⟨M,eM,hM,hle,tN⟩:=key;unfold Y4;refine Ap (FG ho hd (HN T hl) ?_);dsimp only;have hz:¬ (sizeAbove (VY es.size)>sizeLine):=by
  rw[eM,EW];rcases hM with e| e| e| e<;>lia
 rw[vA hz];obtain⟨place,bm,el,T2,hps,sN,L2⟩:=AFt hM (hashes:=es.map (·.1)) (by simpa using hle) t.finger (t.movedTo M) t.led t.plain;have erl:t.relaid (es.map (·.1)) (VY es.size)=u8 ({mask:=M,place:=place,dummies:=#[],finger:=t.finger,led:=t.led,moves:=t.movedTo M,plain:=t.plain},bm):=by
  unfold relaid;rw[eM];exact el
 refine Ap ?_;show wpAny _ _ (do
  let u8 (t,bm):=t.relaid (es.map (·.1)) (VY es.size)| unsupported "internal:set-table-without-room"
  let cr:=bm.filterMap (es[·]?)
  if cr.size != es.size then unsupported "internal:set-table-lost-an-element"
  pure (cr,t)) _ _ _
 rw[erl];dsimp only;have hsz:(es.map (·.1)).size=es.toList.length:=by simp
 rw[hsz] at sN;have ef:(bm.filterMap (es[·]?)).toList=bm.toList.filterMap λi=>es.toList[i]?:=by
  rw[Array.toList_filterMap]
  congr 1
  funext i
  rw[B4]
 have hp:=HJ sN;have tt:(bm.filterMap (es[·]?)).size=es.size:=by
  rw[<- AZ,ef,hp.length_eq,AZ]
 rw[vA (by rw[tt];simp)];refine AC ?_;dsimp only;refine T5 ho hd ?_ (by rw[tt,EW];rcases hM with e| e| e| e<;>lia);obtain⟨o',ky,fh,mI,eh⟩:=stored ho ff hd (bm.filterMap (es[·]?)) {mask:=M,place:=place,dummies:=#[],finger:=t.finger,led:=t.led,moves:=t.movedTo M,plain:=t.plain};have hpk:(bm.toList.filterMap λi=>ks[i]?).Perm ks:=HJ (by rw[AZ] at sN;rw[sI];exact sN);refine q _ _ _ (bm.toList.filterMap λi=>ks[i]?) (Ee ..) ⟨⟨o',ky,fh,mI,eh⟩,T2,?_,?_,?_,?_,?_,ic,hld⟩ hpk
 .rw[tt,hps];simp
 .have e1:(bm.filterMap (es[·]?)).toList.map (·.1)=bm.toList.map λi=>(es.map (·.1)).toList.getD i 0:=by
   rw[ef,Gb (0,Db) (λi hi=>by have:=AU.mp (sN.mem_iff.mp hi);exact this),ED];refine FM λi hi=>?_;have b7:=AU.mp (sN.mem_iff.mp hi);have kU:i<es.size:=by simpa using b7
   simp[AD,kU]
  rw[e1];exact L2
 .rw[ef,hel,List.map_filterMap]
  congr 1
  funext i
  rw[AV]
 .exact(JO (hpk.map (·.1))).mpr nd
 .rw[hps]
  simpa using tN
def Added(ks:List (vG×Addr))(k:vG)(a:Addr)(de:List (vG×Addr)):Prop:=(k∈ks.map (·.1)/\de=ks)\/(k∉ks.map (·.1)/\de.Perm ((k,a)::ks))
def WR{k:vG}(X:TS prog w s.heap S es t ks)(hK:∀x∈ks,IK prog w s.heap x.1 x.2)(hk:IK prog w s.heap k a)(hu:A.units<Cs)(h60:ks.length<=300){Q:vK}
  (q:∀b h' cr t' de,ET S s.heap h'->TS prog w h' S cr t' de->Added ks k a de->Q b {s with heap:=h'}) :
  wpAny (AN prog w) A (setAddHashed S (.ref a) (hsh prog w k)) Q E s:=by
 obtain⟨o,ep,ho,ff,hd⟩:=X.obj;have hf:=HN X.tab X.len;have iF:Fine t.mask (t.probeStart (hsh prog w k)):=Fine.start t _;have sI:ks.length=t.place.size:=by
  have:=congrArg Fu X.els;rw[AB,AZ,X.len] at this;exact this.symm
 obtain⟨m0,hm0,nm0⟩:=QG X.tab.mask X.tab.size iF (Qz (hsh prog w k));obtain⟨N,hN,qc⟩:=YQ (P:=λm=>way t (t.probeStart (hsh prog w k)) m∉t.place.toList) m0 nm0;have hNle:N<=m0:=Ct λc=>qc m0 (xh c) nm0;have hB:∀m,m<N->way t (t.probeStart (hsh prog w k)) m∈t.place.toList:=λm hm=>Ct λc=>qc m hm c;have hM:t.mask<=511:=by rcases X.tab.mask with e| e| e| e<;>lia
 unfold setAddHashed setAddHashedIn;refine Dx (Ap (FG ho hd hf ?_));dsimp only;have hbs:byScan (.ref a) es=false:=rfl;rw[hbs];unfold setSearch;refine Ap (ABW X hK hk hu hN hB ?_ ?_ 100000 0 u9 (Bz _) (by unfold OM at hm0;lia) rfl (λm hm=>vF hm wa))
 .intro fm
  exact AC (by
   have:=q false s.heap es t ks (ar S s.heap) X (.inl ⟨fm,ξ⟩);exact this)
 .intro hnm
  dsimp only;refine Ap (FG ho hd hf ?_);dsimp only;generalize hj:way t (t.probeStart (hsh prog w k)) N=j;have P:Put t j:=by
   refine⟨?_,?_,?_⟩
   .rw[<- hj];exact(iF.iter N).j
   .rw[<- hj];exact hN
   .have:=X.few
    rcases X.tab.mask with e| e| e| e<;>rw[e] at this ⊢<;>lia
  have T1:=AGJ X.tab P;have L1:=AFi X.tab (by rw[AB,AZ,X.len]) X.loc hB;rw[hj] at L1;obtain⟨e1,e2⟩:=Jv X.tab (j:=j);have b3:=(FZ (j:=j) X.tab.rise).2.2;have pm:(t.put j).1.mask=t.mask:=by rw[e1]
  have pp:(t.put j).1.plain=true:=by rw[e1];exact X.pl
  have pd:(t.put j).1.led=ledOf w:=by rw[e1];exact X.ld
  have ps:(t.put j).1.place.size=t.place.size+1:=by
   rw[e1];have:=congrArg Fu (BX t.place (below t.place j) j);simp at this;show(EK t.place (below t.place j) j).size=_;lia
  rw[e2] at L1;generalize hp:below t.place j=p at *;generalize r4:(t.put j).1=t1 at *;have uH:(EK es p (hsh prog w k,A7 a)).toList=(ks.take p++[(k,a)]++ks.drop p).map λx=>(hsh prog w x.1,A7 x.2):=by
   rw[BX,X.els,BI,BI,Sn,So];rfl
  have mN:(EK es p (hsh prog w k,A7 a)).size=es.size+1:=by
   have:=congrArg Fu (BX es p (hsh prog w k,A7 a));simp at this;have:=X.len;lia
  have h9:(ks.take p++[(k,a)]++ks.drop p).Perm ((k,a)::ks):=by
   have:=List.perm_middle (a:=(k,a)) (l₁:=ks.take p) (l₂:=ks.drop p);rw[F6] at this;rw[CH];exact this
  have lP:=(JO (h9.map (·.1))).mpr (by rw[BO];exact DV.mpr ⟨hnm,X.nd⟩);have g5:(EK es p (hsh prog w k,A7 a)).toList.map (·.1)=(es.toList.map (·.1)).take p++[hsh prog w k]++(es.toList.map (·.1)).drop p:=by
   rw[BX,BI,BI,Sn,So];rfl
  have e3:=e2;have go:∀(t2:C7),Tab t2->t2.mask=t1.mask->t2.place=t1.place->t2.plain=true->t2.led=ledOf w->wpAny (AN prog w) A (do
    storeSet S (EK es p (hsh prog w k,A7 a)) t2
    if(!false&&t2.tooFull)=true then do
     Y4 S (VY (es.size+1))
     pure true
    else pure true) Q E s:=by
   intro t2 T2 m2 p2 q2 r2;refine Ap (T5 ho hd ?_ (by rw[mN,EW];have:=X.len;lia));obtain⟨o',ky,fh,mI,eh⟩:=stored ho ff hd (EK es p (hsh prog w k,A7 a)) t2;have L2:Loc t2 ((EK es p (hsh prog w k,A7 a)).toList.map (·.1)):=by
    rw[g5];intro bj jj h' a1 a2;rw[p2] at a1;obtain⟨m,w1,w2⟩:=L1 bj jj h' a1 a2;refine⟨m,?_,λm' dA=>?_⟩
    .unfold way probeStart at w1 ⊢
     rw[m2];exact w1
    .have:=w2 m' dA
     unfold way probeStart at this ⊢;rw[m2,p2];exact this
   have tf:t2.tooFull=decide (t.mask*3<=(t.place.size+1)*5):=by
    unfold tooFull;rw[Yb T2,p2,m2,ps,pm]
   rw[tf];by_cases c:t.mask*3<=(t.place.size+1)*5
   .rw[vC c]
    rw[<- mN];refine Ap (ABk (ks:=ks.take p++[(k,a)]++ks.drop p) rfl fh mI eh T2 (by rw[mN,p2,ps,X.len]) uH lP ?_ ?_ ?_ q2 r2 ?_)
    .rw[p2,m2,ps,pm];exact c
    .rw[p2,m2,ps,pm]
     have:=X.few;lia
    .rw[h9.length_eq]
     simp;exact h60
    .intro h' cr t' de sb X' pk
     exact AC (q true h' cr t' de ((Ee ..).trans sb) X' (.inr ⟨hnm,pk.trans h9⟩))
   .rw[vD c]
    exact AC (q true _ _ t2 _ (Ee ..) ⟨⟨o',ky,fh,mI,eh⟩,T2,by rw[mN,p2,ps,X.len],L2,uH,lP,by rw[p2,m2,ps,pm];exact xh c,q2,r2⟩ (.inr ⟨hnm,h9⟩))
  rw[e3];simp only[pp,if_true];refine Ap (AEZ hk ?_);exact go t1 T1 rfl rfl pp pd
def AGp{k:vG}(X:TS prog w s.heap S es t ks)(hK:∀x∈ks,IK prog w s.heap x.1 x.2)(hk:IK prog w s.heap k a)(hu:A.units<Cs)(h60:ks.length<=300){Q:vK}
  (q:∀b h' cr t' de,ET S s.heap h'->TS prog w h' S cr t' de->Added ks k a de->Q b {s with heap:=h',toks:=s.toks+(k.length+1)}) :
  wpAny (AN prog w) A (setAdd S (.ref a)) Q E s:=by
 unfold setAdd;refine Dx ?_;refine Ap (To hu hk ?_);exact WR (s:={s with toks:=s.toks+(k.length+1)}) X hK hk hu h60 λb h' cr t' de sb X' ad=>q b h' cr t' de sb X' ad
end
structure Of(vals:Nat->vG×Addr)(i:Nat)(ks:List (vG×Addr)):Prop where
 sub:∀x∈ks,∃j,j<i/\x=vals j
 sup:∀j,j<i->(vals j).1∈ks.map (·.1)
 len:ks.length<=i
def Of.next{de:List (vG×Addr)}(h:Of vals i ks)(a:Added ks (vals i).1 (vals i).2 de):Of vals (i+1) de:=by
 rcases a with⟨hm,rfl⟩| ⟨hm,p⟩
 .refine⟨λx hx=>?_,λj hj=>?_,by have:=h.len;exact wG this⟩
  .obtain⟨j,hj,e⟩:=h.sub x hx
   exact⟨j,wb hj,e⟩
  .by_cases c:j=i
   .rw[c];exact hm
   .exact h.sup j (xJ hj c)
 .refine⟨λx hx=>?_,λj hj=>?_,by rw[p.length_eq];have:=h.len;simp;exact this⟩
  .rcases AY.mp (p.mem_iff.mp hx) with e| hx
   .exact⟨i,wR,e⟩
   .obtain⟨j,hj,e⟩:=h.sub x hx
    exact⟨j,wb hj,e⟩
  .have pm:=(p.map (·.1)).mem_iff (a:=(vals j).1)
   by_cases c:j=i
   .subst c
    exact pm.mpr (by rw[BO];exact AF)
   .exact pm.mpr (by rw[BO];exact AJ _ (h.sup j (xJ hj c)))
def HD{k:vG}(hk:IK prog w h k a)(e:∀o,h.get? a=u8 o->h'.get? a=u8 o):IK prog w h' k a:=by
 obtain⟨o,items,n,ho,r⟩:=hk;exact⟨o,items,n,e o ho,r⟩
def ZG{es:Array (Int×Au)}{t:C7}(X:TS prog w h S es t ks)(e:∀o,h.get? S=u8 o->h'.get? S=u8 o):TS prog w h' S es t ks:=by
 obtain⟨o,ep,ho,r⟩:=X.obj;exact⟨⟨o,ep,e o ho,r⟩,X.tab,X.len,X.loc,X.els,X.nd,X.few,X.pl,X.ld⟩
def ACu{led:Bool}(hw:led=ledOf w)(hg:h.get? S=u8 {cls:=.type "set",dict:=u9,data:=.set #[] 0 (.fresh 0 0 led)}):TS prog w h S #[] (.fresh 0 0 led) []:=by
 refine⟨⟨_,0,hg,⟨ξ,ξ,ξ⟩,ξ⟩,⟨.inl rfl,ξ,Bz _,λj hj=>(by cases hj),.nil⟩,ξ,λbj j h' a=>?_,ξ,.nil,by show 0*5<7*3;decide,ξ,hw⟩;cases a
def AEW(a:Au)(h:Q₁ (.ref s.heap.objs.size) {s with heap:=s.heap.push {cls:=.type "set",dict:=u9,data:=.set #[] 0 (.fresh 0 0 (ledOf w))}}) :
  codeAny (AN prog w) A (.call (.builtin "set.__new__") ⟨[.type "set",a],[]⟩) (wants Q₁ E) s:=by
 refine PY ?_;refine Ap (Lm (F.newCall_set_1 a) (AC ⟨Iy VZ _,D5 F.entry_set_new ?_⟩));rw[EC VZ _];unfold Builtin.«set.__new__» W8;have sself:=sub_set_self;obtain⟨hp,g,d,tk,os⟩:=s
 wp_walk
 refine K3 (AC ?_);refine Ap (wpAny_alloc (AC ?_));exact AC h
def AEX{l:List α}:∀{k:Nat}{y:α},l[k]?=u8 y->(y::l.eraseIdx k).Perm l:=by
 induction l with
 | nil=>intro k y h;simp at h
 | cons a t ih =>
  intro k y h;cases k with
  | zero =>
   obtain rfl:a=y:=by simpa using h
   exact IS _
  | succ k =>
   have h':t[k]?=u8 y:=by simpa using h
   exact(NG a y _).trans (NF a (ih h'))
set_option tactic.hygienic true in
theorem Yr{α:Type}(next:Nat->Nat):∀(bi k:Nat) (left:List α) (out:Array α),left.length<=bi->(Y5 next bi k left out).toList.Perm (out.toList++left)
 | 0,k,left,out,h=>by
  have:left=[]:=CU.mp δ;subst this;rw[B5];exact IS _
 | bi+1,k,left,out,h=>by
  unfold Y5;cases e:left[next k%left.length]? with
  | none =>
   have hl:left=[]:=by
    cases left with
    | nil=>rfl
    | cons a t =>
     have:=MZ (next k) (show 0<(a::t).length by simp);rw[AK this] at e;cases e
   subst hl;rw[B5]
  | some x =>
   have hi:=(AG.mp e).1;have hl:=List.length_eraseIdx_of_lt hi;have ih:=Yr next bi (k+1) (left.eraseIdx (next k%left.length)) (out.push x) (yw hl h)
   refine ih.trans ?_;rw[Kx,CH];exact EL _ (AEX e)
set_option tactic.hygienic true in
theorem AFo(next:Nat->Nat)(xs:Array α):(Ts next xs).toList.Perm xs.toList:=by
 have:=Yr next xs.size 0 xs.toList #[] θ
 unfold Ts;simpa using this
namespace F
def Ny:R7 X0 "set.__iter__" = u8 Builtin.«frozenset.__iter__» :=
 entryFor_alias (id':="frozenset.__iter__") (by kernel_rfl) (by first| rfl| decide+kernel) ψ (by kernel_rfl)
def Vu:Manifest.owners.lookup (String.ofList ['r','o','t','a','r','e','t','i','_','t','e','s'].reverse)=u8 Manifest.sig_set_iterator:=by kernel_rfl
def Ea:Slot "set_iterator" "__next__" "set_iterator.__next__":=.of (owner:="set_iterator") (n:="__next__") (by rw[MV,KG];kernel_rfl) ψ ψ ψ (by first| exact .inl ψ| exact .inr ψ) (by rw[NC];kernel_rfl)
def Oj:R7 X0 "set_iterator.__next__" = u8 Builtin.«set_iterator.__next__»:=entryFor_of_tree (by kernel_rfl)
def Qo(a:Au):Q9 "set_iterator.__next__" ⟨[a],[]⟩:=by
 unfold Q9;rw[signature?_of (id:="set_iterator.__next__") (n:=['_','_','t','x','e','n','_','_']) (o:=['r','o','t','a','r','e','t','i','_','t','e','s']) (by kernel_rfl) Vu];kernel_rfl
def Ih:Slot "set_iterator" "__iter__" "set_iterator.__iter__":=.of (owner:="set_iterator") (n:="__iter__") (by rw[MV,KG];kernel_rfl) ψ ψ ψ (by first| exact .inl ψ| exact .inr ψ) (by rw[NC];kernel_rfl)
def Rm(a:Au):Q9 "set_iterator.__iter__" ⟨[a],[]⟩:=by
 unfold Q9;rw[signature?_of (id:="set_iterator.__iter__") (n:=['_','_','r','e','t','i','_','_']) (o:=['r','o','t','a','r','e','t','i','_','t','e','s']) (by kernel_rfl) Vu];kernel_rfl
def Od:R7 X0 "set_iterator.__iter__" = u8 Builtin.«dict_keyiterator.__iter__» :=
 entryFor_alias (id':="dict_keyiterator.__iter__") (by kernel_rfl) (by first| rfl| decide+kernel| (unfold String.splitOn;simp +decide [String.splitOnAux])) ψ (by kernel_rfl)
end F
def SI(h:Heap)(I S:Addr)(slot i n ep:Nat):Prop:=∃o,h.get? I=u8 o/\o.cls=.type "set_iterator"/\o.data=.fields #[EZ slot,EZ i,.ref S,EZ n,EZ ep]
def SI.typeIs{slot:Nat}(x:SI s.heap I S slot i n ep):s.TypeIs (.ref I) "set_iterator":=by obtain⟨o,ho,hc,_⟩:=x;exact⟨o,ho,hc⟩
section
variable{es:Array (Int×Au)}{t:C7}
noncomputable def text(w:AR):Bool:=w.params.followText "set-order"
noncomputable def ord(w:AR)(S:Addr)(ep:Nat)(es:Array (Int×Au)):Array (Int×Au):=if text w=true then Ts (w.params.setOrder S ep) es else es
def Ut(w:AR)(S:Addr)(ep:Nat)(es:Array (Int×Au)):(ord w S ep es).toList.Perm es.toList:=by
 unfold ord;split
 .exact AFo _ _
 .exact IS _
noncomputable def slotAt(w:AR)(t:C7)(i:Nat):Nat:=if text w=true then 0 else if i=0 then 0 else t.place.getD (i-1) 0+1
def Xc(hx:text w=false)(T:Tab t)(hi:i<=t.place.size):below t.place (slotAt w t i)=i:=by
 obtain⟨b1,b2,b3⟩:=FZ (j:=slotAt w t i) T.rise;have r:=B7.mp T.rise;have gd:∀k (hk:k<t.place.size) d,t.place.getD k d=t.place.toList[k]'(by simpa using hk):=λk hk d=>by simp[Eg,hk]
 have sl:∀h0:i≠0,slotAt w t i=t.place.toList[i-1]'(by simp;exact yA h0 hi)+1:=λh0=>by
  unfold slotAt;rw[hx,vA ζ,vA h0,gd (i-1) (yA h0 hi)]
 rcases L6 (below t.place (slotAt w t i)) i with c| c| c
 .have z:=b2 _ (AI _) (vy c hi)
  rw[gd _ (vy c hi)] at z;have slz:=sl δ;by_cases d:below t.place (slotAt w t i)=i-1
  .have:t.place.toList[below t.place (slotAt w t i)]'(by simp;exact vy c hi)=t.place.toList[i-1]'(by simp;exact yB hi c):=by congr 1
   lia
  .have:=r (below t.place (slotAt w t i)) (i-1) (by simp;exact vy c hi) (by simp;exact yB hi c) δ
   lia
 .exact c
 .have z:=b1 i c
  rw[gd i (vy c b3)] at z;by_cases h0:i=0
  .have:slotAt w t i=0:=by unfold slotAt;rw[hx,vA ζ,vB h0]
   lia
  .have slz:=sl h0
   have:=r (i-1) i (by simp;lia) (by simp;exact vy c b3) δ;lia
def AFc(ho:s.heap.get? S=u8 o)(hd:o.data=.set es ep t)(T:Tab t)(hl:es.size=t.place.size)(hp:t.plain=true)(dm:t.led=ledOf w){Q:Option (Au×Nat)->AA->Prop}
  (q:Q (((ord w S ep es)[i]?).map λe=>(e.2,slotAt w t (i+1))) s) (hi:i<=es.size):wpAny (AN prog w) A (setNext S (slotAt w t i) i ep) Q E s:=by
 have hf:=HN T hl;unfold setNext;refine Ap (FG ho hd hf ?_);unfold V0;refine Ap (Ap (K3 (AC ?_)));cases hx:text w with
 | true =>
  have lj:(AN prog w).w.params.followText "set-order" = true:=hx;simp only[lj,if_true,bne_self_eq_false,BY,if_false];unfold setWalk V0;refine Ap (Ap (FG ho hd hf ?_));refine Ap (Ap (K3 (AC ?_)));simp only[lj,if_true];refine Ap (K3 (AC ?_));refine AC ?_;have e1:ord w S ep es=Ts (w.params.setOrder S ep) es:=by unfold ord;rw[hx];rfl
  have e2:∀i,slotAt w t i=0:=λi=>by unfold slotAt;rw[hx];rfl
  rw[e1,e2] at q;rw[e2];exact q
 | false =>
  have lj:(AN prog w).w.params.followText "set-order" = false:=hx;have t6:t.led=true:=by rw[dm];unfold ledOf;rw[show w.params.followText "set-order" = false from hx];rfl
  have e1:ord w S ep es=es:=by unfold ord;rw[hx];rfl
  rw[e1] at q;simp only[lj,BY,if_false];refine FL (λoT=>?_) (λ_=>?_)
  .have kR:(!t.plain&&decide (es.size>1))=true:=oT
   rw[hp] at kR;cases kR
  refine Ap ?_;show wpAny _ _ (if(!t.led && !es.isEmpty)=true then unsupported "set:maker-not-led" else pure ()) _ _ _;rw[t6];refine AC (AC ?_);rw[Xc hx T (by rw[<- hl];exact hi)];by_cases c:i<es.size
  .have c2:i<t.place.size:=by rw[<- hl];exact c
   rw[BC c] at q ⊢;rw[BC c2];have e3:slotAt w t (i+1)=t.place[i]+1:=by
    unfold slotAt;rw[hx,vA ζ,vA δ];simp[Eg,c2]
   rw[e3] at q;exact q
  .rw[HC δ] at q ⊢
   exact q
def SSt(w:AR)(I S:Addr)(o:Obj)(es:Array (Int×Au))(t:C7)(ep i:Nat)(h:Heap):Prop:=h.get? S=u8 o/\SI h I S (slotAt w t i) i es.size ep
def Yn(hh:A.handled=u9)(cS:S≠I)(hd:o.data=.set es ep t)(T:Tab t)(hl:es.size=t.place.size)(hp:t.plain=true)(dm:t.led=ledOf w)(st:SSt w I S o es t ep i s.heap)(hi:i<=es.size){Q:vS->AA->Prop}
  (q1:∀e h',(ord w S ep es)[i]?=u8 e->SSt w I S o es t ep (i+1) h'->ET I s.heap h'->Q (u8 e.2) {s with heap:=h'})
  (q2:(ord w S ep es)[i]?=none->∀h',UD I s.heap h'->Q u9 {s with heap:=h'}):wpAny (AN prog w) A (L9 (.ref I)) Q E s:=by
 obtain⟨ho,x⟩:=st;obtain⟨oi,l8,sw,ug⟩:=id x;unfold L9;refine Ap (N8 (wpAny_callSpecial?_slot (name:=HK "__next__") x.typeIs F.Ea (DM F.Ea x.typeIs F.Oj ?_ (F.Qo _))));unfold Builtin.«set_iterator.__next__»;refine Ap (Lm (a:=(A7 I,[])) rfl ?_)
 try dsimp only
 refine Ap (Q6 l8 ug ?_);refine Ap (SC ho hd (HN T hl) ?_);simp only[bne_self_eq_false,BY,if_false];show wpAny _ _ (setNext S (((slotAt w t i:Nat):Int)).toNat (((i:Nat):Int)).toNat (((ep:Nat):Int)).toNat >>= _) _ _ s;rw[B9,B9,B9];refine Ap (AFc ho hd T hl hp dm ?_ hi);cases e:(ord w S ep es)[i]? with
 | some v =>
  refine Ap (IR l8 ug θ ?_);have g1:=Ev (N9 (λfs=>fs.setIfInBounds 0 (EZ ((slotAt w t (i+1):Nat):Int)))) l8 (KB (E9 ug _));have d1:=E9 ug (λfs=>fs.setIfInBounds 0 (EZ ((slotAt w t (i+1):Nat):Int)));refine Ap (IR g1 d1 θ ?_);have g2:=Ev (N9 (λfs=>fs.setIfInBounds 1 (EZ ((i:Int)+1)))) g1 (KB (E9 d1 _));have d2:=E9 d1 (λfs=>fs.setIfInBounds 1 (EZ ((i:Int)+1)));refine AC ⟨_,ξ,AC (q1 v _ e ⟨?_,_,g2,?_,?_⟩ ((Ee ..).trans (Ee ..)))⟩
  .exact(D4 _ _ (BU cS)).trans ((D4 _ _ (BU cS)).trans ho)
  .exact(LY ..).trans ((LY ..).trans sw)
  .rw[d2]
   simp
 | none =>
  refine Ap (IR l8 ug θ ?_);refine Ap ?_;refine Ap (C0 ?_ (by size_fits));refine Ap (m:=KF _ _) (Lm (a:=Db) (by first| rfl| (simp only[KF];rfl)) ?_);refine C0 ?_ (by size_fits);refine Ap (Sk ?_);rw[show A.in1.handled=u9 from hh];refine Ap (AC (UE ?_));refine Ap (Hm (T:="StopIteration") (b:=true) ⟨_,AQ _ rfl,ξ⟩ WE ?_);exact AC (q2 e _ (((Ee ..).extBut.push _).push _))
def Ms(w:AR)(S:Addr)(ep:Nat)(es:Array (Int×Au)):(ord w S ep es).size=es.size:=by
 rw[<- AZ,(Ut w S ep es).length_eq,AZ]
def AAl(hh:A.handled=u9)(cS:S≠I)(hd:o.data=.set es ep t)(T:Tab t)(hl:es.size=t.place.size)(hp:t.plain=true)(dm:t.led=ledOf w) :
  Walks prog w A I [I,S] [I] es.size (λi v=>∃e,(ord w S ep es)[i]?=u8 e/\v=e.2) (λi h=>i<=es.size/\SSt w I S o es t ep i h) where
 sub:=λb hb=>by simp at hb;simp[hb]
 frame:=by rintro i h h' ⟨hi,h1,oi,h2,r⟩ hk;exact⟨hi,hk S θ o h1,oi,hk I θ oi h2,r⟩
 item:=by
  rintro i s Q E hi ⟨b7,st⟩ hQ;refine Yn hh cS hd T hl hp dm st b7 (λe h' ge a6 sb=>hQ _ h' s.toks ⟨e,ge,ξ⟩ ⟨hi,a6⟩ λb ob hb eo=>?_) (λz=>?_)
  .rw[sb.2 b (λ(q:b=I)=>hb (by simp[q]))]
   exact eo
  .have:=Ms w S ep es
   rw[Array.getElem?_eq_none_iff] at z;lia
 done:=by
  rintro s Q E ⟨_,st⟩ hQ;refine Yn hh cS hd T hl hp dm st (AI _) (λe h' ge a6 sb=>?_) (λz h' eb=>hQ h' s.toks λb ob hb eo=>eb b ob (λq=>hb (by simp[q])) eo);have:=(CL.mp ge).1;rw[Ms] at this;lia
 self:=by
  rintro i s Q E ⟨_,_,x⟩ hQ;refine OB x.typeIs F.Ih (DM F.Ih x.typeIs F.Od ?_ (F.Rm _));exact AC ⟨_,ξ, "set_iterator",_,x.typeIs,F.Ea.lookup,hQ⟩
def ACG(ho:s.heap.get? S=u8 o)(ff:o.ExactSet)(hd:o.data=.set es ep t)(T:Tab t)(hl:es.size=t.place.size)(hp:t.plain=true)
  (q:∀x,(s.heap.push x).get? s.heap.objs.size=u8 x->SSt w s.heap.objs.size S o es t ep 0 (s.heap.push x)->Q (.ref s.heap.objs.size) {s with heap:=s.heap.push x}):wpAny (AN prog w) A (QU (.ref S)) Q E s:=by
 have hf:=HN T hl;have tS:s.TypeIs (.ref S) "set":=⟨o,ho,ff.1⟩;refine OB tS Rl (DM Rl tS F.Ny ?_ (PySem.F.args_set_iter_1 _));unfold Builtin.«frozenset.__iter__»;refine Ap (Lm (a:=S) rfl ?_);refine Ap (m:=Y6 S) (Ap (SC ho hd hf (AC ?_)));refine Ap (m:=setDrawn S) ?_;unfold setDrawn V0;refine Ap (FG ho hd hf ?_);refine Ap (Ap (K3 (AC ?_)));refine AC ?_;refine FL (λoT=>?_) (λ_=>?_)
 .have kR:(!w.params.followText "set-order" && (!t.plain&&decide (es.size>1)))=true:=oT
  rw[hp] at kR;simp at kR
 refine Ap (AC ?_);refine Ap (wpAny_setEpoch_of ho hd hf ?_);unfold newFields;refine Ap (C0 ?_);have z:slotAt w t 0=0:=by
  unfold slotAt;split
  .rfl
  .rfl
 refine AC ⟨_,ξ, "set_iterator",_,⟨_,AQ _ rfl,ξ⟩,F.Ea.lookup,q _ (AQ _ rfl) ⟨AE _ ho,_,AQ _ rfl,ξ,?_⟩⟩;rw[z];rfl
def ACc(ho:s.heap.get? S=u8 o)(ff:o.ExactSet){Q:vK}(h:Q false s):wpAny (AN prog w) A (HL (.ref S)) Q E s:=by
 have tS:s.TypeIs (.ref S) "set":=⟨o,ho,ff.1⟩;unfold HL;refine Ap (FK tS PySem.F.slot_set_len.lookup ?_);generalize hid:("set.__len__" : String)=id0
 wp_delta
 rw[show splitId id0=u8 ("set","__len__") from by subst hid;decide+kernel];subst hid;refine Ap (Hm (T:="set") (b:=true) tS (by rw[NC];kernel_rfl) ?_);refine FL (λoT=>vF oT ζ) (λ_=>?_);refine FL (λ_=>?_) (λoT=>vF ψ oT);refine Ap (KA tS ?_);exact AC h
def Wo(hh:A.handled=u9)(ho:s.heap.get? S=u8 o)(ff:o.ExactSet)(hd:o.data=.set es ep t)(T:Tab t)(hl:es.size=t.place.size)(hp:t.plain=true)(dm:t.led=ledOf w)(f8:es.size<=301)
  (D:Addr) (qV:Au) (c₀:Nat) (hD:s.heap.get? D=u8 {cls:=.type "list",data:=.seq #[] c₀})
  (hR:∀h' tk a9 c',(∀b ob,b≠D->s.heap.get? b=u8 ob->h'.get? b=u8 ob)->h'.get? D=u8 {cls:=.type "list",dict:=u9,data:=.seq a9 c',slots:=#[]} ->
   ItemsOf (λi v=>∃e,(ord w S ep es)[i]?=u8 e/\v=e.2) a9 es.size->R (.ok (.ret qV)) {s with heap:=h',toks:=tk}) :
  wpAny (AN prog w) A.in1 (DU (.ref D) (.ref S) qV)
   (λfin s'=>match fin with| .done f=>R (.ok f) s' | .again c'=>c'.quiet=true/\codeAny (AN prog w) A c' R s') (λe s'=>R (.error e) s') s:=by
 have tS:s.TypeIs (.ref S) "set":=⟨o,ho,ff.1⟩;have nDS:D≠S:=λe=>by
  rw[e,ho] at hD;cases hD;cases hd
 have nSI:=BF (Be ho);have nDI:=BF (Be hD);have nDf:D∉[s.heap.objs.size,S]:=λhm=>by
  rcases AY.mp hm with e| hm
  .exact nDI e
  .exact nDS (B8.mp hm)
 have W:=(AAl (prog:=prog) (A:=A.in1) (o:=o) hh nSI hd T hl hp dm).toS;unfold DU;refine Ap (KA (T:="set") tS ?_);have c1:IY (.ref D) (.ref S)=false:=by simp[IY,nDS]
 have c2:(CM "set" == CM "list")=false:=by decide
 have c3:(CM "set" == CM "tuple")=false:=by decide
 simp only[c1,c2,c3,On,BY,if_false];refine Ap (ACG ho ff hd T hl hp λx gx st=>?_);refine Ap (Dx (ACc (s:={s with heap:=s.heap.push x}) (AE _ ho) ff ?_));refine FL (λ_=>?_) (λoT=>vF ψ oT);have hD1:(s.heap.push x).get? D=u8 {cls:=.type "list",data:=.seq #[] c₀}:=AE _ hD;refine Ap (IH ?_);refine Ap ?_;refine Ap (MX hD1 rfl ?_);have sg:=Ev (CO (·.push Db)) hD1 rfl;refine MX (hz:=by seq_fits) sg rfl ?_;have hD3:=Ev (CO (·.pop)) sg rfl;have keep:∀b ob,b≠D->(s.heap.push x).get? b=u8 ob->(((s.heap.push x).update D (CO (·.push Db))).update D (CO (·.pop))).get? b=u8 ob:=λb ob hb e=>(D4 _ _ (BU hb)).trans ((D4 _ _ (BU hb)).trans e);obtain⟨st1,oi,bE,eA⟩:=st;refine AC ⟨Iy SA _,?_⟩;refine R8 W (by rw[EW];lia) D nDf qV es.size 0 _ _ _ rfl (Bz _) ⟨Bz _,keep S o nDS.symm st1,oi,keep _ oi (BU nDI) bE,eA⟩ hD3 (ZN _) λs' a9 c' hm cK be=>?_;rw[W7 hm];refine hR s'.heap s'.toks a9 c' (λb ob hb e=>hm.heap b ob (λfm=>?_) (keep b ob hb (AE _ e))) cK be;rcases AY.mp fm with e' | fm
 .exact hb e'
 .exact vF (Be e) (by rw[B8.mp fm];exact Ex _)
end
end SB
namespace SB
open PySem PySem.W PyProof.Rows
noncomputable abbrev g(p:Array Nat)(k:Nat):Nat:=p.getD k 0
structure PP(n:Nat)(p:Array Nat):Prop where
 size:p.size=n
 lt:∀k,k<n->g p k<n
 inj:∀k k',k<n->k'<n->g p k=g p k'->k=k'
structure Tot(n:Nat)(lt:Nat->Nat->Bool):Prop where
 or:∀i j,i<n->j<n->i≠j->lt i j=false->lt j i=true
 as:∀i j,i<n->j<n->lt i j=true->lt j i=false
 tr:∀i j k,i<n->j<n->k<n->lt i j=true->lt j k=true->lt i k=true
def Up(lt:Nat->Nat->Bool)(p:Array Nat)(m:Nat):Prop:=∀a b,a<b->b<m->lt (g p a) (g p b)=true
section
variable{lt:Nat->Nat->Bool}{p:Array Nat}
def ACV(n:Nat):PP n (KI (AX n)):=by
 have ge:∀k,k<n->g (KI (AX n)) k=k:=λk hk=>by
  unfold g;rw[HM];simp[hk]
 refine⟨θ,λk hk=>by rw[ge k hk];exact hk,λk k' hk bp e=>?_⟩;rw[ge k hk,ge k' bp] at e;exact e
end
end SB
namespace TM
open PySem PyProof.Rows
def JX:Nat->Nat->StateT BD Sem vT:=sortPriv% PySem.Builtin.countRun
def Qy(lo bu:Nat):JX lo bu=(do
 let mut n:=1
 for _ in [1:bu] do
  let u8 smaller <- P5 (lo+n) (lo+n-1)| return u9
  if smaller then break
  n:=n+1
 if n==bu then return u8 n
 if n>1 then
  let u8 rose <- P5 lo (lo+n-1)| return u9
  if rose then return u8 n
  Os lo (lo+n)
 rule "list.sort.descending-run"
 n:=n+1
 let mut neq:=0
 for _ in [n:bu] do
  let u8 smaller <- P5 (lo+n) (lo+n-1)| return u9
  if smaller then
   if neq>0 then Os (lo+n-(neq+1)) (lo+n)
   neq:=0
  else
   let u8 larger <- P5 (lo+n-1) (lo+n)| return u9
   if larger then break
   neq:=neq+1
  n:=n+1
 if neq>0 then Os (lo+n-(neq+1)) (lo+n)
 Os lo (lo+n)
 for _ in [n:bu] do
  let u8 smaller <- P5 (lo+n) (lo+n-1)| return u9
  if smaller then break
  n:=n+1
 return u8 n):=rfl
noncomputable def N(rk:AH->Int)(xs:Array AH)(i:Nat):Int:=match xs[i]? with
 | some p=>rk p
 | none=>0
variable{rk:AH->Int}
def En{xs ys:Array AH}(h:xs[i]?=ys[j]?):N rk xs i=N rk ys j:=by unfold N;rw[h]
def Al(G:AH->Prop)(xs:Array AH):Prop:=∀(i:Nat) (x:AH),xs[i]?=u8 x->G x
def Al.perm{G:AH->Prop}{xs ys:Array AH}(h:Al G xs)(p:ys.Perm xs):Al G ys:=λi x e=>by
 have m:x∈ys.toList:=by
  obtain⟨hl,rfl⟩:=CL.mp e;exact O9 hl
 have m2:=(IA.mp p).mem_iff.mp m;obtain⟨k,hk,e⟩:=CS.mp m2;exact h k x (by rw[<- B4,AK hk,e])
def Di(rk:AH->Int)(xs:Array AH):Prop:=(xs.toList.map rk).Nodup
def Di.perm{xs ys:Array AH}(h:Di rk xs)(p:ys.Perm xs):Di rk ys:=((IA.mp p).map rk).nodup_iff.mpr h
def Di.ne{xs:Array AH}(h:Di rk xs)(ij:i<j)(jl:j<xs.size):N rk xs i≠N rk xs j:=by
 have il:i<xs.size:=vw ij jl;have:=B7.mp h i j (by simpa using il) (by simpa using jl) ij;unfold N;rw[BC il,BC jl];simpa using this
def Up(rk:AH->Int)(xs:Array AH)(lo hi:Nat):Prop:=∀i j,lo<=i->i<=j->j<hi->N rk xs i<=N rk xs j
def Down(rk:AH->Int)(xs:Array AH)(lo hi:Nat):Prop:=∀i j,lo<=i->i<=j->j<hi->N rk xs j<=N rk xs i
structure Ba(G:AH->Prop)(rk:AH->Int)(κ:EM)(a₀:Array AH)(st:BD):Prop where
 perm:(AW st).Perm a₀
 kind:kindOf st=κ
 failed:G5 st=u9
 all:Al G a₀
 di:Di rk a₀
structure Nx(lo:Nat)(st a6:BD):Prop where
 perm:(AW a6).Perm (AW st)
 kind:kindOf a6=kindOf st
 failed:G5 a6=G5 st
 pend:BH a6=BH st
 low:∀i,i<lo->(AW a6)[i]?=(AW st)[i]?
def Nx.refl(lo:Nat)(st:BD):Nx lo st st:=⟨V1 _,ξ,ξ,ξ,λ_ _=>rfl⟩
def Nx.trans{a b c:BD}(h:Nx lo a b)(k:Nx lo b c):Nx lo a c:=⟨k.perm.trans h.perm,k.kind.trans h.kind,k.failed.trans h.failed,k.pend.trans h.pend,λi hi=>(k.low i hi).trans (h.low i hi)⟩
def Ba.nx{G:AH->Prop}(h:Ba G rk κ a₀ st)(n:Nx lo st a6):Ba G rk κ a₀ a6:=⟨n.perm.trans h.perm,n.kind.trans h.kind,n.failed.trans h.failed,h.all,h.di⟩
def Ba.size{G:AH->Prop}(h:Ba G rk κ a₀ st):(AW st).size=a₀.size:=h.perm.size_eq
def Ba.ne{G:AH->Prop}(h:Ba G rk κ a₀ st)(ij:i<j)(jl:j<a₀.size):N rk (AW st) i≠N rk (AW st) j:=(h.di.perm h.perm).ne ij (by rw[h.size];exact jl)
section
variable{G:AH->Prop}
def Cmp(prog:AL)(w:AR)(A:BM)(E:vJ)(s:AA)(κ:EM)(G:AH->Prop)(rk:AH->Int):Prop :=
 ∀x y,G x->G y->∀(st:BD) (Q:Option Bool->BD->Prop),kindOf st=κ->Q (u8 (decide (rk x<rk y))) st->wpS (AN prog w) A E s (lt' x y) Q st
def Bj{xs:Array AH}{Q:AH->BD->Prop}(hi:i<xs.size)(h:Q xs[i] st):wpS (AN prog w) A E s (D3 xs i) Q st:=by
 rw[elem'_eq,BC hi];exact A8 h
def Fl{xs:Array AH}(hi:i<xs.size):N rk xs i=rk xs[i]:=by unfold N;rw[BC hi]
def Al.at{xs:Array AH}(h:Al G xs)(hi:i<xs.size):G xs[i]:=h i _ (BC hi)
def VN(C:Cmp prog w A E s κ G rk)(B:Ba G rk κ a₀ st){Q:Option Bool->BD->Prop}(hi:i<a₀.size)(hj:j<a₀.size)(h:Q (u8 (decide (N rk (AW st) i<N rk (AW st) j))) st):wpS (AN prog w) A E s (P5 i j) Q st:=by
 have b7:i<(AW st).size:=by rw[B.size];exact hi
 have b6:j<(AW st).size:=by rw[B.size];exact hj
 have al:=B.all.perm B.perm;rw[ltAt'_eq];refine AS (KL ?_);refine AS (Bj b7 (AS (Bj b6 ?_)));refine C _ _ (al.at b7) (al.at b6) st Q B.kind ?_;rw[<- Fl (rk:=rk) b7,<- Fl (rk:=rk) b6];exact h
def VD{xs:Array AH}(hj:j<=xs.size)(k:Nat):N rk (mirror xs i j ((j-i) / 2)) k=if i<=k/\k<j then N rk xs (i+j-1-k) else N rk xs k:=by
 have e:=getElem?_mirror_all (i:=i) hj k;by_cases h1:i<=k/\k<j
 .rw[vB h1] at e ⊢;exact En e
 .rw[vA h1] at e ⊢;exact En e
def Vo{xs:Array AH}{ma d:Nat}(hs:ma<xs.size)(hd:d<=ma)(k:Nat):N rk (bubble xs ma d) k=if k=ma-d then N rk xs ma else if ma-d<k/\k<=ma then N rk xs (k-1) else N rk xs k:=by
 have e:=getElem?_bubble hs d hd k;by_cases h1:k=ma-d
 .rw[vB h1] at e ⊢;exact En e
 .rw[vA h1] at e ⊢
  by_cases h2:ma-d<k/\k<=ma
  .rw[vB h2] at e ⊢;exact En e
  .rw[vA h2] at e ⊢;exact En e
def AGg(hh:hi<=(AW st).size):Nx lo st (V2 st (mirror (AW st) lo hi ((hi-lo) / 2))):=⟨mirror_perm _ _ _ _,ξ,ξ,ξ,λi b7=>by
 rw[getElem?_mirror_all hh,vA (za b7)]⟩
def ADa(C:Cmp prog w A E s κ G rk)(B:Ba G rk κ a₀ st)(h1:1<=n)(hn:n<bu)(hs:lo+bu<=a₀.size)(up:Up rk (AW st) lo (lo+n)){Q:Option Bool->BD->Prop}
  (hy:N rk (AW st) (lo+n)<N rk (AW st) (lo+n-1)->Q (u8 true) st) (f7:Up rk (AW st) lo (lo+(n+1))->Q (u8 false) st):wpS (AN prog w) A E s (P5 (lo+n) (lo+n-1)) Q st:=by
 refine VN C B (wM hs hn) (x5 hs hn) ?_;by_cases c:N rk (AW st) (lo+n)<N rk (AW st) (lo+n-1)
 .rw[vC c]
  exact hy c
 .rw[vD c]
  refine f7 λi j li ij jh=>?_;by_cases d:j<lo+n
  .exact up i j li ij d
  .by_cases e:i=j
   .rw[e];exact Kj _
   .have:=up i (lo+n-1) li δ δ
    have ej:j=lo+n:=zb jh d;rw[ej];lia
theorem ZK(C:Cmp prog w A E s κ G rk){n0:Nat}(B:Ba G rk κ a₀ st)(h1:1<=n0)(hn:n0<=bu)(hs:lo+bu<=a₀.size)(up:Up rk (AW st) lo (lo+n0)){Q:(Option vT×Nat)->BD->Prop}
  (h:∀n,n0<=n->n<=bu->Up rk (AW st) lo (lo+n)->(n<bu->N rk (AW st) (lo+n)<N rk (AW st) (lo+n-1))->Q (u9,n) st) :
  wpS (AN prog w) A E s (forIn [n0:bu] ((u9,n0):Option vT×Nat) λ_ r=>do
   let x <- P5 (lo+r.2) (lo+r.2-1)
   match x with
   | some smaller=>if smaller=true then pure (BS (u9,r.2)) else pure (C1 (u9,r.2+1))
   | _=>pure (BS (u8 u9,r.2))) Q st:=by
 refine D0 (I:=λx c a6=>a6=st/\c=(u9,x)/\n0<=x/\x<=bu/\Up rk (AW st) lo (lo+x)) ?_ ?_ ⟨ξ,ξ,AI _,hn,up⟩
 .rintro x c a6 ax xb ⟨rfl,rfl,_,_,gp⟩
  refine AS (ADa C B (wJ h1 ax) xb hs gp (λlt=>?_) (λup2=>?_))
  .exact A8 (h x ax δ gp λ_=>lt)
  .exact A8 ⟨ξ,ξ,wG ax,xb,up2⟩
 .rintro c a6 ⟨rfl,rfl,a1,a2,gp⟩
  refine h _ a1 a2 gp λz=>?_;lia
end
variable{rk:AH->Int}{G:AH->Prop}
def Oh(C:Cmp prog w A E s κ G rk)(B:Ba G rk κ a₀ st)(h1:1<=bu)(hs:lo+bu<=a₀.size){Q:vT->BD->Prop}
  (h:∀n a6,1<=n->n<=bu->Nx lo st a6->Up rk (AW a6) lo (lo+n)->Q (u8 n) a6):wpS (AN prog w) A E s (JX lo bu) Q st:=by
 rw[Qy];refine AS (ZK C B (AI 1) h1 hs (λi j li ij jh=>by
  have:i=j:=by lia
  rw[this];exact Kj _) λn n1 nn up lt=>?_)
 dsimp only;by_cases c:n=bu
 .rw[vB (by rw[c];exact beq_self_eq_true _)]
  exact A8 (h n st n1 nn (Nx.refl _ _) up)
 rw[vA (by intro z;exact c (beq_iff_eq.mp z))];have sm:=lt (xw nn c);by_cases d:n>1
 .rw[vB d]
  refine AS (VN C B δ (ar500 hs d nn) ?_);have a1:=up lo (lo+n-1) (AI _) δ δ;have a2:=B.ne (i:=lo) (j:=lo+n-1) δ (ar500 hs d nn);rw[vC (show N rk (AW st) lo<N rk (AW st) (lo+n-1) by lia)];exact A8 (h n st n1 nn (Nx.refl _ _) up)
 rw[vA d];have e1:n=1:=by lia
 subst e1;have wn:lo+1-1=lo:=by lia
 rw[wn] at sm;refine AS (NH (IH ⟨ξ,?_⟩));refine AS (EG (D0 (I:=λx c a6=>a6=st/\c=(u9,x,0)/\2<=x/\x<=bu/\Down rk (AW st) lo (lo+x)) (Q:=λc a6=>a6=st/\∃m,c=(u9,m,0)/\2<=m/\m<=bu/\Down rk (AW st) lo (lo+m)) ?_ ?_ ⟨ξ,ξ,AI _,δ,?_⟩) ?_)
 .rintro x c a6 ax xb ⟨rfl,rfl,x2,_,dn⟩
  dsimp only;refine AS (VN C B (wM hs xb) (x5 hs xb) ?_);by_cases c1:N rk (AW a6) (lo+x)<N rk (AW a6) (lo+x-1)
  .rw[vC c1]
   dsimp only;rw[vB rfl,vA yK];refine A8 ⟨ξ,ξ,δ,xb,λi j li ij jh=>?_⟩;by_cases d1:j<lo+x
   .exact dn i j li ij d1
   .have ej:j=lo+x:=zb jh d1
    subst ej;by_cases e:i=lo+x
    .rw[e];exact Kj _
    .have:=dn i (lo+x-1) li δ (ar501 ax)
     exact Ty c1 this
  .rw[vD c1]
   dsimp only;rw[vA ζ];refine AS (VN C B (x5 hs xb) (wM hs xb) ?_);have a2:=B.ne (i:=lo+x-1) (j:=lo+x) (ar501 ax) (wM hs xb);rw[vC (show N rk (AW a6) (lo+x-1)<N rk (AW a6) (lo+x) by lia)];dsimp only;rw[vB rfl];exact A8 ⟨ξ,x,ξ,x2,δ,dn⟩
 .rintro c a6 ⟨rfl,rfl,a1,a2,dn⟩
  exact⟨ξ,_,ξ,a1,a2,dn⟩
 .intro i j li ij jh
  by_cases e:i=j
  .rw[e];exact Kj _
  .rw[show i=lo by lia,show j=lo+1 by lia]
   exact w9 sm
 .rintro c a6 ⟨rfl,m,rfl,m2,mn,dn⟩
  dsimp only;rw[vA yK,reverseSlice'_eq];have sz:lo+m<=(AW a6).size:=by rw[B.size];lia
  have nx:=AGg (st:=a6) (lo:=lo) sz;refine AS (IN ?_);have up2:Up rk (AW (V2 a6 (mirror (AW a6) lo (lo+m) ((lo+m-lo) / 2)))) lo (lo+m):=λi j li ij jh=>by
   rw[VD sz,VD sz,vB δ,vB δ];exact dn _ _ δ (zc ij) δ
  refine AS (ZK C (B.nx nx) (wO m2) mn hs up2 λn' n1' nn' gp _=>?_);exact A8 (h n' _ δ nn' nx gp)
def Nv:Nat->Nat->Nat->StateT BD Sem Bool:=sortPriv% PySem.Builtin.binarySort
def UG(lo n ok:Nat):Nv lo n ok=(do
 for k in [max ok 1:n] do
  let mut l:=0
  let mut r:=k
  for _ in [0:k] do
   if l >= r then break
   let m:=(l+r) / 2
   let u8 less <- P5 (lo+k) (lo+m)| return false
   if less then r:=m else l:=m+1
  moveDown' (lo+k) (lo+l)
 return true):=rfl
def RK(C:Cmp prog w A E s κ G rk){ok:Nat}(B:Ba G rk κ a₀ st)(hn:lo+n<=a₀.size)(hok:ok<=n)(up:Up rk (AW st) lo (lo+ok)){Q:Bool->BD->Prop}
  (h:∀a6,Nx lo st a6->Up rk (AW a6) lo (lo+n)->Q true a6):wpS (AN prog w) A E s (Nv lo n ok) Q st:=by
 rw[UG];refine AS (EG (D0 (I:=λk c a6=>c=(u9,())/\Nx lo st a6/\Up rk (AW a6) lo (lo+min k n))
  (Q:=λc a6=>c=(u9,())/\Nx lo st a6/\Up rk (AW a6) lo (lo+n)) ?step ?fin ?init) ?post)
 case post =>
  rintro c a6 ⟨rfl,nx,gp⟩;exact A8 (h a6 nx gp)
 case init =>
  refine⟨ξ,Nx.refl _ _,λi j li ij jh=>?_⟩;by_cases e:i=j
  .rw[e];exact Kj _
  .exact up i j li ij δ
 case fin =>
  rintro c a6 ⟨hc,nx,gp⟩;refine⟨hc,nx,?_⟩
  rwa [show min (max (max ok 1) n) n=n by lia] at gp
 case step =>
  rintro k c a6 hak hkn ⟨rfl,nx,gp⟩;rw[show min k n=k from yU hkn] at gp;have B':=B.nx nx;have hk:lo+k<a₀.size:=wM hn hkn;refine AS (EG (D0 (I:=λx c dC=>dC=a6/\∃l r,c=(u9,l,r)/\l<=r/\r<=k/\r-l<=k-x /\
    (∀i,lo<=i->i<lo+l->N rk (AW a6) i<=N rk (AW a6) (lo+k))/\(∀i,lo+r<=i->i<lo+k->N rk (AW a6) (lo+k)<N rk (AW a6) i))
   (Q:=λc dC=>dC=a6/\∃l r,c=(u9,l,r)/\l<=k /\
    (∀i,lo<=i->i<lo+l->N rk (AW a6) i<=N rk (AW a6) (lo+k))/\(∀i,lo+l<=i->i<lo+k->N rk (AW a6) (lo+k)<N rk (AW a6) i)) ?istep ?ifin ?iinit) ?ipost)
  case iinit=>exact⟨ξ,0,k,ξ,wU,wC,wC,λi hi=>by lia,λi h1 h2=>by lia⟩
  case ifin =>
   rintro c dC ⟨rfl,l,r,rfl,hlr,hrk,hm,ie,hhi⟩;have:l=r:=An hlr hm;subst this;exact⟨ξ,l,l,ξ,hrk,ie,hhi⟩
  case istep =>
   rintro x c dC _ hxk ⟨rfl,l,r,rfl,hlr,hrk,hm,ie,hhi⟩;dsimp only;by_cases tO:l >= r
   .rw[vB tO]
    have:l=r:=xR hlr tO;subst this;exact A8 ⟨ξ,l,l,ξ,hrk,ie,hhi⟩
   .rw[vA tO]
    refine AS (VN C B' hk δ ?_);by_cases hless:N rk (AW dC) (lo+k)<N rk (AW dC) (lo+(l+r) / 2)
    .simp only[hless,decide_true,if_true]
     refine A8 ⟨ξ,l,(l+r) / 2,ξ,δ,δ,δ,ie,λi h1 h2=>?_⟩;exact Int.lt_of_lt_of_le hless (gp _ _ vq h1 h2)
    .simp only[hless,decide_false,BY,if_false]
     refine A8 ⟨ξ,(l+r) / 2+1,r,ξ,δ,hrk,δ,λi h0 h1=>?_,hhi⟩;exact EN (gp i (lo+(l+r) / 2) h0 δ δ) (J8.mp hless)
  case ipost =>
   rintro c dC ⟨rfl,l,r,rfl,hlk,ie,hhi⟩;show wpS _ _ _ _ (do moveDown' (lo+k) (lo+l);pure (C1 (u9,()))) _ _;rw[moveDown'_eq];have sI:lo+k<(AW dC).size:=by rw[B'.size];exact hk
   have nx2:Nx lo dC (V2 dC (bubble (AW dC) (lo+k) (lo+k-(lo+l)))):=⟨bubble_perm _ _ _,ξ,ξ,ξ,λi hi=>by
    rw[getElem?_bubble sI _ wk,vA δ,vA δ]⟩
   refine AS (IN (A8 ⟨ξ,nx.trans nx2,?_⟩));rw[show min (k+1) n=k+1 by lia];intro i j li hU hj;rw[Vo sI wk,Vo sI wk,show lo+k-(lo+k-(lo+l))=lo+l by lia]
   repeat' split
   all_goals first
    | (exfalso;omega)
    | exact Kj _
    | exact ie _ (by omega) (by omega)
    | exact FO (hhi _ δ δ)
    | exact gp _ _ δ δ δ
variable{rk:AH->Int}{G:AH->Prop}
noncomputable def Cw:Bool->AH->Array AH->Nat->Nat->Nat->StateT BD Sem vT:=sortPriv% PySem.Builtin.gallop
noncomputable def Eo(left:Bool)(key:AH)(arr:Array AH)(base i:Nat):StateT BD Sem (Option Bool):=do
  let x <- D3 arr (base+i)
  if left then lt' x key else return (<- lt' key x).map (!·)
def YM(left:Bool)(key:AH)(arr:Array AH)(base n hint:Nat):Cw left key arr base n hint=(do
 let mut lastofs:=0
 let mut ofs:=1
 let mut lo:=0
 let mut hi:=0
 let u8 right <- Eo left key arr base hint| return u9
 if right then
  let maxofs:=n-hint
  for _ in [0:n] do
   if ofs >= maxofs then break
   let u8 more <- Eo left key arr base (hint+ofs)| return u9
   if !more then break
   lastofs:=ofs
   ofs:=2*ofs+1
  lo:=hint+lastofs+1
  hi:=hint+min ofs maxofs
 else
  let maxofs:=hint+1
  for _ in [0:n] do
   if ofs >= maxofs then break
   let u8 found <- Eo left key arr base (hint-ofs)| return u9
   if found then break
   lastofs:=ofs
   ofs:=2*ofs+1
  lo:=hint+1-min ofs maxofs
  hi:=hint-lastofs
 for _ in [0:n] do
  if lo >= hi then break
  let m:=lo+(hi-lo) / 2
  let u8 more <- Eo left key arr base m| return u9
  if more then lo:=m+1 else hi:=m
 return u8 hi):=rfl
noncomputable def bey(rk:AH->Int)(left:Bool)(key:AH)(arr:Array AH)(base i:Nat):Bool:=if left then decide (N rk arr (base+i)<rk key) else !decide (rk key<N rk arr (base+i))
def XJ(C:Cmp prog w A E s κ G rk){key:AH}{base:Nat}{Q:Option Bool->BD->Prop}(hk:G key)(al:Al G arr)(kd:kindOf st=κ)(hi:base+i<arr.size)(h:Q (u8 (bey rk left key arr base i)) st) :
  wpS (AN prog w) A E s (Eo left key arr base i) Q st:=by
 unfold Eo;refine AS (Bj hi ?_);unfold bey at h;rw[Fl hi] at h;cases left with
 | true =>
  rw[vB rfl] at h ⊢;exact C _ _ (al.at hi) hk st _ kd h
 | false =>
  rw[vA ζ] at h ⊢;refine AS (C _ _ hk (al.at hi) st _ kd (A8 ?_));exact h
def Mono(p:Nat->Bool)(n:Nat):Prop:=∀i j,i<=j->j<n->p j=true->p i=true
def FP{key:AH}{base:Nat}(up:Up rk arr base (base+n)):Mono (bey rk left key arr base) n:=λi j ij jn h=>by
 have:=up (base+i) (base+j) vq δ (ze jn);unfold bey at h ⊢;cases left with
 | true =>
  rw[vB rfl] at h ⊢;have:=vE h;exact vC δ
 | false =>
  rw[vA ζ] at h ⊢;have h':¬ rk key<N rk arr (base+j):=λz=>by rw[vC z] at h;cases h
  rw[vD δ];rfl
def Dh(C:Cmp prog w A E s κ G rk){key:AH}{base hint:Nat}{Q:vT->BD->Prop}(hk:G key)(al:Al G arr)(kd:kindOf st=κ)(hn:base+n<=arr.size)(hh:hint<n)(mo:Mono (bey rk left key arr base) n)
  (h:∀k,k<=n->(∀i,i<k->bey rk left key arr base i=true)->(∀i,k<=i->i<n->bey rk left key arr base i=false)->Q (u8 k) st):wpS (AN prog w) A E s (Cw left key arr base n hint) Q st:=by
 rw[YM];generalize hp:bey rk left key arr base=p at mo h;have ask:∀{i:Nat}{Q:Option Bool->BD->Prop},i<n->Q (u8 (p i)) st->wpS (AN prog w) A E s (Eo left key arr base i) Q st:=λ{i Q} hi q=>XJ C hk al kd (wM hn hi) (by rw[hp];exact q);have rN:∀{k:Nat},(k<n->p k=false)->∀i,k<=i->i<n->p i=false:=λ{k} hk i ki il=>by
  cases e:p i with
  | false=>rfl
  | true =>
   have:=mo k i ki il e;rw[hk (v6 ki il)] at this;cases this
 have fin:∀{lo hi:Nat},lo<=hi->hi<=n->(∀i,i<lo->p i=true)->(∀i,hi<=i->i<n->p i=false) ->
   ∀{Q':(Option vT×Nat×Nat)->BD->Prop},(∀l,l<=n->(∀i,i<l->p i=true)->(∀i,l<=i->i<n->p i=false)->Q' (u9,l,l) st) ->
   wpS (AN prog w) A E s (forIn [0:n] ((u9,lo,hi):Option vT×Nat×Nat) λ_ r =>
     if r.2.1 >= r.2.2 then pure (BS (u9,r.2.1,r.2.2))
     else do
      let x <- Eo left key arr base (r.2.1+(r.2.2-r.2.1) / 2)
      match x with
      | some more =>
       if more=true then pure (C1 (u9,r.2.1+(r.2.2-r.2.1) / 2+1,r.2.2))
       else pure (C1 (u9,r.2.1,r.2.1+(r.2.2-r.2.1) / 2))
      | _=>pure (BS (u8 u9,r.2.1,r.2.2))) Q' st:=λ{lo hi} lh ur ht hf {Q'} h'=>by
  refine EG (D0 (I:=λx c a6=>a6=st/\∃l r,c=(u9,l,r)/\l<=r/\r<=n/\r-l<=n-x/\(∀i,i<l->p i=true)/\(∀i,r<=i->i<n->p i=false))
   (Q:=λc a6=>a6=st/\∃l,c=(u9,l,l)/\l<=n/\(∀i,i<l->p i=true)/\(∀i,l<=i->i<n->p i=false)) ?_ ?_ ⟨ξ,lo,hi,ξ,lh,ur,δ,ht,hf⟩) ?_
  .rintro x c a6 _ xn ⟨rfl,l,r,rfl,lr,rn,sz,tr,fa⟩
   dsimp only;by_cases c1:l >= r
   .rw[vB c1]
    have:l=r:=xR lr c1;subst this;exact A8 ⟨ξ,l,ξ,rn,tr,fa⟩
   .rw[vA c1]
    refine AS (ask (zZ rn c1) ?_);cases e:p (l+(r-l) / 2) with
    | true =>
     dsimp only;rw[vB rfl];exact A8 ⟨ξ,_,r,ξ,δ,rn,δ,λi hi=>mo i _ (wu hi) (zZ rn c1) e,fa⟩
    | false =>
     dsimp only;rw[vA ζ];exact A8 ⟨ξ,l,_,ξ,vq,δ,δ,tr,rN λ_=>e⟩
  .rintro c a6 ⟨rfl,l,r,rfl,lr,rn,sz,tr,fa⟩
   have:l=r:=An lr sz;subst this;exact⟨ξ,l,ξ,rn,tr,fa⟩
  .rintro c a6 ⟨rfl,l,rfl,ln,tr,fa⟩
   exact h' l ln tr fa
 refine AS (ask hh ?_);cases ph:p hint with
 | true =>
  dsimp only;rw[vB rfl];refine AS (EG (D0 (I:=λx c a6=>a6=st/\∃l o,c=(u9,l,o)/\l<o/\x+1<=o/\hint+l<n/\p (hint+l)=true)
   (Q:=λc a6=>a6=st/\∃l o,c=(u9,l,o)/\l<o/\hint+l<n/\p (hint+l)=true/\(o<n-hint->p (hint+o)=false)) ?_ ?_ ⟨ξ,0,1,ξ,BT,Cl,δ,ph⟩) ?_)
  .rintro x c a6 _ xn ⟨rfl,l,o,rfl,lo,xo,ln,pl⟩
   dsimp only;by_cases c1:o >= n-hint
   .rw[vB c1]
    exact A8 ⟨ξ,l,o,ξ,lo,ln,pl,λz=>vF z (wW c1)⟩
   .rw[vA c1]
    refine AS (ask (Fr c1) ?_);cases e:p (hint+o) with
    | true =>
     dsimp only;rw[vA ζ];exact A8 ⟨ξ,o,_,ξ,KK,NW xo,Fr c1,e⟩
    | false =>
     dsimp only;rw[vB ζ];exact A8 ⟨ξ,l,o,ξ,lo,ln,pl,λ_=>e⟩
  .rintro c a6 ⟨rfl,l,o,rfl,lo,xo,ln,pl⟩
   exact⟨ξ,l,o,ξ,lo,ln,pl,λz=>vF z δ⟩
  .rintro c a6 ⟨rfl,l,o,rfl,lo,ln,pl,pf⟩
   dsimp only;refine AS (fin (lo:=hint+l+1) (hi:=hint+min o (n-hint)) δ δ (λi hi=>mo i (hint+l) (wu hi) ln pl) ?_ λk kn kt kf=>A8 (h k kn kt kf));by_cases c1:o<n-hint
   .rw[show hint+min o (n-hint)=hint+o by lia]
    exact rN λ_=>pf c1
   .rw[show hint+min o (n-hint)=n by lia]
    exact λi a b=>vF a δ
 | false =>
  dsimp only;rw[vA ζ];refine AS (EG (D0 (I:=λx c a6=>a6=st/\∃l o,c=(u9,l,o)/\l<o/\x+1<=o/\l<=hint/\p (hint-l)=false)
   (Q:=λc a6=>a6=st/\∃l o,c=(u9,l,o)/\l<o/\l<=hint/\p (hint-l)=false/\(o<hint+1->p (hint-o)=true)) ?_ ?_ ⟨ξ,0,1,ξ,BT,Cl,wU,ph⟩) ?_)
  .rintro x c a6 _ xn ⟨rfl,l,o,rfl,lo,xo,ln,pl⟩
   dsimp only;by_cases c1:o >= hint+1
   .rw[vB c1]
    exact A8 ⟨ξ,l,o,ξ,lo,ln,pl,λz=>vF z (wW c1)⟩
   .rw[vA c1]
    refine AS (ask (xK hh) ?_);cases e:p (hint-o) with
    | true =>
     dsimp only;rw[vB rfl];exact A8 ⟨ξ,l,o,ξ,lo,ln,pl,λ_=>e⟩
    | false =>
     dsimp only;rw[vA ζ];exact A8 ⟨ξ,o,_,ξ,KK,NW xo,δ,e⟩
  .rintro c a6 ⟨rfl,l,o,rfl,lo,xo,ln,pl⟩
   exact⟨ξ,l,o,ξ,lo,ln,pl,λz=>vF z δ⟩
  .rintro c a6 ⟨rfl,l,o,rfl,lo,ln,pl,pt⟩
   dsimp only;refine AS (fin (lo:=hint+1-min o (hint+1)) (hi:=hint-l) δ δ ?_ (rN λ_=>pl) λk kn kt kf=>A8 (h k kn kt kf));by_cases c1:o<hint+1
   .rw[show hint+1-min o (hint+1)=hint+1-o by lia]
    exact λi hi=>mo i (hint-o) (xQ hi) (xK hh) (pt c1)
   .rw[show hint+1-min o (hint+1)=0 by lia]
    exact λi hi=>vF hi wa
variable{rk:AH->Int}{G:AH->Prop}
def Srt(rk:AH->Int)(l:List AH):Prop:=l.Pairwise λx y=>rk x<=rk y
structure MI(rk:AH->Int)(a b out:List AH)(ia ib:Nat):Prop where
 perm:(out++(a.drop ia++b.drop ib)).Perm (a++b)
 srt:Srt rk out
 oa:∀x∈out,∀y∈a.drop ia,rk x<=rk y
 ob:∀x∈out,∀y∈b.drop ib,rk x<=rk y
def Tr(l:List α)(i k:Nat):l.drop i=(l.drop i).take k++l.drop (i+k):=by rw[<- Rs];exact(F6 k (l.drop i)).symm
def MI.takeA{a b out:List AH}(m:MI rk a b out ia ib)(sa:Srt rk a)(k:Nat)(h:∀y∈(a.drop ia).take k,∀z∈b.drop ib,rk y<=rk z):MI rk a b (out++(a.drop ia).take k) (ia+k) ib:=by
 have e:=Tr a ia k;have sd:Srt rk (a.drop ia):=sa.sublist (ID ..);refine⟨?_,?_,?_,?_⟩
 .refine P6 ?_ m.perm
  rw[CH];refine EL _ ?_;rw[<- CH,<- e]
 .refine C4.mpr ⟨m.srt,sd.sublist (Kk ..),λx hx y hy=>m.oa x hx y (M0 hy)⟩
 .intro x hx y hy
  rcases Cf.mp hx with hx| hx
  .exact m.oa x hx y (by rw[e];exact Co _ hy)
  .unfold Srt at sd
   rw[e] at sd;exact(C4.mp sd).2.2 x hx y hy
 .intro x hx y hy
  rcases Cf.mp hx with hx| hx
  .exact m.ob x hx y hy
  .exact h x hx y hy
def MI.takeB{a b out:List AH}(m:MI rk a b out ia ib)(sb:Srt rk b)(k:Nat)(h:∀y∈(b.drop ib).take k,∀z∈a.drop ia,rk y<=rk z):MI rk a b (out++(b.drop ib).take k) ia (ib+k):=by
 have e:=Tr b ib k;have sd:Srt rk (b.drop ib):=sb.sublist (ID ..);refine⟨?_,?_,?_,?_⟩
 .refine P6 ?_ m.perm
  rw[CH];refine EL _ ?_;rw[<- CH];refine(Me _ (HV)).trans ?_;rw[CH,<- e]
 .refine C4.mpr ⟨m.srt,sd.sublist (Kk ..),λx hx y hy=>m.ob x hx y (M0 hy)⟩
 .intro x hx y hy
  rcases Cf.mp hx with hx| hx
  .exact m.oa x hx y hy
  .exact h x hx y hy
 .intro x hx y hy
  rcases Cf.mp hx with hx| hx
  .exact m.ob x hx y (by rw[e];exact Co _ hy)
  .unfold Srt at sd
   rw[e] at sd;exact(C4.mp sd).2.2 x hx y hy
def Mg(rk:AH->Int)(a b r:List AH):Prop:=r.Perm (a++b)/\Srt rk r
def MI.doneB{a b out:List AH}(m:MI rk a b out ia ib)(sa:Srt rk a)(h:b.length<=ib):Mg rk a b (out++a.drop ia++b.drop ib):=by
 rw[FS h,B5];have p:=m.perm;rw[FS h,B5] at p;exact⟨p,C4.mpr ⟨m.srt,sa.sublist (ID ..),m.oa⟩⟩
def MI.doneA{a b out:List AH}(m:MI rk a b out ia ib)(sb:Srt rk b)(h:a.length<=ia):Mg rk a b (out++a.drop ia++b.drop ib):=by
 rw[FS h,B5];have p:=m.perm;rw[FS h,V3] at p;exact⟨p,C4.mpr ⟨m.srt,sb.sublist (ID ..),m.ob⟩⟩
def MI.last{a b out:List AH}(m:MI rk a b out ia ib)(sb:Srt rk b)(h:ia+1=a.length)(hl:∀y∈b,∀z∈a.drop ia,rk y<=rk z):Mg rk a b (out++b.drop ib++a.drop ia):=by
 refine⟨?_,?_⟩
 .refine P6 ?_ m.perm
  rw[CH];exact EL _ HV
 .have one:Srt rk (a.drop ia):=by
   have l1:(a.drop ia).length=1:=by rw[IU];lia
   obtain⟨x,ex⟩:=List.length_eq_one_iff.mp l1;rw[ex];exact JU ..
  refine C4.mpr ⟨C4.mpr ⟨m.srt,sb.sublist (ID ..),m.ob⟩,one,λx hx y hy=>?_⟩;rcases Cf.mp hx with hx| hx
  .exact m.oa x hx y hy
  .exact hl x (R9 hx) y hy
variable{rk:AH->Int}{G:AH->Prop}
def ifc{c:Prop}{i j:Decidable c}{x y u v:α}(h1:x=u)(h2:y=v):(@ite α c i x y)=(@ite α c j u v):=by rw[h1,h2];congr
def Dq:Nat->StateT BD Sem Unit:=sortPriv% PySem.Builtin.setMinGallop
def YC(g:Nat):Dq g=modify λs=>J9 (kindOf s) (AW s) (BH s) g (G5 s):=rfl
noncomputable abbrev loDone(a b out:Array AH)(ia ib:Nat):Array AH:=out++a.extract ia a.size++b.extract ib b.size
noncomputable abbrev loLast(a b out:Array AH)(ia ib:Nat):Array AH:=out++b.extract ib b.size++a.extract ia a.size
abbrev S1:=Option (Array AH)×Array AH×Nat×Nat×Nat×Nat
abbrev S2:=Option (Array AH)×Array AH×Nat×Nat×Nat×Nat×Nat
abbrev S0:=Option (Array AH)×Array AH×Nat×Nat×Nat
noncomputable def loOne(a b:Array AH)(mg:Nat)(r:S1):StateT BD Sem (ForInStep S1):=do
 let y <- D3 b r.2.2.2.1
 let x <- D3 a r.2.2.1
 let c <- lt' y x
 match c with
 | some bWins =>
  if bWins=true then do
   let y <- D3 b r.2.2.2.1
   if(r.2.2.2.1+1==b.size)=true then
    pure (BS (u8 (loDone a b (r.2.1.push y) r.2.2.1 (r.2.2.2.1+1)),r.2.1.push y,r.2.2.1,r.2.2.2.1+1,0,r.2.2.2.2.2+1))
   else if r.2.2.2.2.2+1 >= mg then
    pure (BS (u9,r.2.1.push y,r.2.2.1,r.2.2.2.1+1,0,r.2.2.2.2.2+1))
   else pure (C1 (u9,r.2.1.push y,r.2.2.1,r.2.2.2.1+1,0,r.2.2.2.2.2+1))
  else do
   let x <- D3 a r.2.2.1
   if(r.2.2.1+1+1==a.size)=true then
    pure (BS (u8 (loLast a b (r.2.1.push x) (r.2.2.1+1) r.2.2.2.1),r.2.1.push x,r.2.2.1+1,r.2.2.2.1,r.2.2.2.2.1+1,0))
   else if r.2.2.2.2.1+1 >= mg then
    pure (BS (u9,r.2.1.push x,r.2.2.1+1,r.2.2.2.1,r.2.2.2.2.1+1,0))
   else pure (C1 (u9,r.2.1.push x,r.2.2.1+1,r.2.2.2.1,r.2.2.2.2.1+1,0))
 | _=>pure (BS (u8 (loDone a b r.2.1 r.2.2.1 r.2.2.2.1),r.2.1,r.2.2.1,r.2.2.2.1,r.2.2.2.2.1,r.2.2.2.2.2))
noncomputable def loEnd(a b:Array AH)(mg ac bc:Nat)(out:Array AH)(ia ib:Nat):StateT BD Sem (ForInStep S2):=do
 let x <- D3 a ia
 if(ia+1+1==a.size)=true then pure (BS (u8 (loLast a b (out.push x) (ia+1) ib),out.push x,ia+1,ib,mg,ac,bc))
 else if(decide (ac<7)&&decide (bc<7))=true then pure (BS (u9,out.push x,ia+1,ib,mg,ac,bc))
 else pure (C1 (u9,out.push x,ia+1,ib,mg,ac,bc))
noncomputable def loMid(a b:Array AH)(mg k bc:Nat)(out:Array AH)(ia ib:Nat):StateT BD Sem (ForInStep S2):=do
 let y <- D3 b ib
 if(ib+1==b.size)=true then pure (BS (u8 (loDone a b (out.push y) ia (ib+1)),out.push y,ia,ib+1,mg,k,bc))
 else do
  let x <- D3 a ia
  let r <- Cw true x b (ib+1) (b.size-(ib+1)) 0
  match r with
  | some k' =>
   if k'>0 then
    if(ib+1+k'==b.size)=true then pure (BS (u8 (loDone a b (out.push y++b.extract (ib+1) (ib+1+k')) ia (ib+1+k')),out.push y++b.extract (ib+1) (ib+1+k'),ia,ib+1+k',mg,k,k'))
    else loEnd a b mg k k' (out.push y++b.extract (ib+1) (ib+1+k')) ia (ib+1+k')
   else loEnd a b mg k k' (out.push y) ia (ib+1)
  | _=>pure (BS (u8 (loDone a b (out.push y) ia (ib+1)),out.push y,ia,ib+1,mg,k,bc))
noncomputable def loGal(a b:Array AH)(mg ac bc:Nat)(out:Array AH)(ia ib:Nat):StateT BD Sem (ForInStep S2):=do
 Dq mg
 let y <- D3 b ib
 let r <- Cw false y a ia (a.size-ia) 0
 match r with
 | some k =>
  if k>0 then
   if(ia+k+1==a.size)=true then pure (BS (u8 (loLast a b (out++a.extract ia (ia+k)) (ia+k) ib),out++a.extract ia (ia+k),ia+k,ib,mg,k,bc))
   else if(ia+k==a.size)=true then pure (BS (u8 (loDone a b (out++a.extract ia (ia+k)) (ia+k) ib),out++a.extract ia (ia+k),ia+k,ib,mg,k,bc))
   else loMid a b mg k bc (out++a.extract ia (ia+k)) (ia+k) ib
  else loMid a b mg k bc out ia ib
 | _=>pure (BS (u8 (loDone a b out ia ib),out,ia,ib,mg,ac,bc))
def Ig:Array AH->Array AH->StateT BD Sem (Array AH):=sortPriv% PySem.Builtin.mergeLo
def Xl(a b:Array AH):Ig a b=(do
 rule "list.sort.merge-lo"
 let total:=a.size+b.size
 let done (out:Array AH) (ia ib:Nat):=out++a.extract ia a.size++b.extract ib b.size
 let lastOfA (out:Array AH) (ia ib:Nat):=out++b.extract ib b.size++a.extract ia a.size
 let mut out:Array AH:=#[<- D3 b 0]
 let mut ia:=0
 let mut ib:=1
 if ib==b.size then return done out ia ib
 if ia+1==a.size then return lastOfA out ia ib
 let mut minGallop:=Sa (<- get)
 for _ in [0:total] do
  let mut acount:=0
  let mut bcount:=0
  for _ in [0:total] do
   let u8 bWins <- lt' (<- D3 b ib) (<- D3 a ia)| return done out ia ib
   if bWins then
    out:=out.push (<- D3 b ib);ib:=ib+1;bcount:=bcount+1;acount:=0
    if ib==b.size then return done out ia ib
    if bcount >= minGallop then break
   else
    out:=out.push (<- D3 a ia);ia:=ia+1;acount:=acount+1;bcount:=0
    if ia+1==a.size then return lastOfA out ia ib
    if acount >= minGallop then break
  rule "list.sort.gallop"
  minGallop:=minGallop+1
  for _ in [0:total] do
   if minGallop>1 then minGallop:=minGallop-1
   Dq minGallop
   let u8 k <- Cw false (<- D3 b ib) a ia (a.size-ia) 0| return done out ia ib
   acount:=k
   if k>0 then
    out:=out++a.extract ia (ia+k);ia:=ia+k
    if ia+1==a.size then return lastOfA out ia ib
    if ia==a.size then return done out ia ib
   out:=out.push (<- D3 b ib);ib:=ib+1
   if ib==b.size then return done out ia ib
   let u8 k <- Cw true (<- D3 a ia) b ib (b.size-ib) 0| return done out ia ib
   bcount:=k
   if k>0 then
    out:=out++b.extract ib (ib+k);ib:=ib+k
    if ib==b.size then return done out ia ib
   out:=out.push (<- D3 a ia);ia:=ia+1
   if ia+1==a.size then return lastOfA out ia ib
   if acount<7&&bcount<7 then break
  minGallop:=minGallop+1
  Dq minGallop
 unsupported "internal:list.sort.merge-bound"):=rfl
set_option pp.proofs true in
theorem Uj(a b:Array AH):Ig a b=(do
 liftM (rule "list.sort.merge-lo")
 let y <- D3 b 0
 if(1==b.size)=true then pure (loDone a b #[y] 0 1)
 else if(0+1==a.size)=true then pure (loLast a b #[y] 0 1)
 else do
  let g <- get
  let r <- forIn [0:a.size+b.size] ((u9,#[y],0,1,Sa g):S0) λ_ r0=>do
   let r1 <- forIn [0:a.size+b.size] ((u9,r0.2.1,r0.2.2.1,r0.2.2.2.1,0,0):S1) λ_ r=>loOne a b r0.2.2.2.2 r
   match r1.1 with
   | some x=>pure (BS ((u8 x,r1.2.1,r1.2.2.1,r1.2.2.2.1,r0.2.2.2.2):S0))
   | none=>do
    liftM (rule "list.sort.gallop")
    let r2 <- forIn [0:a.size+b.size] ((u9,r1.2.1,r1.2.2.1,r1.2.2.2.1,r0.2.2.2.2+1,r1.2.2.2.2.1,r1.2.2.2.2.2):S2) λ_ r =>
     if r.2.2.2.2.1>1 then loGal a b (r.2.2.2.2.1-1) r.2.2.2.2.2.1 r.2.2.2.2.2.2 r.2.1 r.2.2.1 r.2.2.2.1
     else loGal a b r.2.2.2.2.1 r.2.2.2.2.2.1 r.2.2.2.2.2.2 r.2.1 r.2.2.1 r.2.2.2.1
    match r2.1 with
    | some x=>pure (BS ((u8 x,r2.2.1,r2.2.2.1,r2.2.2.2.1,r2.2.2.2.2.1):S0))
    | none=>do
     Dq (r2.2.2.2.2.1+1)
     pure (C1 ((u9,r2.2.1,r2.2.2.1,r2.2.2.2.1,r2.2.2.2.2.1+1):S0))
  match r.1 with
  | some x=>pure x
  | none=>unsupported "internal:list.sort.merge-bound"):=by
 rw[Xl];dsimp only
 congr 1
 funext _
 congr 1
 funext y
 refine ifc rfl (ifc rfl ?_)
 congr 1
 funext g
 congr 1
 .congr 1
  funext x r0
  congr 1
  funext r1
  obtain⟨o1,r1⟩:=r1;cases o1 with
  | some x=>rfl
  | none =>
   dsimp only
   congr 1
   funext u
   congr 1
   funext r2
   obtain⟨o2,r2⟩:=r2;cases o2<;>rfl
 .funext r
  obtain⟨o,r⟩:=r;cases o<;>rfl
variable{rk:AH->Int}{G:AH->Prop}
structure Gx(st a6:BD):Prop where
 arr:AW a6=AW st
 kind:kindOf a6=kindOf st
 failed:G5 a6=G5 st
 pend:BH a6=BH st
def Gx.refl(st:BD):Gx st st:=⟨ξ,ξ,ξ,ξ⟩
def Ub{out b:Array AH}(h:ib<b.size):(out.push b[ib]).toList=out.toList++(b.toList.drop ib).take 1:=by
 rw[Kx]
 congr 1
 have hl:ib<b.toList.length:=by simpa using h
 rw[LF hl,M9,RA];simp
def Yy{out a:Array AH}(i k:Nat):(out++a.extract i (i+k)).toList=out.toList++(a.toList.drop i).take k:=by
 rw[DI,G6]
 congr 1
 simp[Tu]
def JK(a:Array AH)(i:Nat):(a.extract i a.size).toList=a.toList.drop i:=by
 rw[G6];simp[Tu];rw[Mc θ]
def Ui(a b out:Array AH)(ia ib:Nat):(loDone a b out ia ib).toList=out.toList++a.toList.drop ia++b.toList.drop ib:=by
 unfold loDone;rw[DI,DI,JK,JK]
def ACa(a b out:Array AH)(ia ib:Nat):(loLast a b out ia ib).toList=out.toList++b.toList.drop ib++a.toList.drop ia:=by
 unfold loLast;rw[DI,DI,JK,JK]
def Dv{a:Array AH}{z:AH}(h:z∈a.toList.drop i):∃j,i<=j/\∃hj:j<a.size,z=a[j]:=by
 obtain⟨k,hk,e⟩:=CS.mp h;rw[IU] at hk;refine⟨i+k,δ,by
               have:a.toList.length=a.size:=by simp
               lia,?_⟩
 rw[<- e,OC];simp
def Ca{a:Array AH}{k:Nat}{z:AH}(h:z∈(a.toList.drop i).take k):∃j,i<=j/\j<i+k/\∃hj:j<a.size,z=a[j]:=by
 obtain⟨n,hk,e⟩:=CS.mp h;rw[BV,IU] at hk;have:a.toList.length=a.size:=by simp
 refine⟨i+n,vq,δ,δ,?_⟩;rw[<- e,Kt,OC];simp
def FJ{a:Array AH}(sa:Srt rk a.toList)(ij:i<=j)(hj:j<a.size):rk (a[i]'(v6 ij hj))<=rk a[j]:=by
 by_cases e:i=j
 .subst e;exact Kj _
 .have:=B7.mp sa i j (by simp;exact v6 ij hj) (by simpa using hj) (xw ij e)
  simpa using this
def Td{a:Array AH}(sa:Srt rk a.toList)(h:hi<=a.size):Up rk a lo hi:=λi j li ij jh=>by
 rw[Fl (show i<a.size by lia),Fl (show j<a.size from vy jh h)];exact FJ sa ij (vy jh h)
section
variable{a b:Array AH}
def At(rk:AH->Int)(a b out:Array AH)(ia ib:Nat):Prop:=MI rk a.toList b.toList out.toList ia ib/\ia+1<a.size/\ib<b.size
structure Lo(G:AH->Prop)(rk:AH->Int)(a b:Array AH):Prop where
 ga:Al G a
 gb:Al G b
 sa:Srt rk a.toList
 sb:Srt rk b.toList
 hl:∀y∈b.toList,∀z∈a.toList.drop (a.size-1),rk y<=rk z
def Lo.done(L:Lo G rk a b){out:Array AH}(m:MI rk a.toList b.toList out.toList ia ib)(h:b.size<=ib):Mg rk a.toList b.toList (loDone a b out ia ib).toList:=by
 rw[Ui];exact m.doneB L.sa (by simpa using h)
def Lo.doneA(L:Lo G rk a b){out:Array AH}(m:MI rk a.toList b.toList out.toList ia ib)(h:a.size<=ia):Mg rk a.toList b.toList (loDone a b out ia ib).toList:=by
 rw[Ui];exact m.doneA L.sb (by simpa using h)
def Lo.last(L:Lo G rk a b){out:Array AH}(m:MI rk a.toList b.toList out.toList ia ib)(h:ia+1=a.size):Mg rk a.toList b.toList (loLast a b out ia ib).toList:=by
 rw[ACa];refine m.last L.sb (by simpa using h) λy hy z hz=>L.hl y hy z ?_;rw[show a.size-1=ia by lia];exact hz
def Lo.stepB(L:Lo G rk a b){out:Array AH}(m:MI rk a.toList b.toList out.toList ia ib)(hb:ib<b.size)(h:∀j,ia<=j->∀hj:j<a.size,rk b[ib]<=rk a[j]):MI rk a.toList b.toList (out.push b[ib]).toList ia (ib+1):=by
 rw[Ub hb];refine m.takeB L.sb 1 λy hy z hz=>?_;obtain⟨j,j1,j2,hj,rfl⟩:=Ca hy;have:j=ib:=yZ j2 j1;subst this;obtain⟨i,i1,hi,rfl⟩:=Dv hz;exact h i i1 hi
def Lo.stepA(L:Lo G rk a b){out:Array AH}(m:MI rk a.toList b.toList out.toList ia ib)(ha:ia<a.size)(h:∀j,ib<=j->∀hj:j<b.size,rk a[ia]<=rk b[j]):MI rk a.toList b.toList (out.push a[ia]).toList (ia+1) ib:=by
 rw[Ub ha];refine m.takeA L.sa 1 λy hy z hz=>?_;obtain⟨j,j1,j2,hj,rfl⟩:=Ca hy;have:j=ia:=yZ j2 j1;subst this;obtain⟨i,i1,hi,rfl⟩:=Dv hz;exact h i i1 hi
def Lo.manyA(L:Lo G rk a b){out:Array AH}{k:Nat}(m:MI rk a.toList b.toList out.toList ia ib)(h:∀i,ia<=i->i<ia+k->∀hi:i<a.size,∀j,ib<=j->∀hj:j<b.size,rk a[i]<=rk b[j]):MI rk a.toList b.toList (out++a.extract ia (ia+k)).toList (ia+k) ib:=by
 rw[Yy];refine m.takeA L.sa k λy hy z hz=>?_;obtain⟨i,i1,i2,hi,rfl⟩:=Ca hy;obtain⟨j,j1,hj,rfl⟩:=Dv hz;exact h i i1 i2 hi j j1 hj
def Lo.manyB(L:Lo G rk a b){out:Array AH}{k:Nat}(m:MI rk a.toList b.toList out.toList ia ib)(h:∀i,ib<=i->i<ib+k->∀hi:i<b.size,∀j,ia<=j->∀hj:j<a.size,rk b[i]<=rk a[j]):MI rk a.toList b.toList (out++b.extract ib (ib+k)).toList ia (ib+k):=by
 rw[Yy];refine m.takeB L.sb k λy hy z hz=>?_;obtain⟨i,i1,i2,hi,rfl⟩:=Ca hy;obtain⟨j,j1,hj,rfl⟩:=Dv hz;exact h i i1 i2 hi j j1 hj
def Rk(g:Gx st a6)(m:Nat):Gx st (J9 (kindOf a6) (AW a6) (BH a6) m (G5 a6)):=⟨g.arr,g.kind,g.failed,g.pend⟩
def setMin{g:Nat}{Q:Unit->BD->Prop}(h:Q () (J9 (kindOf st) (AW st) (BH st) g (G5 st))):wpS (AN prog w) A E s (Dq g) Q st:=by
 rw[YC];exact IN h
def E1(rk:AH->Int)(a b:Array AH)(st:BD)(m:Nat)(r:S1)(a6:BD):Prop:=Gx st a6/\((∃x y,r=(u8 x,y)/\Mg rk a.toList b.toList x.toList)\/∃out ia ib ac bc,r=(u9,out,ia,ib,ac,bc)/\At rk a b out ia ib/\m<=ia+ib)
def E2(rk:AH->Int)(a b:Array AH)(st:BD)(m:Nat)(r:S2)(a6:BD):Prop:=Gx st a6/\((∃x y,r=(u8 x,y)/\Mg rk a.toList b.toList x.toList)\/∃out ia ib mg ac bc,r=(u9,out,ia,ib,mg,ac,bc)/\At rk a b out ia ib/\m<=ia+ib)
def Y1(rk:AH->Int)(a b:Array AH)(st:BD)(m:Nat)(r:S1)(a6:BD):Prop:=Gx st a6/\∃out ia ib ac bc,r=(u9,out,ia,ib,ac,bc)/\At rk a b out ia ib/\m<=ia+ib
def Y2(rk:AH->Int)(a b:Array AH)(st:BD)(m:Nat)(r:S2)(a6:BD):Prop:=Gx st a6/\∃out ia ib mg ac bc,r=(u9,out,ia,ib,mg,ac,bc)/\At rk a b out ia ib/\m<=ia+ib
def AAy(C:Cmp prog w A E s κ G rk)(L:Lo G rk a b){mg:Nat}{out:Array AH}(kd:kindOf cm=κ)(g:Gx cm st)(at_:At rk a b out ia ib)(hm:m<=ia+ib) :
  wpS (AN prog w) A E s (loOne a b mg (u9,out,ia,ib,ac,bc)) (λr a6=>match r with| .done c'=>E1 rk a b cm (m+1) c' a6| .yield c'=>Y1 rk a b cm (m+1) c' a6) st:=by
 obtain⟨mi,la,lb⟩:=at_;have iq:ia<a.size:=vp la;unfold loOne;dsimp only;refine AS (Bj lb (AS (Bj iq (AS (C _ _ (L.gb.at lb) (L.ga.at iq) st _ (g.kind.trans kd) ?_)))));by_cases c:rk b[ib]<rk a[ia]
 .rw[vC c]
  dsimp only;rw[vB rfl];refine AS (Bj lb ?_);have cv:=L.stepB mi lb λj j1 hj=>EN (FO c) (FJ L.sa j1 hj);by_cases c1:ib+1=b.size
  .rw[vB (by rw[c1];exact beq_self_eq_true _)]
   exact A8 ⟨g,.inl ⟨_,_,ξ,L.done cv (wg c1)⟩⟩
  .rw[vA (by intro z;exact c1 (beq_iff_eq.mp z))]
   by_cases c2:bc+1 >= mg
   .rw[vB c2]
    exact A8 ⟨g,.inr ⟨_,_,_,_,_,ξ,⟨cv,la,wE lb c1⟩,zA hm⟩⟩
   .rw[vA c2]
    exact A8 ⟨g,_,_,_,_,_,ξ,⟨cv,la,wE lb c1⟩,zA hm⟩
 .rw[vD c]
  dsimp only;rw[vA ζ];refine AS (Bj iq ?_);have cv:=L.stepA mi iq λj j1 hj=>EN (J8.mp c) (FJ L.sb j1 hj);by_cases c1:ia+1+1=a.size
  .rw[vB (by rw[c1];exact beq_self_eq_true _)]
   exact A8 ⟨g,.inl ⟨_,_,ξ,L.last cv c1⟩⟩
  .rw[vA (by intro z;exact c1 (beq_iff_eq.mp z))]
   by_cases c2:ac+1 >= mg
   .rw[vB c2]
    exact A8 ⟨g,.inr ⟨_,_,_,_,_,ξ,⟨cv,wE la c1,lb⟩,zB hm⟩⟩
   .rw[vA c2]
    exact A8 ⟨g,_,_,_,_,_,ξ,⟨cv,wE la c1,lb⟩,zB hm⟩
def Oz(L:Lo G rk a b){mg:Nat}{out:Array AH}(g:Gx cm st)(mi:MI rk a.toList b.toList out.toList ia ib)(la:ia+1<a.size)(lb:ib<b.size)(h:∀j,ib<=j->∀hj:j<b.size,rk (a[ia]'(vp la))<=rk b[j])(hm:m<=ia+ib) :
  wpS (AN prog w) A E s (loEnd a b mg ac bc out ia ib) (λr a6=>match r with| .done c'=>E2 rk a b cm m c' a6| .yield c'=>Y2 rk a b cm m c' a6) st:=by
 have iq:ia<a.size:=vp la;unfold loEnd;refine AS (Bj iq ?_);have cv:=L.stepA mi iq h;by_cases c1:ia+1+1=a.size
 .rw[vB (by rw[c1];exact beq_self_eq_true _)]
  exact A8 ⟨g,.inl ⟨_,_,ξ,L.last cv c1⟩⟩
 .rw[vA (by intro z;exact c1 (beq_iff_eq.mp z))]
  by_cases c2:(decide (ac<7)&&decide (bc<7))=true
  .rw[vB c2]
   exact A8 ⟨g,.inr ⟨_,_,_,_,_,_,ξ,⟨cv,wE la c1,lb⟩,x9 hm⟩⟩
  .rw[vA c2]
   exact A8 ⟨g,_,_,_,_,_,_,ξ,⟨cv,wE la c1,lb⟩,x9 hm⟩
def Eh{key:AH}{base:Nat}(h:base+i<arr.size):bey rk false key arr base i=!decide (rk key<rk arr[base+i]):=by
 unfold bey;rw[vA ζ,Fl h]
def Fb{key:AH}{base:Nat}(h:base+i<arr.size):bey rk true key arr base i=decide (rk arr[base+i]<rk key):=by
 unfold bey;rw[vB rfl,Fl h]
def Oq(C:Cmp prog w A E s κ G rk)(L:Lo G rk a b){mg k:Nat}{out:Array AH}(kd:kindOf cm=κ)(g:Gx cm st)(mi:MI rk a.toList b.toList out.toList ia ib)(la:ia+1<a.size)(lb:ib<b.size)(h:∀j,ia<=j->∀hj:j<a.size,rk b[ib]<=rk a[j])(hm:m<=ia+ib) :
  wpS (AN prog w) A E s (loMid a b mg k bc out ia ib) (λr a6=>match r with| .done c'=>E2 rk a b cm m c' a6| .yield c'=>Y2 rk a b cm m c' a6) st:=by
 have iq:ia<a.size:=vp la;unfold loMid;refine AS (Bj lb ?_);have cv:=L.stepB mi lb h;by_cases c1:ib+1=b.size
 .rw[vB (by rw[c1];exact beq_self_eq_true _)]
  exact A8 ⟨g,.inl ⟨_,_,ξ,L.done cv (wg c1)⟩⟩
 .rw[vA (by intro z;exact c1 (beq_iff_eq.mp z))]
  refine AS (Bj iq ?_);refine AS (Dh C (L.ga.at iq) L.gb (g.kind.trans kd) (zC lb) δ (FP (Td L.sb (zC lb))) λk' kn kt kf=>?_);dsimp only;have t1:∀i,ib+1<=i->i<ib+1+k'->∀hi:i<b.size,rk b[i]<rk a[ia]:=λi i1 i2 hi=>by
   have z:=kt (i-(ib+1)) (xC i2 i1);rw[Fb (zD i1 hi)] at z;have e:ib+1+(i-(ib+1))=i:=ww i1;simp only[e] at z;exact vE z
  have t2:∀j,ib+1+k'<=j->∀hj:j<b.size,rk a[ia]<=rk b[j]:=λi i1 hi=>by
   have z:=kf (i-(ib+1)) (xD i1) (zE hi i1);rw[Fb (zF i1 hi)] at z;have e:ib+1+(i-(ib+1))=i:=xE i1;simp only[e] at z;exact J8.mp (of_decide_eq_false z)
  by_cases c2:k'>0
  .rw[vB c2]
   have iX:=L.manyB (k:=k') cv λi i1 i2 hi j j1 hj=>EN (FO (t1 i i1 i2 hi)) (FJ L.sa j1 hj);by_cases c3:ib+1+k'=b.size
   .rw[vB (by rw[c3];exact beq_self_eq_true _)]
    exact A8 ⟨g,.inl ⟨_,_,ξ,L.done iX (wg c3)⟩⟩
   .rw[vA (by intro z;exact c3 (beq_iff_eq.mp z))]
    exact Oz L g iX la δ t2 δ
  .rw[vA c2]
   have:k'=0:=zG c2;subst this;exact Oz L g cv la (wE lb c1) t2 δ
def Qi(C:Cmp prog w A E s κ G rk)(L:Lo G rk a b){mg:Nat}{out:Array AH}(kd:kindOf cm=κ)(g:Gx cm st)(at_:At rk a b out ia ib)(hm:m<=ia+ib) :
  wpS (AN prog w) A E s (loGal a b mg ac bc out ia ib) (λr a6=>match r with| .done c'=>E2 rk a b cm m c' a6| .yield c'=>Y2 rk a b cm m c' a6) st:=by
 obtain⟨mi,la,lb⟩:=at_;have iq:ia<a.size:=vp la;unfold loGal;refine AS (setMin ?_);have g':=Rk g mg;generalize J9 (kindOf st) (AW st) (BH st) mg (G5 st)=st1 at g';refine AS (Bj lb ?_);refine AS (Dh C (L.gb.at lb) L.ga (g'.kind.trans kd) (zH la) δ (FP (Td L.sa (zH la))) λk kn kt kf=>?_);dsimp only;have t1:∀i,ia<=i->i<ia+k->∀hi:i<a.size,rk a[i]<=rk b[ib]:=λi i1 i2 hi=>by
  have z:=kt (i-ia) (xC i2 i1);rw[Eh (zD i1 hi)] at z;have e:ia+(i-ia)=i:=ww i1;simp only[e] at z;refine J8.mp λy=>?_;rw[vC y] at z;cases z
 have t2:∀j,ia+k<=j->∀hj:j<a.size,rk b[ib]<=rk a[j]:=λi i1 hi=>by
  have z:=kf (i-ia) (xD i1) (zE hi i1);rw[Eh (zF i1 hi)] at z;have e:ia+(i-ia)=i:=xE i1;simp only[e] at z;have z':decide (rk b[ib]<rk a[i])=true:=by
   cases q:decide (rk b[ib]<rk a[i]) with
   | true=>rfl
   | false=>rw[q] at z;cases z
  exact FO (vE z')
 by_cases c2:k>0
 .rw[vB c2]
  have iX:=L.manyA (k:=k) mi λi i1 i2 hi j j1 hj=>EN (t1 i i1 i2 hi) (FJ L.sb j1 hj);by_cases c3:ia+k+1=a.size
  .rw[vB (by rw[c3];exact beq_self_eq_true _)]
   exact A8 ⟨g',.inl ⟨_,_,ξ,L.last iX c3⟩⟩
  .rw[vA (by intro z;exact c3 (beq_iff_eq.mp z))]
   by_cases c4:ia+k=a.size
   .rw[vB (by rw[c4];exact beq_self_eq_true _)]
    exact A8 ⟨g',.inl ⟨_,_,ξ,L.doneA iX (wg c4)⟩⟩
   .rw[vA (by intro z;exact c4 (beq_iff_eq.mp z))]
    exact Oq C L kd g' iX δ lb t2 (x9 hm)
 .rw[vA c2]
  have:k=0:=zG c2;subst this;exact Oq C L kd g' mi la lb t2 hm
def Uh(C:Cmp prog w A E s κ G rk)(L:Lo G rk a b)(kd:kindOf st=κ)(a1:1<=a.size)(b1:1<=b.size)(hf:∀j,∀hj:j<a.size,rk b[0]<=rk a[j]){Q:Array AH->BD->Prop}(h:∀r a6,Gx st a6->Mg rk a.toList b.toList r.toList->Q r a6):wpS (AN prog w) A E s (Ig a b) Q st:=by
 rw[Uj];refine AS (NH (IH ⟨ξ,?_⟩));refine AS (Bj b1 ?_);have mi0:MI rk a.toList b.toList (#[]:Array AH).toList 0 0:=⟨IS _,LX,λx hx=>(by cases hx),λx hx=>(by cases hx)⟩;have mi:=L.stepB mi0 b1 λj _ hj=>hf j hj;by_cases c1:1=b.size
 .rw[vB (by rw[<- c1];rfl)]
  exact A8 (h _ _ (Gx.refl _) (L.done mi (wg c1)))
 rw[vA (by intro z;exact c1 (beq_iff_eq.mp z))];by_cases c2:0+1=a.size
 .rw[vB (by rw[<- c2];rfl)]
  exact A8 (h _ _ (Gx.refl _) (L.last mi c2))
 rw[vA (by intro z;exact c2 (beq_iff_eq.mp z))];refine AS (KL ?_);refine AS (EG (D0 (I:=λx c a6=>Gx st a6/\∃out ia ib mg,c=(u9,out,ia,ib,mg)/\At rk a b out ia ib/\x+1<=ia+ib)
  (Q:=λc a6=>Gx st a6/\∃x y,c=(u8 x,y)/\Mg rk a.toList b.toList x.toList) ?_ ?_ ⟨Gx.refl _,_,_,_,_,ξ,⟨mi,δ,xw b1 c1⟩,wC⟩) ?_)
 .rintro x c a6 _ xn ⟨g,out,ia,ib,mg,rfl,at_,xm⟩
  refine AS (EG (D0 (I:=λy c a6=>Y1 rk a b st (x+1+y) c a6) (Q:=E1 rk a b st (x+2)) ?_ ?_ ⟨g,_,_,_,_,_,ξ,at_,zI xm⟩) ?_)
  .rintro y c bE _ yn ⟨g2,out2,ia2,ib2,ac,bc,rfl,at2,hm⟩
   refine EG (AAy C L kd g2 at2 hm) λr eA hr=>?_;cases r with
   | done c' =>
    obtain⟨g3,q⟩:=hr;refine⟨g3,q.imp id λ⟨o,i,j,k,l,e,a',b'⟩=>⟨o,i,j,k,l,e,a',δ⟩⟩
   | yield c'=>exact hr
  .rintro c bE ⟨g2,out2,ia2,ib2,ac,bc,rfl,at2,hm⟩
   exact⟨g2,.inr ⟨_,_,_,_,_,ξ,at2,δ⟩⟩
  .rintro c bE ⟨g2,⟨r,y,rfl,m⟩| ⟨out2,ia2,ib2,ac,bc,rfl,at2,hm⟩⟩
   .exact A8 ⟨g2,_,_,ξ,m⟩
   .refine AS (NH (IH ⟨ξ,?_⟩))
    refine AS (EG (D0 (I:=λy c a6=>Y2 rk a b st (x+2) c a6) (Q:=E2 rk a b st (x+2)) ?_ ?_ ⟨g2,_,_,_,_,_,_,ξ,at2,hm⟩) ?_)
    .rintro y c eA _ yn ⟨g3,out3,ia3,ib3,mg3,ac3,bc3,rfl,at3,hm3⟩
     split
     .exact EG (Qi C L kd g3 at3 hm3) λr st4 hr=>by cases r<;>exact hr
     .exact EG (Qi C L kd g3 at3 hm3) λr st4 hr=>by cases r<;>exact hr
    .rintro c eA ⟨g3,out3,ia3,ib3,mg3,ac3,bc3,rfl,at3,hm3⟩
     exact⟨g3,.inr ⟨_,_,_,_,_,_,ξ,at3,hm3⟩⟩
    .rintro c eA ⟨g3,⟨r,y,rfl,m⟩| ⟨out3,ia3,ib3,mg3,ac3,bc3,rfl,at3,hm3⟩⟩
     .exact A8 ⟨g3,_,_,ξ,m⟩
     .refine AS (setMin (A8 ⟨Rk g3 _,_,_,_,_,ξ,at3,δ⟩))
 .rintro c a6 ⟨g,out,ia,ib,mg,rfl,⟨_,la,lb⟩,xm⟩
  lia
 .rintro c a6 ⟨g,x,y,rfl,m⟩
  exact A8 (h _ _ g m)
end
variable{rk:AH->Int}{G:AH->Prop}
noncomputable abbrev hiDone(a b out:Array AH)(na nb:Nat):Array AH:=a.extract 0 na++b.extract 0 nb++out.reverse
noncomputable abbrev Gq(a b out:Array AH)(na nb:Nat):Array AH:=b.extract 0 nb++a.extract 0 na++out.reverse
abbrev T1:=Option (Array AH)×Nat×Nat×Array AH×Nat×Nat
abbrev T2:=Option (Array AH)×Nat×Nat×Array AH×Nat×Nat×Nat
abbrev T0:=Option (Array AH)×Nat×Nat×Array AH×Nat
noncomputable def hiOne(a b:Array AH)(mg:Nat)(r:T1):StateT BD Sem (ForInStep T1):=do
 let y <- D3 b (r.2.2.1-1)
 let x <- D3 a (r.2.1-1)
 let c <- lt' y x
 match c with
 | some aWins =>
  if aWins=true then do
   let x <- D3 a (r.2.1-1)
   if(r.2.1-1==0)=true then
    pure (BS (u8 (hiDone a b (r.2.2.2.1.push x) (r.2.1-1) r.2.2.1),r.2.1-1,r.2.2.1,r.2.2.2.1.push x,r.2.2.2.2.1+1,0))
   else if r.2.2.2.2.1+1 >= mg then
    pure (BS (u9,r.2.1-1,r.2.2.1,r.2.2.2.1.push x,r.2.2.2.2.1+1,0))
   else pure (C1 (u9,r.2.1-1,r.2.2.1,r.2.2.2.1.push x,r.2.2.2.2.1+1,0))
  else do
   let y <- D3 b (r.2.2.1-1)
   if(r.2.2.1-1==1)=true then
    pure (BS (u8 (Gq a b (r.2.2.2.1.push y) r.2.1 (r.2.2.1-1)),r.2.1,r.2.2.1-1,r.2.2.2.1.push y,0,r.2.2.2.2.2+1))
   else if r.2.2.2.2.2+1 >= mg then
    pure (BS (u9,r.2.1,r.2.2.1-1,r.2.2.2.1.push y,0,r.2.2.2.2.2+1))
   else pure (C1 (u9,r.2.1,r.2.2.1-1,r.2.2.2.1.push y,0,r.2.2.2.2.2+1))
 | _=>pure (BS (u8 (hiDone a b r.2.2.2.1 r.2.1 r.2.2.1),r.2.1,r.2.2.1,r.2.2.2.1,r.2.2.2.2.1,r.2.2.2.2.2))
noncomputable def hiEnd(a b:Array AH)(mg ac bc:Nat)(out:Array AH)(na nb:Nat):StateT BD Sem (ForInStep T2):=do
 let x <- D3 a (na-1)
 if(na-1==0)=true then pure (BS (u8 (hiDone a b (out.push x) (na-1) nb),na-1,nb,out.push x,mg,ac,bc))
 else if(decide (ac<7)&&decide (bc<7))=true then pure (BS (u9,na-1,nb,out.push x,mg,ac,bc))
 else pure (C1 (u9,na-1,nb,out.push x,mg,ac,bc))
noncomputable def hiMid(a b:Array AH)(mg k bc:Nat)(out:Array AH)(na nb:Nat):StateT BD Sem (ForInStep T2):=do
 let y <- D3 b (nb-1)
 if(nb-1==1)=true then pure (BS (u8 (Gq a b (out.push y) na (nb-1)),na,nb-1,out.push y,mg,k,bc))
 else do
  let x <- D3 a (na-1)
  let r <- Cw true x b 0 (nb-1) (nb-1-1)
  match r with
  | some t =>
   if nb-1-t>0 then
    if(t==1)=true then pure (BS (u8 (Gq a b (out.push y++(b.extract t (nb-1)).reverse) na t),na,t,out.push y++(b.extract t (nb-1)).reverse,mg,k,nb-1-t))
    else if(t==0)=true then pure (BS (u8 (hiDone a b (out.push y++(b.extract t (nb-1)).reverse) na t),na,t,out.push y++(b.extract t (nb-1)).reverse,mg,k,nb-1-t))
    else hiEnd a b mg k (nb-1-t) (out.push y++(b.extract t (nb-1)).reverse) na t
   else hiEnd a b mg k (nb-1-t) (out.push y) na (nb-1)
  | _=>pure (BS (u8 (hiDone a b (out.push y) na (nb-1)),na,nb-1,out.push y,mg,k,bc))
noncomputable def hiGal(a b:Array AH)(mg ac bc:Nat)(out:Array AH)(na nb:Nat):StateT BD Sem (ForInStep T2):=do
 Dq mg
 let y <- D3 b (nb-1)
 let r <- Cw false y a 0 na (na-1)
 match r with
 | some t =>
  if na-t>0 then
   if(t==0)=true then pure (BS (u8 (hiDone a b (out++(a.extract t na).reverse) t nb),t,nb,out++(a.extract t na).reverse,mg,na-t,bc))
   else hiMid a b mg (na-t) bc (out++(a.extract t na).reverse) t nb
  else hiMid a b mg (na-t) bc out na nb
 | _=>pure (BS (u8 (hiDone a b out na nb),na,nb,out,mg,ac,bc))
def JD:Array AH->Array AH->StateT BD Sem (Array AH):=sortPriv% PySem.Builtin.mergeHi
def WW(a b:Array AH):JD a b=(do
 rule "list.sort.merge-hi"
 let total:=a.size+b.size
 let done (out:Array AH) (na nb:Nat):=a.extract 0 na++b.extract 0 nb++out.reverse
 let firstOfB (out:Array AH) (na nb:Nat):=b.extract 0 nb++a.extract 0 na++out.reverse
 let mut na:=a.size-1
 let mut nb:=b.size
 let mut out:Array AH:=#[<- D3 a na]
 if na==0 then return done out na nb
 if nb==1 then return firstOfB out na nb
 let mut minGallop:=Sa (<- get)
 for _ in [0:total] do
  let mut acount:=0
  let mut bcount:=0
  for _ in [0:total] do
   let u8 aWins <- lt' (<- D3 b (nb-1)) (<- D3 a (na-1))| return done out na nb
   if aWins then
    na:=na-1;out:=out.push (<- D3 a na);acount:=acount+1;bcount:=0
    if na==0 then return done out na nb
    if acount >= minGallop then break
   else
    nb:=nb-1;out:=out.push (<- D3 b nb);bcount:=bcount+1;acount:=0
    if nb==1 then return firstOfB out na nb
    if bcount >= minGallop then break
  rule "list.sort.gallop"
  minGallop:=minGallop+1
  for _ in [0:total] do
   if minGallop>1 then minGallop:=minGallop-1
   Dq minGallop
   let u8 at_ <- Cw false (<- D3 b (nb-1)) a 0 na (na-1)| return done out na nb
   let k:=na-at_
   acount:=k
   if k>0 then
    out:=out++(a.extract at_ na).reverse;na:=at_
    if na==0 then return done out na nb
   nb:=nb-1;out:=out.push (<- D3 b nb)
   if nb==1 then return firstOfB out na nb
   let u8 at_ <- Cw true (<- D3 a (na-1)) b 0 nb (nb-1)| return done out na nb
   let k:=nb-at_
   bcount:=k
   if k>0 then
    out:=out++(b.extract at_ nb).reverse;nb:=at_
    if nb==1 then return firstOfB out na nb
    if nb==0 then return done out na nb
   na:=na-1;out:=out.push (<- D3 a na)
   if na==0 then return done out na nb
   if acount<7&&bcount<7 then break
  minGallop:=minGallop+1
  Dq minGallop
 unsupported "internal:list.sort.merge-bound"):=rfl
theorem Ug(a b:Array AH):JD a b=(do
 liftM (rule "list.sort.merge-hi")
 let x <- D3 a (a.size-1)
 if(a.size-1==0)=true then pure (hiDone a b #[x] (a.size-1) b.size)
 else if(b.size==1)=true then pure (Gq a b #[x] (a.size-1) b.size)
 else do
  let g <- get
  let r <- forIn [0:a.size+b.size] ((u9,a.size-1,b.size,#[x],Sa g):T0) λ_ r0=>do
   let r1 <- forIn [0:a.size+b.size] ((u9,r0.2.1,r0.2.2.1,r0.2.2.2.1,0,0):T1) λ_ r=>hiOne a b r0.2.2.2.2 r
   match r1.1 with
   | some x=>pure (BS ((u8 x,r1.2.1,r1.2.2.1,r1.2.2.2.1,r0.2.2.2.2):T0))
   | none=>do
    liftM (rule "list.sort.gallop")
    let r2 <- forIn [0:a.size+b.size] ((u9,r1.2.1,r1.2.2.1,r1.2.2.2.1,r0.2.2.2.2+1,r1.2.2.2.2.1,r1.2.2.2.2.2):T2) λ_ r =>
     if r.2.2.2.2.1>1 then hiGal a b (r.2.2.2.2.1-1) r.2.2.2.2.2.1 r.2.2.2.2.2.2 r.2.2.2.1 r.2.1 r.2.2.1
     else hiGal a b r.2.2.2.2.1 r.2.2.2.2.2.1 r.2.2.2.2.2.2 r.2.2.2.1 r.2.1 r.2.2.1
    match r2.1 with
    | some x=>pure (BS ((u8 x,r2.2.1,r2.2.2.1,r2.2.2.2.1,r2.2.2.2.2.1):T0))
    | none=>do
     Dq (r2.2.2.2.2.1+1)
     pure (C1 ((u9,r2.2.1,r2.2.2.1,r2.2.2.2.1,r2.2.2.2.2.1+1):T0))
  match r.1 with
  | some x=>pure x
  | none=>unsupported "internal:list.sort.merge-bound"):=by
 rw[WW];dsimp only
 congr 1
 funext _
 congr 1
 funext y
 refine ifc rfl (ifc rfl ?_)
 congr 1
 funext g
 congr 1
 .congr 1
  funext x r0
  congr 1
  funext r1
  obtain⟨o1,r1⟩:=r1;cases o1 with
  | some x=>rfl
  | none =>
   dsimp only
   congr 1
   funext u
   congr 1
   funext r2
   obtain⟨o2,r2⟩:=r2;cases o2<;>rfl
 .funext r
  obtain⟨o,r⟩:=r;cases o<;>rfl
variable{rk:AH->Int}{G:AH->Prop}
abbrev nk(rk:AH->Int):AH->Int:=λx=>- rk x
def Ww{a b l q:List AH}(m:Mg (nk rk) b.reverse a.reverse l)(e:q=l.reverse):Mg rk a b q:=by
 obtain⟨p,sr⟩:=m;subst e;refine⟨(OE l).trans (p.trans ?_),?_⟩
 .exact(((OE b).append (OE a))).trans HV
 .exact RC.mpr (sr.imp λ{x y} h=>by
   have:- rk x<=- rk y:=h;lia)
def Du{a:Array AH}(h:n<=a.size):a.toList.reverse.drop (a.size-n)=(a.toList.take n).reverse:=by
 rw[List.drop_reverse]
 congr 2
 simp;exact yG h
section
variable{a b:Array AH}
def HAt(rk:AH->Int)(a b out:Array AH)(na nb:Nat):Prop:=MI (nk rk) b.toList.reverse a.toList.reverse out.toList (b.size-nb) (a.size-na)/\na<=a.size/\nb<=b.size
structure Hi(G:AH->Prop)(rk:AH->Int)(a b:Array AH):Prop where
 ga:Al G a
 gb:Al G b
 sa:Srt rk a.toList
 sb:Srt rk b.toList
 hf:∀j,∀hj:j<a.size,∀h0:0<b.size,rk b[0]<=rk a[j]
def Fq{l:List AH}(h:Srt rk l):Srt (nk rk) l.reverse:=RC.mpr (h.imp λ{x y} h=>by show-rk y<=- rk x;exact x6 h)
def FQ{a:Array AH}{z:AH}(hn:n<=a.size)(h:z∈a.toList.reverse.drop (a.size-n)):∃j,j<n/\∃hj:j<a.size,z=a[j]:=by
 rw[Du hn] at h;have h':=FY.mp h;obtain⟨k,hk,e⟩:=CS.mp h';rw[BV] at hk;have:a.toList.length=a.size:=by simp
 refine⟨k,xj hk,δ,?_⟩;rw[<- e,Kt];simp
def rtake{a:Array AH}{t:Nat}(hn:n<=a.size)(ht:t<=n):(a.toList.reverse.drop (a.size-n)).take (n-t)=((a.toList.drop t).take (n-t)).reverse:=by
 rw[Du hn,List.take_reverse]
 congr 1
 have:a.toList.length=a.size:=by simp
 rw[BV,show min n a.toList.length-(n-t)=t by lia,List.drop_take]
def Uw{out a:Array AH}{t:Nat}(hn:n<=a.size)(ht:t<=n):(out++(a.extract t n).reverse).toList=out.toList++(a.toList.reverse.drop (a.size-n)).take (n-t):=by
 rw[rtake hn ht,DI,K4,G6]
def Ox{out a:Array AH}(h1:1<=n)(hn:n<=a.size):(out.push (a[n-1]'(v8 h1 hn))).toList=out.toList++(a.toList.reverse.drop (a.size-n)).take 1:=by
 have:=rtake (a:=a) (n:=n) (t:=n-1) hn wk;rw[show n-(n-1)=1 from yG h1] at this;rw[this,Kx]
 congr 1
 have hl:n-1<a.toList.length:=by simp;exact v8 h1 hn
 rw[LF hl,M9,RA];simp
def Hi.stepA(L:Hi G rk a b){out:Array AH}(m:HAt rk a b out na nb)(h1:1<=na)(h:∀j,j<nb->∀hj:j<b.size,rk b[j]<=rk (a[na-1]'(by have:=m.2.1;exact v8 h1 this))):HAt rk a b (out.push (a[na-1]'(by have:=m.2.1;exact v8 h1 this))) (na-1) nb:=by
 obtain⟨mi,ha,hb⟩:=m;refine⟨?_,xP ha,hb⟩;rw[Ox h1 ha,show a.size-(na-1)=a.size-na+1 from zk ha h1];refine mi.takeB (Fq L.sa) 1 λy hy z hz=>?_;rw[show(1:Nat)=na-(na-1) from zn h1,rtake ha wk] at hy;obtain⟨j,j1,j2,hj,rfl⟩:=Ca (FY.mp hy);have:j=na-1:=zo j2 j1;subst this;obtain⟨i,i1,hi,rfl⟩:=FQ hb hz;have:=h i i1 hi;show-_<=- _;lia
def Hi.stepB(L:Hi G rk a b){out:Array AH}(m:HAt rk a b out na nb)(h1:1<=nb)(h:∀j,j<na->∀hj:j<a.size,rk a[j]<=rk (b[nb-1]'(by have:=m.2.2;exact v8 h1 this))):HAt rk a b (out.push (b[nb-1]'(by have:=m.2.2;exact v8 h1 this))) na (nb-1):=by
 obtain⟨mi,ha,hb⟩:=m;refine⟨?_,ha,xP hb⟩;rw[Ox h1 hb,show b.size-(nb-1)=b.size-nb+1 from zk hb h1];refine mi.takeA (Fq L.sb) 1 λy hy z hz=>?_;rw[show(1:Nat)=nb-(nb-1) from zn h1,rtake hb wk] at hy;obtain⟨j,j1,j2,hj,rfl⟩:=Ca (FY.mp hy);have:j=nb-1:=zo j2 j1;subst this;obtain⟨i,i1,hi,rfl⟩:=FQ ha hz;have:=h i i1 hi;show-_<=- _;lia
def Hi.manyA(L:Hi G rk a b){out:Array AH}{t:Nat}(m:HAt rk a b out na nb)(ht:t<=na)(h:∀i,t<=i->i<na->∀hi:i<a.size,∀j,j<nb->∀hj:j<b.size,rk b[j]<=rk a[i]):HAt rk a b (out++(a.extract t na).reverse) t nb:=by
 obtain⟨mi,ha,hb⟩:=m;refine⟨?_,wJ ht ha,hb⟩;rw[Uw ha ht,show a.size-t=a.size-na+(na-t) from zq ht ha];refine mi.takeB (Fq L.sa) _ λy hy z hz=>?_;rw[rtake ha ht] at hy;obtain⟨i,i1,i2,hi,rfl⟩:=Ca (FY.mp hy);obtain⟨j,j1,hj,rfl⟩:=FQ hb hz;have:=h i i1 (zr i2 ht) hi j j1 hj;show-_<=- _;exact x6 this
def Hi.manyB(L:Hi G rk a b){out:Array AH}{t:Nat}(m:HAt rk a b out na nb)(ht:t<=nb)(h:∀i,t<=i->i<nb->∀hi:i<b.size,∀j,j<na->∀hj:j<a.size,rk a[j]<=rk b[i]):HAt rk a b (out++(b.extract t nb).reverse) na t:=by
 obtain⟨mi,ha,hb⟩:=m;refine⟨?_,ha,wJ ht hb⟩;rw[Uw hb ht,show b.size-t=b.size-nb+(nb-t) from zq ht hb];refine mi.takeA (Fq L.sb) _ λy hy z hz=>?_;rw[rtake hb ht] at hy;obtain⟨i,i1,i2,hi,rfl⟩:=Ca (FY.mp hy);obtain⟨j,j1,hj,rfl⟩:=FQ ha hz;have:=h i i1 (zr i2 ht) hi j j1 hj;show-_<=- _;exact x6 this
def HF(a:Array AH)(n:Nat):(a.extract 0 n).toList=a.toList.take n:=by
 rw[G6];simp[Tu]
def Hi.doneA(L:Hi G rk a b){out:Array AH}(m:HAt rk a b out na nb)(z:na=0):Mg rk a.toList b.toList (hiDone a b out na nb).toList:=by
 subst z;obtain⟨mi,ha,hb⟩:=m;refine Ww (mi.doneB (Fq L.sb) θ) ?_;rw[Du hb,Du ha];unfold hiDone;rw[DI,DI,K4,HF,HF,He,He,G7,G7,CH]
def Hi.doneB(L:Hi G rk a b){out:Array AH}(m:HAt rk a b out na nb)(z:nb=0):Mg rk a.toList b.toList (hiDone a b out na nb).toList:=by
 subst z;obtain⟨mi,ha,hb⟩:=m;refine Ww (mi.doneA (Fq L.sa) θ) ?_;rw[Du hb,Du ha];unfold hiDone;rw[DI,DI,K4,HF,HF,He,He,G7,G7,CH]
def Hi.first(L:Hi G rk a b){out:Array AH}(m:HAt rk a b out na nb)(z:nb=1):Mg rk a.toList b.toList (Gq a b out na nb).toList:=by
 subst z;obtain⟨mi,ha,hb⟩:=m;refine Ww (mi.last (Fq L.sa) (by simp;exact xT hb) λy hy z hz=>?_) ?_
 .obtain⟨j,j1,hj,rfl⟩:=FQ hb hz
  have:j=0:=by lia
  subst this;obtain⟨i,hi,rfl⟩:=CS.mp (FY.mp hy);have b7:i<a.size:=by simpa using hi
  have:=L.hf i b7 hj;simp;exact this
 .rw[Du hb,Du ha]
  unfold Gq;rw[DI,DI,K4,HF,HF,He,He,G7,G7,CH]
def F1(rk:AH->Int)(a b:Array AH)(st:BD)(m:Nat)(r:T1)(a6:BD):Prop:=Gx st a6/\((∃x y,r=(u8 x,y)/\Mg rk a.toList b.toList x.toList)\/∃out na nb ac bc,r=(u9,na,nb,out,ac,bc)/\HAt rk a b out na nb/\1<=na/\2<=nb/\na+nb+m<=a.size+b.size)
def F2(rk:AH->Int)(a b:Array AH)(st:BD)(m:Nat)(r:T2)(a6:BD):Prop:=Gx st a6/\((∃x y,r=(u8 x,y)/\Mg rk a.toList b.toList x.toList)\/∃out na nb mg ac bc,r=(u9,na,nb,out,mg,ac,bc)/\HAt rk a b out na nb/\1<=na/\2<=nb/\na+nb+m<=a.size+b.size)
def Z1(rk:AH->Int)(a b:Array AH)(st:BD)(m:Nat)(r:T1)(a6:BD):Prop:=Gx st a6/\∃out na nb ac bc,r=(u9,na,nb,out,ac,bc)/\HAt rk a b out na nb/\1<=na/\2<=nb/\na+nb+m<=a.size+b.size
def Z2(rk:AH->Int)(a b:Array AH)(st:BD)(m:Nat)(r:T2)(a6:BD):Prop:=Gx st a6/\∃out na nb mg ac bc,r=(u9,na,nb,out,mg,ac,bc)/\HAt rk a b out na nb/\1<=na/\2<=nb/\na+nb+m<=a.size+b.size
def Zw(C:Cmp prog w A E s κ G rk)(L:Hi G rk a b){mg:Nat}{out:Array AH}(kd:kindOf cm=κ)(g:Gx cm st)(at_:HAt rk a b out na nb)(n1:1<=na)(n2:2<=nb)(hm:na+nb+m<=a.size+b.size) :
  wpS (AN prog w) A E s (hiOne a b mg (u9,na,nb,out,ac,bc)) (λr a6=>match r with| .done c'=>F1 rk a b cm (m+1) c' a6| .yield c'=>Z1 rk a b cm (m+1) c' a6) st:=by
 obtain⟨_,ha,hb⟩:=id at_;have la:na-1<a.size:=v8 n1 ha;have lb:nb-1<b.size:=xA n2 hb;unfold hiOne;dsimp only;refine AS (Bj lb (AS (Bj la (AS (C _ _ (L.gb.at lb) (L.ga.at la) st _ (g.kind.trans kd) ?_)))));by_cases c:rk b[nb-1]<rk a[na-1]
 .rw[vC c]
  dsimp only;rw[vB rfl];refine AS (Bj la ?_);have cv:=L.stepA at_ n1 λj j1 hj=>EN (FJ L.sb (show j<=nb-1 from wD j1) lb) (FO c);by_cases c1:na-1=0
  .rw[vB (by rw[c1];rfl)]
   exact A8 ⟨g,.inl ⟨_,_,ξ,L.doneA cv c1⟩⟩
  .rw[vA (by intro z;exact c1 (beq_iff_eq.mp z))]
   by_cases c2:ac+1 >= mg
   .rw[vB c2]
    exact A8 ⟨g,.inr ⟨_,_,_,_,_,ξ,cv,wK c1,n2,zt hm n1⟩⟩
   .rw[vA c2]
    exact A8 ⟨g,_,_,_,_,_,ξ,cv,wK c1,n2,zt hm n1⟩
 .rw[vD c]
  dsimp only;rw[vA ζ];refine AS (Bj lb ?_);have cv:=L.stepB at_ (wO n2) λj j1 hj=>EN (FJ L.sa (show j<=na-1 from wD j1) la) (J8.mp c);by_cases c1:nb-1=1
  .rw[vB (by rw[c1];rfl)]
   exact A8 ⟨g,.inl ⟨_,_,ξ,L.first cv c1⟩⟩
  .rw[vA (by intro z;exact c1 (beq_iff_eq.mp z))]
   by_cases c2:bc+1 >= mg
   .rw[vB c2]
    exact A8 ⟨g,.inr ⟨_,_,_,_,_,ξ,cv,n1,x8 n2 c1,zu n2 hm⟩⟩
   .rw[vA c2]
    exact A8 ⟨g,_,_,_,_,_,ξ,cv,n1,x8 n2 c1,zu n2 hm⟩
def PN(L:Hi G rk a b){mg:Nat}{out:Array AH}(g:Gx cm st)(at_:HAt rk a b out na nb)(n1:1<=na)(n2:2<=nb)(h:∀j,j<nb->∀hj:j<b.size,rk b[j]<=rk (a[na-1]'(by have:=at_.2.1;exact v8 n1 this)))(hm:na+nb+m<=a.size+b.size) :
  wpS (AN prog w) A E s (hiEnd a b mg ac bc out na nb) (λr a6=>match r with| .done c'=>F2 rk a b cm m c' a6| .yield c'=>Z2 rk a b cm m c' a6) st:=by
 obtain⟨_,ha,hb⟩:=id at_;have la:na-1<a.size:=v8 n1 ha;unfold hiEnd;refine AS (Bj la ?_);have cv:=L.stepA at_ n1 h;by_cases c1:na-1=0
 .rw[vB (by rw[c1];rfl)]
  exact A8 ⟨g,.inl ⟨_,_,ξ,L.doneA cv c1⟩⟩
 .rw[vA (by intro z;exact c1 (beq_iff_eq.mp z))]
  by_cases c2:(decide (ac<7)&&decide (bc<7))=true
  .rw[vB c2]
   exact A8 ⟨g,.inr ⟨_,_,_,_,_,_,ξ,cv,wK c1,n2,zv hm⟩⟩
  .rw[vA c2]
   exact A8 ⟨g,_,_,_,_,_,_,ξ,cv,wK c1,n2,zv hm⟩
def Qe(C:Cmp prog w A E s κ G rk)(L:Hi G rk a b){mg k:Nat}{out:Array AH}(kd:kindOf cm=κ)(g:Gx cm st)(at_:HAt rk a b out na nb)(n1:1<=na)(n2:2<=nb)(h:∀j,j<na->∀hj:j<a.size,rk a[j]<=rk (b[nb-1]'(by have:=at_.2.2;exact xA n2 this)))(hm:na+nb+m<=a.size+b.size) :
  wpS (AN prog w) A E s (hiMid a b mg k bc out na nb) (λr a6=>match r with| .done c'=>F2 rk a b cm m c' a6| .yield c'=>Z2 rk a b cm m c' a6) st:=by
 obtain⟨_,ha,hb⟩:=id at_;have la:na-1<a.size:=v8 n1 ha;have lb:nb-1<b.size:=xA n2 hb;unfold hiMid;refine AS (Bj lb ?_);have cv:=L.stepB at_ (wO n2) h;by_cases c1:nb-1=1
 .rw[vB (by rw[c1];rfl)]
  exact A8 ⟨g,.inl ⟨_,_,ξ,L.first cv c1⟩⟩
 .rw[vA (by intro z;exact c1 (beq_iff_eq.mp z))]
  refine AS (Bj la ?_);refine AS (Dh C (L.ga.at la) L.gb (g.kind.trans kd) (zw lb) δ (FP (Td L.sb (zw lb))) λt kn kt kf=>?_);dsimp only;have t1:∀i,i<t->∀hi:i<b.size,rk b[i]<rk a[na-1]:=λi i1 hi=>by
   have z:=kt i i1;rw[Fb (xB hi)] at z;simp only[F8] at z;exact vE z
  have t2:∀j,t<=j->j<nb-1->∀hj:j<b.size,rk a[na-1]<=rk b[j]:=λi i1 i2 hi=>by
   have z:=kf i i1 i2;rw[Fb (xB hi)] at z;simp only[F8] at z;exact J8.mp (of_decide_eq_false z)
  by_cases c2:nb-1-t>0
  .rw[vB c2]
   have iX:=L.manyB (t:=t) cv kn λi i1 i2 hi j j1 hj=>EN (FJ L.sa (show j<=na-1 from wD j1) la) (t2 i i1 i2 hi);by_cases c3:t=1
   .rw[vB (by rw[c3];rfl)]
    exact A8 ⟨g,.inl ⟨_,_,ξ,L.first iX c3⟩⟩
   .rw[vA (by intro z;exact c3 (beq_iff_eq.mp z))]
    by_cases c4:t=0
    .rw[vB (by rw[c4];rfl)]
     exact A8 ⟨g,.inl ⟨_,_,ξ,L.doneB iX c4⟩⟩
    .rw[vA (by intro z;exact c4 (beq_iff_eq.mp z))]
     exact PN L g iX n1 δ (λj j1 hj=>FO (t1 j j1 hj)) δ
  .rw[vA c2]
   exact PN L g cv n1 (x8 n2 c1) (λj j1 hj=>FO (t1 j (zx j1 c2) hj)) δ
def PJ(C:Cmp prog w A E s κ G rk)(L:Hi G rk a b){mg:Nat}{out:Array AH}(kd:kindOf cm=κ)(g:Gx cm st)(at_:HAt rk a b out na nb)(n1:1<=na)(n2:2<=nb)(hm:na+nb+m<=a.size+b.size) :
  wpS (AN prog w) A E s (hiGal a b mg ac bc out na nb) (λr a6=>match r with| .done c'=>F2 rk a b cm m c' a6| .yield c'=>Z2 rk a b cm m c' a6) st:=by
 obtain⟨_,ha,hb⟩:=id at_;have lb:nb-1<b.size:=xA n2 hb;unfold hiGal;refine AS (setMin ?_);have g':=Rk g mg;generalize J9 (kindOf st) (AW st) (BH st) mg (G5 st)=st1 at g';refine AS (Bj lb ?_);refine AS (Dh C (L.gb.at lb) L.ga (g'.kind.trans kd) (zy ha) (xf n1) (FP (Td L.sa (zy ha))) λt kn kt kf=>?_);dsimp only;have t1:∀i,i<t->∀hi:i<a.size,rk a[i]<=rk b[nb-1]:=λi i1 hi=>by
  have z:=kt i i1;rw[Eh (xB hi)] at z;simp only[F8] at z;refine J8.mp λy=>?_;rw[vC y] at z;cases z
 have t2:∀j,t<=j->j<na->∀hj:j<a.size,rk b[nb-1]<=rk a[j]:=λi i1 i2 hi=>by
  have z:=kf i i1 i2;rw[Eh (xB hi)] at z;simp only[F8] at z;have z':decide (rk b[nb-1]<rk a[i])=true:=by
   cases q:decide (rk b[nb-1]<rk a[i]) with
   | true=>rfl
   | false=>rw[q] at z;cases z
  exact FO (vE z')
 by_cases c2:na-t>0
 .rw[vB c2]
  have iX:=L.manyA (t:=t) at_ kn λi i1 i2 hi j j1 hj=>EN (FJ L.sb (show j<=nb-1 from wD j1) lb) (t2 i i1 i2 hi);by_cases c3:t=0
  .rw[vB (by rw[c3];rfl)]
   exact A8 ⟨g',.inl ⟨_,_,ξ,L.doneA iX c3⟩⟩
  .rw[vA (by intro z;exact c3 (beq_iff_eq.mp z))]
   exact Qe C L kd g' iX (wK c3) n2 (λj j1 hj=>t1 j j1 hj) δ
 .rw[vA c2]
  exact Qe C L kd g' at_ n1 n2 (λj j1 hj=>t1 j (zx j1 c2) hj) hm
def Vs(C:Cmp prog w A E s κ G rk)(L:Hi G rk a b)(kd:kindOf st=κ)(a1:1<=a.size)(b1:1<=b.size)(hl:∀j,∀hj:j<b.size,rk b[j]<=rk (a[a.size-1]'(xf a1))){Q:Array AH->BD->Prop}(h:∀r a6,Gx st a6->Mg rk a.toList b.toList r.toList->Q r a6):wpS (AN prog w) A E s (JD a b) Q st:=by
 rw[Ug];refine AS (NH (IH ⟨ξ,?_⟩));refine AS (Bj (xf a1) ?_);have mi0:HAt rk a b #[] a.size b.size:=⟨by
  rw[IZ,IZ];exact⟨HV.trans HV,LX,λx hx=>(by cases hx),λx hx=>(by cases hx)⟩,AI _,AI _⟩
 have mi:=L.stepA mi0 a1 λj _ hj=>hl j hj;by_cases c1:a.size-1=0
 .rw[vB (by rw[c1];rfl)]
  exact A8 (h _ _ (Gx.refl _) (L.doneA mi c1))
 rw[vA (by intro z;exact c1 (beq_iff_eq.mp z))];by_cases c2:b.size=1
 .rw[vB (by rw[c2];rfl)]
  exact A8 (h _ _ (Gx.refl _) (L.first mi c2))
 rw[vA (by intro z;exact c2 (beq_iff_eq.mp z))];refine AS (KL ?_);refine AS (EG (D0 (I:=λx c a6=>Gx st a6/\∃out na nb mg,c=(u9,na,nb,out,mg)/\HAt rk a b out na nb/\1<=na/\2<=nb/\na+nb+(x+1)<=a.size+b.size)
  (Q:=λc a6=>Gx st a6/\∃x y,c=(u8 x,y)/\Mg rk a.toList b.toList x.toList) ?_ ?_ ⟨Gx.refl _,_,_,_,_,ξ,mi,wK c1,δ,δ⟩) ?_)
 .rintro x c a6 _ xn ⟨g,out,na,nb,mg,rfl,at_,n1,n2,xm⟩
  refine AS (EG (D0 (I:=λy c a6=>Z1 rk a b st (x+1+y) c a6) (Q:=F1 rk a b st (x+2)) ?_ ?_ ⟨g,_,_,_,_,_,ξ,at_,n1,n2,δ⟩) ?_)
  .rintro y c bE _ yn ⟨g2,out2,na2,nb2,ac,bc,rfl,at2,m1,m2,hm⟩
   refine EG (Zw C L kd g2 at2 m1 m2 hm) λr eA hr=>?_;cases r with
   | done c' =>
    obtain⟨g3,q⟩:=hr;refine⟨g3,q.imp id λ⟨o,i,j,k,l,e,a',b',c',d'⟩=>⟨o,i,j,k,l,e,a',b',c',δ⟩⟩
   | yield c'=>exact hr
  .rintro c bE ⟨g2,out2,na2,nb2,ac,bc,rfl,at2,m1,m2,hm⟩
   exact⟨g2,.inr ⟨_,_,_,_,_,ξ,at2,m1,m2,δ⟩⟩
  .rintro c bE ⟨g2,⟨r,y,rfl,m⟩| ⟨out2,na2,nb2,ac,bc,rfl,at2,m1,m2,hm⟩⟩
   .exact A8 ⟨g2,_,_,ξ,m⟩
   .refine AS (NH (IH ⟨ξ,?_⟩))
    refine AS (EG (D0 (I:=λy c a6=>Z2 rk a b st (x+2) c a6) (Q:=F2 rk a b st (x+2)) ?_ ?_ ⟨g2,_,_,_,_,_,_,ξ,at2,m1,m2,hm⟩) ?_)
    .rintro y c eA _ yn ⟨g3,out3,na3,nb3,mg3,ac3,bc3,rfl,at3,k1,k2,hm3⟩
     split
     .exact EG (PJ C L kd g3 at3 k1 k2 hm3) λr st4 hr=>by cases r<;>exact hr
     .exact EG (PJ C L kd g3 at3 k1 k2 hm3) λr st4 hr=>by cases r<;>exact hr
    .rintro c eA ⟨g3,out3,na3,nb3,mg3,ac3,bc3,rfl,at3,k1,k2,hm3⟩
     exact⟨g3,.inr ⟨_,_,_,_,_,_,ξ,at3,k1,k2,hm3⟩⟩
    .rintro c eA ⟨g3,⟨r,y,rfl,m⟩| ⟨out3,na3,nb3,mg3,ac3,bc3,rfl,at3,k1,k2,hm3⟩⟩
     .exact A8 ⟨g3,_,_,ξ,m⟩
     .refine AS (setMin (A8 ⟨Rk g3 _,_,_,_,_,ξ,at3,k1,k2,δ⟩))
 .rintro c a6 ⟨g,out,na,nb,mg,rfl,at_,n1,n2,xm⟩
  lia
 .rintro c a6 ⟨g,x,y,rfl,m⟩
  exact A8 (h _ _ g m)
end
variable{rk:AH->Int}{G:AH->Prop}
noncomputable def lay(arr:Array AH)(sa:Nat)(r:Array AH):Array AH:=r.toList.zipIdx.foldl (λa (p,j)=>a.setIfInBounds (sa+j) p) arr
theorem UJ(sa:Nat):∀(l:List AH) (k:Nat) (arr:Array AH),sa+k+l.length<=arr.size->∀q:Nat,
  ((l.zipIdx k).foldl (λa (x:AH×Nat)=>a.setIfInBounds (sa+x.2) x.1) arr).size=arr.size/\((l.zipIdx k).foldl (λa (x:AH×Nat)=>a.setIfInBounds (sa+x.2) x.1) arr)[q]?=if sa+k<=q/\q<sa+k+l.length then l[q-(sa+k)]? else arr[q]?
 | [],k,arr,h,q=>by
  refine⟨ξ,?_⟩;rw[vA θ];rfl
 | x::l,k,arr,h,q=>by
  rw[C5] at h;rw[List.zipIdx_cons,P4];have ih:=UJ sa l (k+1) (arr.setIfInBounds (sa+k) x) (by rw[JA];lia) q;refine⟨ih.1.trans JA,ih.2.trans ?_⟩;rw[C5];by_cases c:sa+k<=q/\q<sa+k+(l.length+1)
  .rw[vB c]
   by_cases d:q=sa+k
   .subst d
    rw[vA δ,Array.getElem?_setIfInBounds_self_of_lt δ];simp
   .rw[vB δ,show q-(sa+k)=(q-(sa+(k+1)))+1 by lia,List.getElem?_cons_succ]
  .rw[vA c,vA δ,Array.getElem?_setIfInBounds_ne δ]
def Ra{r:Array AH}(h:sa+r.size<=arr.size)(q:Nat):(lay arr sa r)[q]?=if sa<=q/\q<sa+r.size then r[q-sa]? else arr[q]?:=by
 have:=(UJ sa r.toList 0 arr (by simpa using h) q).2;unfold lay;simpa using this
def ACP{r:Array AH}{mid:Nat}(lm:lo<=mid)(mh:mid<=hi)(ha:hi<=arr.size)(p:r.toList.Perm ((arr.extract lo mid).toList++(arr.extract mid hi).toList)):(lay arr lo r).Perm arr:=by
 have rl:r.size=hi-lo:=by
  have:=p.length_eq;simp at this;lia
 have e:(lay arr lo r).toList=arr.toList.take lo++(r.toList++arr.toList.drop hi):=by
  apply FF;intro q;rw[B4,Ra δ];by_cases c:q<lo
  .rw[vA (za c),BB (by simp;lia),G1 c,B4]
  .rw[Cc (by simp;lia)]
   have e1:(arr.toList.take lo).length=lo:=by simp;lia
   rw[e1];by_cases d:q<hi
   .rw[vB δ,BB (by simp;lia),B4]
   .rw[vA δ,Cc (by simp;lia),Tk,AZ,rl,B4]
    congr 1
    lia
 have e2:arr.toList=arr.toList.take lo++(((arr.extract lo mid).toList++(arr.extract mid hi).toList)++arr.toList.drop hi):=by
  have x1:(arr.extract lo mid).toList=(arr.toList.drop lo).take (mid-lo):=by rw[G6]
  have x2:(arr.extract mid hi).toList=(arr.toList.drop mid).take (hi-mid):=by rw[G6]
  rw[x1,x2,CH];have y2:(arr.toList.drop mid).take (hi-mid)++arr.toList.drop hi=arr.toList.drop mid:=by
   rw[show arr.toList.drop hi=(arr.toList.drop mid).drop (hi-mid) by rw[Rs];congr 1;exact ar485 mh];exact F6 ..
  rw[y2];have y1:(arr.toList.drop lo).take (mid-lo)++arr.toList.drop mid=arr.toList.drop lo:=by
   rw[show arr.toList.drop mid=(arr.toList.drop lo).drop (mid-lo) by rw[Rs];congr 1;exact ar485 lm];exact F6 ..
  rw[y1];exact(F6 ..).symm
 refine IA.mpr ?_;rw[e,e2];have e3:(WV lo arr.toList++(((arr.extract lo mid).toList++(arr.extract mid hi).toList)++arr.toList.drop hi)).take lo=WV lo arr.toList:=by rw[<- e2]
 have e4:(WV lo arr.toList++(((arr.extract lo mid).toList++(arr.extract mid hi).toList)++arr.toList.drop hi)).drop hi=arr.toList.drop hi:=by rw[<- e2]
 first
  | exact EL _ (Me _ p)
  | (rw[e3,e4];exact EL _ (Me _ p))
def Fj(h:Al G arr)(i j:Nat):Al G (arr.extract i j):=λk x e=>by
 rw[Array.getElem?_extract] at e;split at e
 .exact h _ x e
 .cases e
def srt_extract(h:Up rk arr i j)(hj:j<=arr.size):Srt rk (arr.extract i j).toList:=by
 unfold Srt;rw[B7];intro p q hp hq pq;simp at hp hq;have:=h (i+p) (i+q) vq δ δ;rw[Fl (ar486 hp),Fl (ar486 hq)] at this;simpa using this
def ABl{k:Nat}(h:k<(arr.extract i j).size):(arr.extract i j)[k]=arr[i+k]'(by simp at h;lia):=θ
def Ch(rk:AH->Int)(arr:Array AH):List (Nat×Nat×Nat)->Nat->Nat->Prop
 | [],lo,hi=>lo=hi
 | (s,n,_)::bg,lo,hi=>s=lo/\1<=n/\Up rk arr lo (lo+n)/\Ch rk arr bg (lo+n) hi
theorem Ch.le:∀{l:List (Nat×Nat×Nat)}{lo hi:Nat},Ch rk arr l lo hi->lo+l.length<=hi
 | [],lo,hi,h=>by have h':lo=hi:=h;simp;exact wH h'
 | (s,n,_)::bg,lo,hi,⟨_,h1,_,h⟩=>by have:=Ch.le h;simp;lia
def Up.congr(h:Up rk arr lo hi)(e:∀i,lo<=i->i<hi->kP[i]?=arr[i]?):Up rk kP lo hi:=λi j li ij jh=>by
 rw[En (e i li (v6 ij jh)),En (e j (wJ li ij) jh)];exact h i j li ij jh
theorem Ch.congr:∀{l:List (Nat×Nat×Nat)}{lo hi:Nat},Ch rk arr l lo hi->(∀i,lo<=i->i<hi->kP[i]?=arr[i]?)->Ch rk kP l lo hi
 | [],lo,hi,h,_=>h
 | (s,n,_)::bg,lo,hi,⟨e1,h1,u,h⟩,e=>by
  have le:=Ch.le h;exact⟨e1,h1,u.congr λi li il=>e i li δ,Ch.congr h λi li il=>e i (wc li) il⟩
theorem Ch.cut:∀{l m:List (Nat×Nat×Nat)}{lo hi:Nat},Ch rk arr (l++m) lo hi↔∃mid,Ch rk arr l lo mid/\Ch rk arr m mid hi
 | [],m,lo,hi=>⟨λh=>⟨lo,ξ,h⟩,λ⟨mid,e,h⟩=>by have e':lo=mid:=e;rw[e'];exact h⟩
 | (s,n,x)::l,m,lo,hi=>⟨by
   rintro⟨e1,h1,u,h⟩;obtain⟨mid,a,b⟩:=Ch.cut.mp h;exact⟨mid,⟨e1,h1,u,a⟩,b⟩,by rintro⟨mid,⟨e1,h1,u,a⟩,b⟩;exact⟨e1,h1,u,Ch.cut.mpr ⟨mid,a,b⟩⟩⟩
variable{rk:AH->Int}{G:AH->Prop}
def GD:Nat->StateT BD Sem Bool:=sortPriv% PySem.Builtin.mergeAt
noncomputable abbrev Ef(st:BD)(p:Array (Nat×Nat×Nat)):BD:=J9 (kindOf st) (AW st) p (Sa st) (G5 st)
def Vk(i:Nat):GD i=(do
 let s <- get
 let (u8 (sa,na,power),u8 (sb,nb,_)):=((BH s)[i]?,(BH s)[i+1]?)| unsupported "internal:list.sort.pending"
 set (Ef s (((BH s).setIfInBounds i (sa,na+nb,power)).eraseIdxIfInBounds (i+1)))
 let u8 k <- Cw false (<- D3 (AW s) sb) (AW s) sa na 0| return false
 let (sa,na):=(sa+k,na-k)
 if na==0 then return true
 let u8 nb <- Cw true (<- D3 (AW s) (sa+na-1)) (AW s) sb nb (nb-1)| return false
 if nb==0 then return true
 let x:=(AW s).extract sa sb
 let y:=(AW s).extract sb (sb+nb)
 let merged <- if na<=nb then Ig x y else JD x y
 modify λs=>V2 s (lay (AW s) sa merged)
 return (G5 (<- get)).isNone):=rfl
def AEe{σ:Type}{M:VC}{x:σ}{Q:PUnit->σ->Prop}{st:σ}(h:Q ⟨⟩ x):wpS M A E s (set x:StateT σ Sem PUnit) Q st:=by
 unfold wpS;rw[StateT.run_set];exact AC ⟨ξ,h⟩
def Vi(C:Cmp prog w A E s κ G rk)(B:Ba G rk κ a₀ st){pa sb pb:Nat}(hp1:(BH st)[i]?=u8 (sa,na,pa))(h8:(BH st)[i+1]?=u8 (sb,nb,pb))(oQ:sb=sa+na)(n1:1<=na)(n2:1<=nb)(hz:sb+nb<=a₀.size)(ua:Up rk (AW st) sa (sa+na))(ub:Up rk (AW st) sb (sb+nb)){Q:Bool->BD->Prop}
  (h:∀a6,Ba G rk κ a₀ a6->BH a6=((BH st).setIfInBounds i (sa,na+nb,pa)).eraseIdxIfInBounds (i+1)->(∀q,q<sa\/sb+nb<=q->(AW a6)[q]?=(AW st)[q]?)->Up rk (AW a6) sa (sb+nb)->Q true a6):wpS (AN prog w) A E s (GD i) Q st:=by
 have sz:=B.size;have al:=B.all.perm B.perm;rw[Vk];refine AS (KL ?_);rw[hp1,h8];dsimp only;refine AS (AEe ?_);have B1:Ba G rk κ a₀ (Ef st (((BH st).setIfInBounds i (sa,na+nb,pa)).eraseIdxIfInBounds (i+1))):=⟨B.perm,B.kind,B.failed,B.all,B.di⟩;have hb:sb<(AW st).size:=by lia
 refine AS (Bj hb ?_);refine AS (Dh C (al.at hb) al B1.kind (yY hb oQ) δ (FP ua) λk kn kt kf=>?_);dsimp only;have t1:∀q,sa<=q->q<sa+k->N rk (AW st) q<=N rk (AW st) sb:=λq q1 q2=>by
  have z:=kt (q-sa) (xC q2 q1);rw[Eh δ] at z;have e:sa+(q-sa)=q:=ww q1;simp only[e] at z;rw[Fl (show q<(AW st).size by lia),Fl hb];refine J8.mp λy=>?_;rw[vC y] at z;cases z
 have t2:∀q,sa+k<=q->q<sa+na->N rk (AW st) sb<N rk (AW st) q:=λq q1 q2=>by
  have z:=kf (q-sa) (xD q1) (zJ q2 q1);rw[Eh δ] at z;have e:sa+(q-sa)=q:=xE q1;simp only[e] at z;rw[Fl (show q<(AW st).size from zK q2 hb oQ),Fl hb];cases c:decide (rk (AW st)[sb]<rk ((AW st)[q]'(zK q2 hb oQ))) with
  | true=>exact vE c
  | false=>rw[c] at z;cases z
 by_cases c1:na-k=0
 .rw[vB (by rw[c1];rfl)]
  refine A8 (h _ B1 rfl (λ_ _=>rfl) λp q sp pq qh=>?_);by_cases d:q<sa+na
  .exact ua p q sp pq d
  .by_cases d':p<sa+na
   .exact EN (t1 p sp δ) (ub sb q (AI _) (ya oQ d) qh)
   .exact ub p q (ya oQ d') pq qh
 rw[vA (by intro z;exact c1 (beq_iff_eq.mp z))];have hl:sa+k+(na-k)-1<(AW st).size:=by lia
 refine AS (Bj hl ?_);refine AS (Dh C (al.at hl) al B1.kind δ (xf n2) (FP ub) λm mn mt mf=>?_);dsimp only;have el:sa+k+(na-k)-1=sb-1:=by lia
 have u1:∀q,sb<=q->q<sb+m->N rk (AW st) q<N rk (AW st) (sb-1):=λq q1 q2=>by
  have z:=mt (q-sb) (xC q2 q1);rw[Fb δ] at z;have e:sb+(q-sb)=q:=ww q1;simp only[e,el] at z;rw[Fl (show q<(AW st).size by lia),Fl (show sb-1<(AW st).size from xt hl el)];exact vE z
 have u2:∀q,sb+m<=q->q<sb+nb->N rk (AW st) (sb-1)<=N rk (AW st) q:=λq q1 q2=>by
  have z:=mf (q-sb) (xD q1) (zJ q2 q1);rw[Fb δ] at z;have e:sb+(q-sb)=q:=xE q1;simp only[e,el] at z;rw[Fl (show q<(AW st).size by lia),Fl (show sb-1<(AW st).size from xt hl el)];exact J8.mp (of_decide_eq_false z)
 by_cases c2:m=0
 .rw[vB (by rw[c2];rfl)]
  refine A8 (h _ B1 rfl (λ_ _=>rfl) λp q sp pq qh=>?_);by_cases d:q<sa+na
  .exact ua p q sp pq d
  .by_cases d':p<sa+na
   .exact EN (ua p (sb-1) sp δ δ) (u2 q δ qh)
   .exact ub p q (ya oQ d') pq qh
 rw[vA (by intro z;exact c2 (beq_iff_eq.mp z))];have exs:((AW st).extract (sa+k) sb).size=sb-(sa+k):=by simp;lia
 have eys:((AW st).extract sb (sb+m)).size=m:=by simp;lia
 have sx:Srt rk ((AW st).extract (sa+k) sb).toList:=srt_extract (λp q a b c=>ua p q (wc a) b (wP c oQ)) (w6 hb);have sy:Srt rk ((AW st).extract sb (sb+m)).toList:=srt_extract (λp q a b c=>ub p q a b (yb c mn)) (zL hz mn sz);have atx:∀j,∀hj:j<((AW st).extract (sa+k) sb).size,rk ((AW st).extract (sa+k) sb)[j]=N rk (AW st) (sa+k+j):=λj hj=>by
  rw[ABl hj,Fl δ]
 have aty:∀j,∀hj:j<((AW st).extract sb (sb+m)).size,rk ((AW st).extract sb (sb+m))[j]=N rk (AW st) (sb+j):=λj hj=>by
  rw[ABl hj,Fl δ]
 have first:∀j,∀hj:j<((AW st).extract (sa+k) sb).size,∀h0:0<((AW st).extract sb (sb+m)).size,rk (((AW st).extract sb (sb+m))[0]'h0)<=rk ((AW st).extract (sa+k) sb)[j]:=λj hj h0=>by
  rw[atx j hj,aty 0 h0,Ta];exact FO (t2 _ vq δ)
 have qr:∀j,∀hj:j<((AW st).extract sb (sb+m)).size,rk ((AW st).extract sb (sb+m))[j]<=N rk (AW st) (sb-1):=λj hj=>by
  rw[aty j hj];exact FO (u1 _ vq (zM hj eys))
 have fin:∀(r:Array AH) (bE:BD),Gx (Ef st (((BH st).setIfInBounds i (sa,na+nb,pa)).eraseIdxIfInBounds (i+1))) bE->Mg rk ((AW st).extract (sa+k) sb).toList ((AW st).extract sb (sb+m)).toList r.toList ->
   wpS (AN prog w) A E s (do modify λs=>V2 s (lay (AW s) (sa+k) r);let g <- get;pure (G5 g).isNone) Q bE:=by
  rintro r bE g ⟨pm,sr⟩;have rs:r.size=sb+m-(sa+k):=by
   have:=pm.length_eq;simp at this;lia
  have ea:=g.arr;have hs:sa+k+r.size<=(AW st).size:=by lia
  refine AS (IN ?_);refine AS (KL ?_);have ef:=g.failed.trans B.failed;rw[ef];have lp:=ACP (arr:=AW st) (r:=r) (lo:=sa+k) (mid:=sb) (hi:=sb+m) δ vq (zL hz mn sz) pm;have mem:∀j,∀hj:j<r.size,∃q,sa+k<=q/\q<sb+m/\rk r[j]=N rk (AW st) q:=λj hj=>by
   have:r[j]∈r.toList:=O9 hj;rcases Cf.mp (pm.mem_iff.mp this) with z| z
   .obtain⟨q,hq,e⟩:=CS.mp z
    have i6:q<((AW st).extract (sa+k) sb).size:=by rw[<- AZ];exact hq
    exact⟨sa+k+q,vq,δ,by rw[<- e,<- atx q i6];simp⟩
   .obtain⟨q,hq,e⟩:=CS.mp z
    have i6:q<((AW st).extract sb (sb+m)).size:=by rw[<- AZ];exact hq
    exact⟨sb+q,δ,zM i6 eys,by rw[<- e,<- aty q i6];simp⟩
  have laid:∀q,N rk (lay (AW st) (sa+k) r) q=if c:sa+k<=q/\q<sa+k+r.size then rk (r[q-(sa+k)]'(wX c)) else N rk (AW st) q:=λq=>by
   have e:=Ra (arr:=AW st) (r:=r) (sa:=sa+k) hs q;by_cases c:sa+k<=q/\q<sa+k+r.size
   .rw[dif_pos c]
    rw[vB c] at e;unfold N;rw[e,BC (wX c)]
   .rw[dif_neg c]
    rw[vA c] at e;exact En e
  refine A8 (h _ ⟨?_,g.kind.trans B.kind,ef,B.all,B.di⟩ g.pend (λq hq=>?_) ?_)
  .rw[ea]
   exact lp.trans B.perm
  .rw[ea,Ra hs,vA δ]
  .rw[ea]
   intro p q sp pq qh;rw[laid p,laid q];by_cases cp:sa+k<=p/\p<sa+k+r.size
   .rw[dif_pos cp]
    by_cases cq:sa+k<=q/\q<sa+k+r.size
    .rw[dif_pos cq]
     exact FJ sr δ (wX cq)
    .rw[dif_neg cq]
     obtain⟨v,v1,v2,ev⟩:=mem (p-(sa+k)) (wX cp);rw[ev];by_cases d:v<sb
     .exact EN (ua v (sb-1) (wc v1) (wD d) δ) (u2 q δ qh)
     .exact ub v q (vo d) δ qh
   .rw[dif_neg cp]
    by_cases cq:sa+k<=q/\q<sa+k+r.size
    .rw[dif_pos cq]
     obtain⟨v,v1,v2,ev⟩:=mem (q-(sa+k)) (wX cq);rw[ev];by_cases d:v<sb
     .exact ua p v sp δ (wP d oQ)
     .exact EN (t1 p sp δ) (ub sb v (AI _) (vo d) (yb v2 mn))
    .rw[dif_neg cq]
     by_cases d:q<sa+k
     .exact ua p q sp pq (yb d kn)
     .by_cases d2:p<sa+k
      .exact EN (t1 p sp d2) (ub sb q (AI _) (zN rs cq d) qh)
      .exact ub p q (zN rs cp d2) pq qh
 by_cases c3:na-k<=m
 .rw[vB c3]
  refine AS (Uh C ⟨Fj al _ _,Fj al _ _,sx,sy,λy hy z hz=>?_⟩ B1.kind δ (zO eys c2) (λj hj=>first j hj δ) λr bE g mg=>fin r bE g mg);obtain⟨j,j1,hj,rfl⟩:=Dv hz;obtain⟨q,hq,e⟩:=CS.mp hy;have i6:q<((AW st).extract sb (sb+m)).size:=by rw[<- AZ];exact hq
  have e':y=((AW st).extract sb (sb+m))[q]:=by rw[<- e];simp
  rw[e',atx j hj,show sa+k+j=sb-1 by lia];exact qr q i6
 .rw[vA c3]
  refine AS (Vs C ⟨Fj al _ _,Fj al _ _,sx,sy,λj hj h0=>first j hj h0⟩ B1.kind δ (zO eys c2) (λj hj=>?_) λr bE g mg=>fin r bE g mg);rw[atx _ δ,show sa+k+(((AW st).extract (sa+k) sb).size-1)=sb-1 by lia];exact qr j hj
variable{rk:AH->Int}{G:AH->Prop}
def Rg:Nat->Nat->Nat->Nat:=sortPriv% PySem.Builtin.minRun
noncomputable def powerT:Nat->Nat->Nat->Nat->Nat:=sortPriv% PySem.Builtin.power
def Qh:StateT BD Sem Unit:=sortPriv% PySem.Builtin.sortRuns
def Sy:Qh=(do
 let size:=(AW (<- get)).size
 let minrun:=Rg size size 0
 let mut lo:=0
 for _ in [0:size] do
  if lo >= size then break
  let u8 found <- JX lo (size-lo)| return
  let mut n:=found
  if n<minrun then
   rule "list.sort.binary-insertion"
   let force:=min (size-lo) minrun
   if !(<- Nv lo force n) then return
   n:=force
  if let u8 (s1,n1,_):=(BH (<- get)).back? then
   let pw:=powerT size (2*s1+n1) (2*s1+n1+n1+n) size
   for _ in [0:size] do
    let p:=BH (<- get)
    let u8 (_,_,older):=(if p.size>1 then p[p.size-2]? else u9)| break
    if older<=pw then break
    if !(<- GD (p.size-2)) then return
   modify λs=>Ef s ((BH s).modify ((BH s).size-1) λ(st,len,_)=>(st,len,pw))
  modify λs=>Ef s ((BH s).push (lo,n,0))
  lo:=lo+n
 for _ in [0:size] do
  let p:=BH (<- get)
  if p.size<=1 then break
  let i:=p.size-2
  let before:=if i>0 then p[i-1]?.map (·.2.1) else u9
  let i:=if before.any (· < (p[i+1]?.elim 0 (·.2.1))) then i-1 else i
  if !(<- GD i) then return):=rfl
structure Rn(G:AH->Prop)(rk:AH->Int)(κ:EM)(a₀:Array AH)(lo:Nat)(st:BD):Prop where
 ba:Ba G rk κ a₀ st
 ch:Ch rk (AW st) (BH st).toList 0 lo
theorem Ni{α:Type}:∀{l:List α}{i:Nat}{x y:α},l[i]?=u8 x->l[i+1]?=u8 y->l=l.take i++x::y::l.drop (i+2)
 | a::b::l,0,x,y,h1,h2=>by
  simp at h1 h2;subst h1 h2;rfl
 | a::l,i+1,x,y,h1,h2=>by
  have:=Ni (l:=l) (i:=i) (x:=x) (y:=y) (by simpa using h1) (by simpa using h2);rw[M9,O8]
  congr 1
def AAj{p:Array (Nat×Nat×Nat)}{x y v:Nat×Nat×Nat}(h1:p[i]?=u8 x)(h2:p[i+1]?=u8 y):((p.setIfInBounds i v).eraseIdxIfInBounds (i+1)).toList=p.toList.take i++v::p.toList.drop (i+2):=by
 have hi:=(CL.mp h2).1;have e:=Ni (l:=p.toList) (i:=i) (x:=x) (y:=y) (by rw[B4];exact h1) (by rw[B4];exact h2);have tl:(p.toList.take i).length=i:=by simp;lia
 have es:(p.setIfInBounds i v).toList=p.toList.take i++v::y::p.toList.drop (i+2):=by
  rw[Array.toList_setIfInBounds]
  conv=>lhs;rw[e]
  rw[List.set_append_right _ _ (wH tl),tl,IZ];rfl
 have hz:i+1<(p.setIfInBounds i v).size:=by rw[JA];exact hi
 rw[Pc,dif_pos hz,Array.toList_eraseIdx,es,List.eraseIdx_append_of_length_le δ,tl]
 congr 1
 rw[show i+1-i=1 by lia];rfl
def Qt(C:Cmp prog w A E s κ G rk)(R:Rn G rk κ a₀ lo st)(hl:lo<=a₀.size)(hi:i+1<(BH st).size){Q:Bool->BD->Prop}
  (h:∀a6,Rn G rk κ a₀ lo a6->(BH a6).size+1=(BH st).size->(∀q,lo<=q->(AW a6)[q]?=(AW st)[q]?)->Q true a6):wpS (AN prog w) A E s (GD i) Q st:=by
 obtain⟨sa,na,pa,e1⟩:∃sa na pa,(BH st)[i]?=u8 (sa,na,pa):=⟨_,_,_,BC (vp hi)⟩;obtain⟨sb,nb,pb,e2⟩:∃sb nb pb,(BH st)[i+1]?=u8 (sb,nb,pb):=⟨_,_,_,BC hi⟩;have e:=Ni (l:=(BH st).toList) (i:=i) (by rw[B4];exact e1) (by rw[B4];exact e2);have ch:=R.ch;rw[e] at ch;obtain⟨mid,c1,rfl,n1,ua,rfl,n2,ub,c2⟩:=Ch.cut.mp ch;have le:=c2.le;have le1:=c1.le;have z2:sa+na+nb<=lo:=wc le;refine Vi C R.ba e1 e2 rfl n1 n2 (wJ z2 hl) ua ub λa6 B' pe low up=>?_;have pl:=AAj (v:=(sa,na+nb,pa)) e1 e2;refine h a6 ⟨B',?_⟩ ?_ λq hq=>low q (.inr δ)
 .rw[pe,pl]
  refine Ch.cut.mpr ⟨sa,c1.congr λq _ hq=>low q (.inl hq),ξ,wG n1,?_,?_⟩
  .rw[show sa+(na+nb)=sa+na+nb from xW]
   exact up
  .rw[show sa+(na+nb)=sa+na+nb from xW]
   exact c2.congr λq hq _=>low q (.inr hq)
 .have:=congrArg Fu pl
  rw[<- pe] at this;simp at this;lia
theorem Ch.mod{f:Nat×Nat×Nat->Nat×Nat×Nat}(hf:∀x,(f x).1=x.1/\(f x).2.1=x.2.1):∀{l:List (Nat×Nat×Nat)}{lo hi:Nat} (i:Nat),Ch rk arr l lo hi->Ch rk arr (l.modify i f) lo hi
 | [],lo,hi,i,h=>by rw[List.modify_nil];exact h
 | (a,n,p)::l,lo,hi,0,⟨e1,h1,u,h⟩=>by
  rw[List.modify_zero_cons];have:=hf (a,n,p);generalize f (a,n,p)=y at this;obtain⟨y1,y2,y3⟩:=y;obtain⟨z1,z2⟩:=this;subst z1 z2;exact⟨e1,h1,u,h⟩
 | (a,n,p)::l,lo,hi,i+1,⟨e1,h1,u,h⟩=>by
  rw[List.modify_succ_cons];exact⟨e1,h1,u,Ch.mod hf i h⟩
def AEz{c:Prop}{i:Decidable c}{a b:Nat}(h1:a<=m)(h2:b<=m):(@ite Nat c i a b)<=m:=by
 split
 .exact h1
 .exact h2
def Ob(C:Cmp prog w A E s κ G rk)(B:Ba G rk κ a₀ st)(hp:BH st=#[]){Q:Unit->BD->Prop}
  (h:∀a6,Ba G rk κ a₀ a6->Up rk (AW a6) 0 a₀.size->Q () a6):wpS (AN prog w) A E s Qh Q st:=by
 rw[Sy];refine AS (KL ?_);dsimp only;rw[B.size];refine AS (EG (D0 (I:=λx c a6=>∃lo,c=(u9,lo)/\x<=lo/\lo<=a₀.size/\Rn G rk κ a₀ lo a6) (Q:=λc a6=>c=(u9,a₀.size)/\Rn G rk κ a₀ a₀.size a6) ?_ ?_ ⟨0,ξ,AI _,Bz _,B,by rw[hp];rfl⟩) ?_)
 .rintro x c st1 _ xn ⟨lo,rfl,xl,ll,R⟩
  dsimp only;by_cases c1:lo >= a₀.size
  .rw[vB c1]
   have:lo=a₀.size:=xR ll c1;subst this;exact A8 ⟨ξ,R⟩
  rw[vA c1];refine AS (Oh C R.ba δ δ λn bE n1 nn nx up=>?_);dsimp only;have R2:Rn G rk κ a₀ lo bE:=⟨R.ba.nx nx,by rw[nx.pend];exact R.ch.congr λi _ hi=>nx.low i hi⟩;by_cases c2:n<Rg a₀.size a₀.size 0
  .rw[vB c2]
   refine AS (NH (IH ⟨ξ,?_⟩));obtain⟨f,ef⟩:∃f,f=min (a₀.size-lo) (Rg a₀.size a₀.size 0):=⟨_,ξ⟩;rw[<- ef];refine AS (RK C R2.ba (n:=f) (ye ef c1) δ up λeA nx3 up3=>?_);have R3:Rn G rk κ a₀ lo eA:=⟨R2.ba.nx nx3,by rw[nx3.pend];exact R2.ch.congr λi _ hi=>nx3.low i hi⟩;rw[vA ζ];refine AS (KL ?_);have put:∀{st4:BD},Rn G rk κ a₀ lo st4->(∀q,lo<=q->(AW st4)[q]?=(AW eA)[q]?)->Rn G rk κ a₀ (lo+f) (Ef st4 ((BH st4).push (lo,f,0))):=λ{st4} R4 e4=>⟨⟨R4.ba.perm,R4.ba.kind,R4.ba.failed,R4.ba.all,R4.ba.di⟩,by
    rw[Kx];exact Ch.cut.mpr ⟨lo,R4.ch,ξ,δ,up3.congr λq hq _=>e4 q hq,ξ⟩⟩
   cases hb:(BH eA).back? with
   | none =>
    dsimp only;exact AS (IN (A8 ⟨lo+f,ξ,ar478 xl n1 nn c2 ef,ye ef c1,put R3 λ_ _=>rfl⟩))
   | some v =>
    obtain⟨s1,m1,q1⟩:=v;dsimp only;refine AS (EG (D0 (I:=λ_ c st4=>c=(u9,())/\Rn G rk κ a₀ lo st4/\∀q,lo<=q->(AW st4)[q]?=(AW eA)[q]?) (Q:=λc st4=>c=(u9,())/\Rn G rk κ a₀ lo st4/\∀q,lo<=q->(AW st4)[q]?=(AW eA)[q]?) ?_ (λ_ _ h=>h) ⟨ξ,R3,λ_ _=>rfl⟩) ?_)
    .rintro y c st4 _ _ ⟨rfl,R4,e4⟩
     refine AS (KL ?_);by_cases d1:(BH st4).size>1
     .rw[vB d1,BC (show(BH st4).size-2<(BH st4).size from ar479 d1)]
      dsimp only;split
      .exact A8 ⟨ξ,R4,e4⟩
      .refine AS (Qt C R4 ll (ar480 d1) λsK R5 _ e5=>?_)
       rw[vA ζ];exact A8 ⟨ξ,R5,λq hq=>(e5 q hq).trans (e4 q hq)⟩
     .rw[vA d1]
      exact A8 ⟨ξ,R4,e4⟩
    .rintro c st4 ⟨rfl,R4,e4⟩
     dsimp only;refine AS (IN (AS (IN (A8 ⟨lo+f,ξ,ar478 xl n1 nn c2 ef,ye ef c1,?_⟩))));refine put (st4:=Ef st4 ((BH st4).modify ((BH st4).size-1) _)) ⟨⟨R4.ba.perm,R4.ba.kind,R4.ba.failed,R4.ba.all,R4.ba.di⟩,?_⟩ e4;show Ch rk (AW st4) ((BH st4).modify ((BH st4).size-1) _).toList 0 lo;rw[SD];refine Ch.mod (f:=_) ?_ _ R4.ch;exact λ_=>⟨ξ,ξ⟩
  .rw[vA c2]
   refine AS (KL ?_);have put:∀{st4:BD},Rn G rk κ a₀ lo st4->(∀q,lo<=q->(AW st4)[q]?=(AW bE)[q]?)->Rn G rk κ a₀ (lo+n) (Ef st4 ((BH st4).push (lo,n,0))):=λ{st4} R4 e4=>⟨⟨R4.ba.perm,R4.ba.kind,R4.ba.failed,R4.ba.all,R4.ba.di⟩,by
    rw[Kx];exact Ch.cut.mpr ⟨lo,R4.ch,ξ,n1,up.congr λq hq _=>e4 q hq,ξ⟩⟩
   cases hb:(BH bE).back? with
   | none =>
    dsimp only;exact AS (IN (A8 ⟨lo+n,ξ,ar481 xl n1,ar482 nn c1,put R2 λ_ _=>rfl⟩))
   | some v =>
    obtain⟨s1,m1,q1⟩:=v;dsimp only;refine AS (EG (D0 (I:=λ_ c st4=>c=(u9,())/\Rn G rk κ a₀ lo st4/\∀q,lo<=q->(AW st4)[q]?=(AW bE)[q]?) (Q:=λc st4=>c=(u9,())/\Rn G rk κ a₀ lo st4/\∀q,lo<=q->(AW st4)[q]?=(AW bE)[q]?) ?_ (λ_ _ h=>h) ⟨ξ,R2,λ_ _=>rfl⟩) ?_)
    .rintro y c st4 _ _ ⟨rfl,R4,e4⟩
     refine AS (KL ?_);by_cases d1:(BH st4).size>1
     .rw[vB d1,BC (show(BH st4).size-2<(BH st4).size from ar479 d1)]
      dsimp only;split
      .exact A8 ⟨ξ,R4,e4⟩
      .refine AS (Qt C R4 ll (ar480 d1) λsK R5 _ e5=>?_)
       rw[vA ζ];exact A8 ⟨ξ,R5,λq hq=>(e5 q hq).trans (e4 q hq)⟩
     .rw[vA d1]
      exact A8 ⟨ξ,R4,e4⟩
    .rintro c st4 ⟨rfl,R4,e4⟩
     dsimp only;refine AS (IN (AS (IN (A8 ⟨lo+n,ξ,ar481 xl n1,ar482 nn c1,?_⟩))));refine put (st4:=Ef st4 ((BH st4).modify ((BH st4).size-1) _)) ⟨⟨R4.ba.perm,R4.ba.kind,R4.ba.failed,R4.ba.all,R4.ba.di⟩,?_⟩ e4;show Ch rk (AW st4) ((BH st4).modify ((BH st4).size-1) _).toList 0 lo;rw[SD];refine Ch.mod (f:=_) ?_ _ R4.ch;exact λ_=>⟨ξ,ξ⟩
 .rintro c a6 ⟨lo,rfl,xl,ll,R⟩
  have:lo=a₀.size:=by lia
  subst this;exact⟨ξ,R⟩
 .rintro c a6 ⟨rfl,R⟩
  dsimp only;refine AS (EG (D0 (I:=λx c bE=>c=(u9,())/\Rn G rk κ a₀ a₀.size bE/\((BH bE).size<=1\/(BH bE).size+x<=a₀.size)) (Q:=λc bE=>c=(u9,())/\Rn G rk κ a₀ a₀.size bE/\(BH bE).size<=1) ?_ ?_ ⟨ξ,R,.inr ?_⟩) ?_)
  .rintro x c bE _ xn ⟨rfl,R2,sz⟩
   refine AS (KL ?_);by_cases d1:(BH bE).size<=1
   .rw[vB d1]
    exact A8 ⟨ξ,R2,d1⟩
   .rw[vA d1]
    refine AS (Qt C R2 (AI _) ?_ λeA R3 z3 _=>?_)
    .exact EQ (MH (AEz (m:=(BH bE).size-2) wk wC) 1) δ
    .rw[vA ζ]
     exact A8 ⟨ξ,R3,δ⟩
  .rintro c bE ⟨rfl,R2,sz⟩
   exact⟨ξ,R2,δ⟩
  .have:=R.ch.le
   simp at this;exact zI this
  .rintro c bE ⟨rfl,R2,sz⟩
   refine A8 (h bE R2.ba ?_);have ch:=R2.ch;cases e:(BH bE).toList with
   | nil =>
    rw[e] at ch;have z:0=a₀.size:=ch;intro i j _ _ hj;lia
   | cons v l =>
    rw[e] at ch;obtain⟨v1,v2,v3⟩:=v;have ln:l=[]:=by
     have:=congrArg Fu e;simp at this;exact CU.mp δ
    subst ln;obtain⟨_,_,u,z⟩:=ch;have z':=z;rw[<- z'];exact u
end TM
namespace SB
open PySem PySem.W PyProof.Rows
theorem Jf:∀{x y:vG},HT.lexLt x y=true->HT.lexLt y x=false
 | [],[],h=>by cases h
 | [],_::_,_=>rfl
 | _::_,[],h=>by cases h
 | a::x,b::y,h=>by
  rw[HT.CP] at h ⊢;by_cases c:a=b
  .rw[vB c] at h
   rw[vB c.symm];exact Jf h
  .rw[vA c] at h
   rw[vA (BU c)];have:=vE h;exact vD (xU this)
theorem Wc:∀{x y:vG},x≠y->HT.lexLt x y=false->HT.lexLt y x=true
 | [],[],n,_=>vF rfl n
 | [],_::_,_,h=>by cases h
 | _::_,[],_,_=>rfl
 | a::x,b::y,n,h=>by
  rw[HT.CP] at h ⊢;by_cases c:a=b
  .rw[vB c] at h
   rw[vB c.symm];exact Wc (λe=>n (by rw[c,e])) h
  .rw[vA c] at h
   rw[vA (BU c)];have:=of_decide_eq_false h;exact vC δ
theorem Xe:∀{x y z:vG},HT.lexLt x y=true->HT.lexLt y z=true->HT.lexLt x z=true
 | [],[],_,h,_=>by cases h
 | [],_::_,[],_,h=>by cases h
 | [],_::_,_::_,_,_=>rfl
 | _::_,[],_,h,_=>by cases h
 | _::_,_::_,[],_,h=>by cases h
 | a::x,b::y,c::z,h,k=>by
  rw[HT.CP] at h k ⊢;by_cases ab:a=b
  .rw[vB ab] at h
   by_cases bc:b=c
   .rw[vB bc] at k
    rw[vB (ab.trans bc)];exact Xe h k
   .rw[vA bc] at k
    rw[vA (λe=>bc δ)];have:=vE k;exact vC δ
  .rw[vA ab] at h
   have h':=vE h;by_cases bc:b=c
   .rw[vB bc] at k
    rw[vA δ];exact vC δ
   .rw[vA bc] at k
    have k':=vE k;rw[vA δ];exact vC δ
def AEI{b fin:Bool}{Q:vK}{x y:vG}(hx:ItemsAre (LO prog w) x vs):∀{y:vG}{us:vO} (i:Nat),ItemsAre (LO prog w) y us->fin=decide (x.length<y.length)->Q (HT.lexLt x y) s->KatLex prog w A b fin Q (vs.zip us) i s:=by
 induction hx with
 | nil =>
  intro y us i hy hf q;cases hy with
  | nil=>rw[hf];exact q
  | cons h1 t=>rw[hf];exact q
 | @cons k v ks vs' hk ht ih =>
  intro y us i hy hf q;cases hy with
  | nil=>rw[hf];exact q
  | @cons k' v' de us' bp kC =>
   rw[HT.CP] at q;refine kat_cons ((LO prog w).eqBool hk bp ?_);by_cases c:k=k'
   .rw[vB c] at q
    rw[vC c];refine kat_yes (ih (i+1) kC ?_ q);rw[hf];simp
   .rw[vA c] at q
    rw[vD c];refine kat_no ?_;obtain⟨t1,rfl⟩:=G9 hk;obtain⟨t2,rfl⟩:=G9 bp;cases (b&&i==0) with
    | true =>
     rw[<- WG];exact kat_lt_int q
    | false=>exact kat_one _ _ (lt_int q)
def AGv{b:Bool}{x y:vG}{c:Addr}{Q:vK}(hx:IK prog w s.heap x a)(hy:IK prog w s.heap y c)(q:Q (HT.lexLt x y) s):wpAny (AN prog w) A (V4 (tuples' b) (.ref a) (.ref c)) Q E s:=by
 obtain⟨ox,xs,n,gx,cx,dx,ix⟩:=hx;obtain⟨oy,ys,k,gy,cy,dy,iy⟩:=hy;refine kat_lt gx dx gy dy (AEI (x:=x) (y:=y) (us:=ys.toList) ix 0 iy ?_ q);have l1:=ix.length;have l2:=iy.length;rw[l1,l2,AZ,AZ]
structure Row(prog:AL)(w:AR)(h:Heap)(vs:vO)(ks:List (vG×Addr)):Prop where
 vals:vs=ks.map λx=>A7 x.2
 keys:∀x∈ks,IK prog w h x.1 x.2
 full:∀x∈ks,x.1≠[]
 nd:(ks.map (·.1)).Nodup
noncomputable def ltK(ks:List (vG×Addr))(i j:Nat):Bool:=HT.lexLt (ks.getD i ([],0)).1 (ks.getD j ([],0)).1
section
def Row.tups(R:Row prog w h vs ks):∃fs,KatTups h vs fs/\fs.length=vs.length/\∀v∈fs,∃n t,v=NJ n t:=by
 obtain⟨e,hk,hf,hn⟩:=R;clear hn;subst e
 induction ks with
 | nil=>exact⟨[],trivial,ξ,λv hv=>by cases hv⟩
 | cons x r ih =>
  obtain⟨fs,t,l,q⟩:=ih (λy hy=>hk y (AJ _ hy)) (λy hy=>hf y (AJ _ hy));obtain⟨o,xs,n,gx,cx,dx,ix⟩:=hk x AF;have hx:=hf x AF;obtain⟨xk,xa⟩:=x;cases hxs:xs.toList with
  | nil =>
   rw[hxs] at ix;cases ix;exact vF rfl hx
  | cons f bg =>
   have hf0:xs[0]?=u8 f:=by rw[<- B4,hxs];rfl
   have hi:=Rt ix f (by rw[hxs];exact AF);refine⟨f::fs,KatTups.cons gx cx dx hf0 t,by simp[l],λv hv=>?_⟩;rcases AY.mp hv with rfl| hv
   .exact hi
   .exact q v hv
def perm_back{f:α->β}{l m:List β}(p:l.Perm m):∀ks:List α,m=ks.map f->∃de:List α,de.Perm ks/\l=de.map f:=by
 induction p with
 | nil =>
  intro ks e;cases ks with
  | nil=>exact⟨[],.refl _,ξ⟩
  | cons _ _=>cases e
 | @cons x l1 l2 _ ih =>
  intro ks e;cases ks with
  | nil=>cases e
  | cons k r =>
   rw[BO] at e;obtain⟨e1,e2⟩:=Sr e;obtain⟨r',p',e'⟩:=ih r e2;exact⟨k::r',p'.cons k,by rw[BO,e1,e']⟩
 | swap x y l1 =>
  intro ks e
  match ks,e with
  | [],e=>cases e
  | [_],e=>simp at e
  | a::b::r,e =>
   rw[BO,BO] at e;obtain⟨e1,e2⟩:=Sr e;obtain⟨e3,e4⟩:=Sr e2;exact⟨b::a::r,NG ..,by rw[BO,BO,e1,e3,e4]⟩
 | trans _ _ tG u5 =>
  intro ks e;obtain⟨k2,p2,e2⟩:=u5 ks e;obtain⟨k1,p1,e1⟩:=tG k2 e2;exact⟨k1,p1.trans p2,e1⟩
def QJ{ks:vG}(h:ItemsAre (LO prog w) ks us):ks=us.map numOf:=by
 induction h with
 | nil=>rfl
 | cons h1 _ ih =>
  obtain⟨t,e⟩:=G9 h1;rw[BO,<- ih,e];rfl
def AIJ{k k':vG}(x:IK prog w h k a)(y:IK prog w h k' a):k=k':=by
 obtain⟨o,items,n,ho,_,hd,hi⟩:=x;obtain⟨o',items',n',fh,_,eh,b7⟩:=y;rw[ho] at fh;cases fh;rw[hd] at eh;cases eh;rw[QJ hi,QJ b7]
set_option tactic.hygienic true in
theorem Ka{α:Type}{p q:α->Bool}:∀{l:List α}{x:α},(∀y∈l,p y=true->q y=true)->x∈l->p x=false->q x=true->(l.filter p).length<(l.filter q).length
 | [],x,_,h,_,_=>by cases h
 | a::l,x,hs,hx,px,qx=>by
  have le:∀{m:List α},(∀y∈m,p y=true->q y=true)->(m.filter p).length<=(m.filter q).length:=λ{m}=>by
   induction m with
   | nil=>exact λ_=>AI _
   | cons b m ih =>
    intro hm;have:=ih λy hy=>hm y (AJ _ hy);rw[C6,C6];have hb:=hm b (AF ..);split
    .rename_i pb
     rw[vB (hb pb)];simp;exact this
    .split
     .simp;exact wG this
     .exact this
  have hl:=le λy hy=>hs y (AJ _ hy);rw[C6,C6];rcases AY.mp hx with rfl| hx
  .rw[vA (by rw[px];decide),vB qx]
   simp;exact xO hl
  .have ih:=Ka (λy hy=>hs y (AJ _ hy)) hx px qx
   have ha:=hs a (AF ..);split
   .rename_i pa
    rw[vB (ha pa)];simp;exact ih
   .split
    .simp;exact wb ih
    .exact ih
noncomputable def cntK(ks:List (vG×Addr))(k:vG):Int:=((ks.filter λy=>HT.lexLt y.1 k).length:Int)
open Classical in
noncomputable def rkK(ks:List (vG×Addr))(x:AH):Int:=if h:∃i,i<ks.length/\x.1=A7 (ks.getD i ([],0)).2 then cntK ks (ks.getD (Ff h) ([],0)).1 else 0
noncomputable def itK(ks:List (vG×Addr))(i:Nat):AH:=(A7 (ks.getD i ([],0)).2,A7 (ks.getD i ([],0)).2)
def Ti{a b:vG}(ha:a∈ks.map (·.1))(h:HT.lexLt a b=true):cntK ks a<cntK ks b:=by
 obtain⟨x,hx,rfl⟩:=A1.mp ha;unfold cntK;have:=Ka (p:=λy:vG×Addr=>HT.lexLt y.1 x.1) (q:=λy=>HT.lexLt y.1 b) (l:=ks) (x:=x) (λy _ e=>Xe e h) hx (by
  cases c:HT.lexLt x.1 x.1 with
  | false=>rfl
  | true=>have:=Jf c;rw[c] at this;cases this) h
 exact v7 this
end
def HX{p:Array Nat}(P:PP n p):p.toList.Perm (AX n):=by
 refine SB.Gi ?_ (λx hx=>?_) (by rw[B6,AZ,P.size];exact AI _)
 .refine B7.mpr λi j hi hj hU e=>?_
  have b7:i<n:=by rw[<- P.size];simpa using hi
  have b6:j<n:=by rw[<- P.size];simpa using hj
  have kU:i<p.size:=by simpa using hi
  have hj2:j<p.size:=by simpa using hj
  have:=P.inj i j b7 b6 (by simpa [g,Eg,kU,hj2] using e);exact wj hU this
 .obtain⟨i,hi,rfl⟩:=CS.mp hx
  have kU:i<p.size:=by simpa using hi
  have:=P.lt i (by rw[<- P.size];exact kU);refine AU.mpr ?_;simpa [g,Eg,kU] using this
section
variable{es:Array (Int×Au)}{t:C7}
def Vl{Q:vO->AA->Prop}(hh:A.handled=u9)(ho:s.heap.get? S=u8 o)(ff:o.ExactSet)(hd:o.data=.set es ep t)(T:Tab t)(hl:es.size=t.place.size)(hp:t.plain=true)(dm:t.led=ledOf w)(f8:es.size<=301)
  (q:∀(h':Heap) (tk:Nat) (acc:vP),(∀b ob,s.heap.get? b=u8 ob->h'.get? b=u8 ob)->s.heap.objs.size<=h'.objs.size->acc.toList.map (λv=>v)=(ord w S ep es).toList.map (·.2)->Q acc.toList {s with heap:=h',toks:=tk}) :
  wpAny (AN prog w) A (Q1 (.ref S)) Q E s:=by
 unfold Q1;refine Ap (NA (D5 N0 ?_));rw[EC N1 _];refine Ap (C0 ?_);refine AC ⟨Iy JS _,D5 Pt ?_⟩;rw[EC JS _];have gD:(s.heap.push {cls:=.type "list",data:=.seq ([]:vO).toArray}).get? s.heap.objs.size=u8 {cls:=.type "list",data:=.seq #[] 0}:=AQ _ rfl;have ke:∀(h':Heap) (tk:Nat) (a9:vP) (c':Nat),(∀b ob,b≠s.heap.objs.size->(s.heap.push {cls:=.type "list",data:=.seq ([]:vO).toArray}).get? b=u8 ob->h'.get? b=u8 ob)->h'.get? s.heap.objs.size=u8 {cls:=.type "list",dict:=u9,data:=.seq a9 c',slots:=#[]} ->
   ItemsOf (λi v=>∃e,(ord w S ep es)[i]?=u8 e/\v=e.2) a9 es.size->wpAny (AN prog w) A (match A7 s.heap.objs.size with
   | A7 a=>do
    match (<- load a).data with
     | Data.seq xs _=>pure xs.toList
     | _=>unsupported "internal:collect"
   | _=>unsupported "internal:collect") Q E {s with heap:=h',toks:=tk}:=λh' tk a9 c' hk cK be=>by
  refine Ap (RF cK ?_);refine AC ?_;refine q h' tk a9 (λb ob e=>hk b ob (BF (Be e)) (AE _ e)) (D7 (Be cK)) ?_;rw[Y7];apply FF;intro i;rw[AV,B4,B4];by_cases c:i<es.size
  .have c1:i<a9.size:=by rw[be.1];exact c
   obtain⟨e,ge,ev⟩:=be.2 i _ (BC c1);rw[BC c1,ge,ev];rfl
  .rw[HC (by rw[be.1];exact vo c),HC (by rw[Ms];exact vo c)]
   rfl
 refine D9 (Wo (A:=A) (R:=λr s'=>∃h' tk a9 c',r=.ok (.ret (.ref s.heap.objs.size))/\s'={s with heap:=h',toks:=tk}/\(∀b ob,b≠s.heap.objs.size->(s.heap.push {cls:=.type "list",data:=.seq ([]:vO).toArray}).get? b=u8 ob->h'.get? b=u8 ob)/\h'.get? s.heap.objs.size=u8 {cls:=.type "list",dict:=u9,data:=.seq a9 c',slots:=#[]}/\ItemsOf (λi v=>∃e,(ord w S ep es)[i]?=u8 e/\v=e.2) a9 es.size)
  (s:={s with heap:=s.heap.push {cls:=.type "list",data:=.seq ([]:vO).toArray}}) hh (AE _ ho) ff hd T hl hp dm f8 s.heap.objs.size (.ref s.heap.objs.size) 0 gD λh' tk a9 c' hk cK be=>⟨h',tk,a9,c',ξ,ξ,hk,cK,be⟩) (λfin s' h=>?_) (λe s' h=>?_)
 .cases fin with
  | done f =>
   obtain⟨h',tk,a9,c',e,rfl,hk,cK,be⟩:=h;cases e;exact ke h' tk a9 c' hk cK be
  | again c'=>exact⟨h.1,EU h.2 λr uI hr=>by obtain⟨h',tk,a9,c',rfl,rfl,hk,cK,be⟩:=hr;exact ke h' tk a9 c' hk cK be⟩
 .obtain⟨_,_,_,_,e,_⟩:=h
  cases e
end
end SB
namespace SB
open PySem PySem.SetTable
section
set_option tactic.hygienic true in
theorem AAk{G:Array UQ->Array UQ->Prop}{P:Nat->Au->Prop}{St:Nat->AA->Prop}
  (W:WalksS prog w A.in1 I fp wr G n P St) (S:Addr) (hSf:S∉fp) (vals:Nat->vG×Addr) (hP:∀i v,P i v->v=.ref (vals i).2) (hn:∀ks:List (vG×Addr),(∀x∈ks,∃j,j<n/\x=vals j)->(ks.map (·.1)).Nodup->ks.length<=300) (uc:∀i,i<n->(vals i).2∉S::wr) (hu:A.in1.units<Cs)
  (hR:∀s' cr t' de,TS prog w s'.heap S cr t' de->Of vals n de->Moved (S::wr) G s s'->R (.ok (.ret .none)) s') :
  ∀(k i:Nat) (s₁:AA) (es:Array (Int×Au)) (t:C7) (ks:List (vG×Addr)),n-i=k->i<=n->St i s₁->TS prog w s₁.heap S es t ks->(∀j,j<n->IK prog w s₁.heap (vals j).1 (vals j).2)->Of vals i ks->Moved (S::wr) G s s₁ ->
   codeAny (AN prog w) A (.builtin "set.update.loop" ⟨[.ref S,.ref I],[]⟩) R s₁:=by
 have nSw:S∉wr:=λh=>hSf (W.sub _ h);have inS:∀b∈wr,b∈S::wr:=λb hb=>AJ _ hb;intro k
 induction k with
 | zero =>
  intro i s₁ es t ks hk hi dS X hK O mv;obtain rfl:i=n:=yr hi hk;refine D5 LN ?_;rw[EC HP _];show wpAny _ A.in1 (L9 (.ref I) >>= _) _ _ s₁;refine Ap (W.done s₁ _ _ dS λs₂ m2=>?_);show wpAny _ A.in1 (ret Db) _ _ s₂;exact AC (hR s₂ es t ks (ZG X λo e=>m2.heap S o nSw e) O (ZT W.gtrans mv (m2.mono inS)))
 | succ k ih =>
  intro i s₁ es t ks hk hi dS X hK O mv;have lt:i<n:=ym hk;refine D5 LN ?_;rw[EC HP _];show wpAny _ A.in1 (L9 (.ref I) >>= _) _ _ s₁;refine Ap (W.item i s₁ _ _ lt dS λv s₂ pv bE m2=>?_);obtain rfl:=hP i v pv;have X2:TS prog w s₂.heap S es t ks:=ZG X λo e=>m2.heap S o nSw e;have hK2:∀j,j<n->IK prog w s₂.heap (vals j).1 (vals j).2:=λj hj=>HD (hK j hj) λo e=>m2.heap _ o (λz=>uc j hj (inS _ z)) e;show wpAny _ A.in1 (Nl [A7 (vals i).2] (setAdd S (.ref (vals i).2)) >>= _) _ _ s₂;refine Ap (Dx (AGp X2 (λx hx=>?_) (hK2 i lt) hu (hn ks (λx hx=>let ⟨j,hj,e⟩:=O.sub x hx;⟨j,vw hj lt,e⟩) X2.nd) λb h' cr t' de sb X' ad=>?_))
  .obtain⟨j,hj,rfl⟩:=O.sub x hx
   exact hK2 j (vw hj lt)
  .refine AC ⟨Iy HP _,ih (i+1) _ cr t' de (yp hk) lt (W.frame _ s₂ _ _ bE (OT _ _) λb hb o e=>?_) X' (λj hj=>HD (hK2 j hj) λo e=>?_) (O.next ad) ?_⟩
   .rw[sb.2 b (λ(z:b=S)=>hSf (by rw[<- z];exact hb))]
    exact e
   .rw[sb.2 _ (λ(z:(vals j).2=S)=>uc j hj (by rw[z];exact AF))]
    exact e
   .refine ZT W.gtrans mv ((m2.mono inS).then_heap (OT _ _) λb o hb e=>?_)
    rw[sb.2 b (λ(z:b=S)=>hb (by rw[z];exact AF))];exact e
end
def AFu(hh:A.handled=u9)(hu:A.units+6<Cs)(hl:s.heap.IsList l items)(hv:∀(i:Nat) (v:Au),items[i]?=u8 v->v=A7 (vals i).2)
  (hK:∀j,j<items.size->IK prog w s.heap (vals j).1 (vals j).2) (f8:∀ks:List (vG×Addr),(∀x∈ks,∃j,j<items.size/\x=vals j)->(ks.map (·.1)).Nodup->ks.length<=300)
  (q:∀h' tk es t ks,TS prog w h' s.heap.objs.size es t ks->Of vals items.size ks->(∀b o,s.heap.get? b=u8 o->h'.get? b=u8 o)->Q (.ref s.heap.objs.size) {s with heap:=h',toks:=tk}) :
  wpAny (AN prog w) A (call (.type "set") [.ref l]) Q E s:=by
 obtain⟨c,tl,hmro⟩:=JE.mro;have made:=JE.made;have ssub:=JE.sub;have nt:=JE.notType;have cc:=JE.canCreate;have tc:=F.typeCall_set_1 (.ref l);refine OH (PY ?_);show wpAny _ _ (callAny (.type "set") _) _ _ _;refine AC ⟨NV _ ψ,D5 TU ?_⟩;rw[Tb (Rc "set" [.ref l] []) rfl]
 repeat (any_goals (first| assumption| wp_step))
 refine EU (AEW (.ref l) (E:=E) (Q₁:=λobj s₁=>∃led:Bool,led=ledOf w/\obj=.ref s.heap.objs.size/\s₁={s with heap:=s.heap.push {cls:=.type "set",dict:=u9,data:=.set #[] 0 (.fresh 0 0 led)}}) ⟨_,ξ,ξ,ξ⟩) λr s₁ hr=>?_;cases r with
 | error e=>exact hr
 | ok fl =>
  cases fl with
  | ret obj =>
   obtain⟨led,dm,rfl,rfl⟩:=hr;have gS:(s.heap.push {cls:=.type "set",dict:=u9,data:=.set #[] 0 (.fresh 0 0 led)}).get? s.heap.objs.size=u8 {cls:=.type "set",dict:=u9,data:=.set #[] 0 (.fresh 0 0 led)}:=AQ _ rfl;have tS:W6 {s with heap:=s.heap.push {cls:=.type "set",dict:=u9,data:=.set #[] 0 (.fresh 0 0 led)}} (.ref s.heap.objs.size) "set":=⟨_,gS,ξ⟩;have il:=JE.init.lookup;have ib:=JE.init.bind (.ref s.heap.objs.size)
   repeat (any_goals (first| assumption| wp_step))
   refine EU (K2 (R:=wants (λr s₂=>r=.none/\∃h' tk es t ks,s₂={s with heap:=h',toks:=tk}/\TS prog w h' s.heap.objs.size es t ks/\Of vals items.size ks/\(∀b o,s.heap.get? b=u8 o->h'.get? b=u8 o)) E) JE.init.plain F.entry_set_init (check_set_init_1 tS ?_)) λr₂ s₂ sq=>?_
   .obtain⟨⟨ocls,uV,odata,rS⟩,gm,gT,nl,sG⟩:=id hl
    simp only at gT sG;subst gT sG;have hol2:(s.heap.push {cls:=.type "set",dict:=u9,data:=.set #[] 0 (.fresh 0 0 led)}).get? l=u8 {cls:=.type "list",dict:=uV,data:=.seq items nl,slots:=rS}:=AE _ gm;have s1:=F.sub_list_set;have s2:=F.sub_list_frozenset;have s3:(CM "list" == CM "dict")=false:=by decide
    have g5:(s.heap.push {cls:=.type "set",dict:=u9,data:=.set #[] 0 (.fresh 0 0 led)}).IsList l items:=⟨_,hol2,ξ,nl,ξ⟩;unfold Builtin.«set.__init__» noKeywords WH;generalize hPI:QU=PI
    wp_walk
    subst hPI;refine Ha g5 ?_;refine Ap (NA ?_);have ll:l<s.heap.objs.size:=Be gm;have h3:A.in1.in1.in1.handled=u9:=by simp[hh]
    have nI:l≠(s.heap.push {cls:=.type "set",dict:=u9,data:=.set #[] 0 (.fresh 0 0 led)}).objs.size:=by
     rw[DL];exact BF (FH ll)
    have nS:s.heap.objs.size∉[(s.heap.push {cls:=.type "set",dict:=u9,data:=.set #[] 0 (.fresh 0 0 led)}).objs.size,l]:=by
     rw[DL];simp only[AY,B8,K1,or_false,not_or];exact⟨BF (ER _),X4 ll⟩
    have lows:∀j,j<items.size->(vals j).2<s.heap.objs.size:=λj hj=>by
     obtain⟨o,_,_,ho,_⟩:=hK j hj;exact Be ho
    have ku:∀(x:Obj) b o,s.heap.get? b=u8 o->((s.heap.push {cls:=.type "set",dict:=u9,data:=.set #[] 0 (.fresh 0 0 led)}).push x).get? b=u8 o:=λx b o e=>AE _ (AE _ e);refine AAk (s:=_) ((Z5 h3 _ l nI items).toS) s.heap.objs.size nS vals hv f8 (λj hj z=>?_) ?_ (λs' cr t' de X' O' mv=>?_) (items.size-0) 0 _ #[] (.fresh 0 0 led) [] δ (Bz _)
     ⟨⟨_,AQ _ rfl,ξ,ξ⟩,(g5.push _)⟩ (ACu dm (AE _ gS)) (λj hj=>HD (hK j hj) λo e=>ku _ _ _ e) ⟨λx hx=>(by cases hx),λj hj=>vF hj wa,AI _⟩ (Moved.refl λ_=>rfl)
    .have:=lows j hj
     rw[DL] at z;simp only[AY,B8,K1,or_false] at z;rcases z with z| z
     .exact vF z (BF this)
     .exact vF z (BF (FH this))
    .show A.units+1+1+1<Cs
     lia
    .obtain⟨h',g',d',tk',os'⟩:=s'
     have eg:g'=s.gens:=mv.gens;have ed:d'=s.drawn:=mv.drawn;have eo:os'=s.os:=mv.os;subst eg ed eo;show wpAny _ _ _ _ _ _;refine AC ?_;show wpAny _ _ (ret Db) _ _ _;refine AC ⟨ξ,h',tk',cr,t',de,ξ,X',O',λb o e=>?_⟩;have hb:=Be e;refine mv.heap b o ?_ (ku _ b o e);rw[DL];simp only[AY,B8,K1,or_false,not_or];exact⟨BF hb,BF (FH hb)⟩
   .cases r₂ with
    | error e=>exact sq
    | ok fl₂ =>
     cases fl₂ with
     | ret r =>
      obtain⟨rfl,h',tk,es,t,ks,rfl,X',O',kp⟩:=sq
      repeat (any_goals (first| assumption| wp_step))
      exact q _ _ _ _ _ X' O' kp
     | _=>exact sq.elim
  | _=>exact hr.elim
end SB
namespace L2
open PySem PySem.Spec PyProof.Rows
def ik_ofB(I:Inv X aI σ H s)(h:SqT X.K H b (ns.map V.int)):SB.IK X.prog X.w s.heap ns b:=by
 obtain⟨a5,r,⟨o,ho,hc,n,hd⟩,_⟩:=I.tuple h;exact⟨o,a5.toArray,n,ho,hc,hd,by simpa using VH r⟩
end L2
namespace SB
open PySem PySem.W PyProof.Rows
structure RowE(prog:AL)(w:AR)(h:Heap)(vs:vO)(ks:List (vG×Addr)):Prop where
 vals:vs=ks.map λx=>A7 x.2
 keys:∀x∈ks,IK prog w h x.1 x.2
 nd:(ks.map (·.1)).Nodup
def RowE.tot(R:RowE prog w h vs ks):Tot ks.length (ltK ks):=by
 have ne:∀i j,i<ks.length->j<ks.length->i≠j->(ks.getD i ([],0)).1≠(ks.getD j ([],0)).1:=λi j hi hj hU e=>by
  have r:=B7.mp R.nd;have g1:(ks.getD i ([],0)).1=(ks.map (·.1))[i]'(by simpa using hi):=by simp[AD,hi]
  have g2:(ks.getD j ([],0)).1=(ks.map (·.1))[j]'(by simpa using hj):=by simp[AD,hj]
  rw[g1,g2] at e;rcases Nat.lt_or_gt_of_ne hU with c| c
  .exact r i j _ _ c e
  .exact r j i _ _ c e.symm
 exact⟨λi j hi hj hU e=>Wc (ne i j hi hj hU) e,λi j _ _ e=>Jf e,λi j k _ _ _ e1 e2=>Xe e1 e2⟩
def ABx(h:ItemsAre (LO prog w) ns vs):F4 vs ns:=by
 induction h with
 | nil=>exact .nil
 | cons h1 _ ih =>
  obtain⟨t,rfl⟩:=G9 h1;exact .cons _ t ih
def Rr{x:vG}(hx:IK prog w s.heap x a):∃items:vP,RE s.heap a items/\F4 items.toList x:=by
 obtain⟨o,xs,n,g,c,d,i⟩:=hx;exact⟨xs,⟨o,g,c,n,d⟩,ABx i⟩
def MF(x y:Au):V4 U6 x y=oneLt' false x y:=rfl
def AHP{x y:vG}{c:Addr}{Q:vK}(hu:A.units<Cs)(hx:IK prog w s.heap x a)(hy:IK prog w s.heap y c)(q:Q (HT.lexLt x y) s):wpAny (AN prog w) A (V4 U6 (.ref a) (.ref c)) Q E s:=by
 obtain⟨i1,t1,j1⟩:=Rr hx;obtain⟨i2,t2,j2⟩:=Rr hy;rw[MF];exact kat_one _ _ (HT.YK t1 t2 j1 j2 hu q)
def AHf{x y:vG}{c:Addr}{Q:vK}(hu:A.units<Cs)(hx:IK prog w s.heap x a)(hy:IK prog w s.heap y c)(q:Q (HT.lexLt x y) s):wpAny (AN prog w) A (V4 oneType' (.ref a) (.ref c)) Q E s:=by
 obtain⟨i1,t1,j1⟩:=Rr hx;obtain⟨i2,t2,j2⟩:=Rr hy;obtain⟨⟨cls,dd,data,sl⟩,ho,hc,n,hd⟩:=id t1;obtain⟨⟨nc,i7,XW,jI⟩,gv,io,n2,dL⟩:=id t2;simp only at hc hd io dL;subst hc hd io dL;rw[WG,oneLt'_eq];refine Ap (wpAny_cRoomFor hu ?_);refine Ap (wpAny_callSpecialIfBound?_slot (T:="tuple") ⟨_,ho,ξ⟩ MB ?_);exact MS MB ⟨_,ho,ξ⟩ Qr (Po _ _) (HT.Hr a c i1 i2 n n2 dd i7 sl jI x y j1 j2) ⟨ho,gv,FE q⟩
theorem Qf:∀(ks:List (vG×Addr)) {Q:List vS->AA->Prop},(∀x∈ks,IK prog w s.heap x.1 x.2)->(∀fs:List vS,fs.map (·.isSome)=ks.map (λx=>!x.1.isEmpty)->Q fs s)->wpAny (AN prog w) A ((ks.map λx=>A7 x.2).mapM firstOfTuple') Q E s
 | [],_,_,h=>by rw[LJ,List.mapM_nil];exact AC (h [] rfl)
 | x::ks,Q,hk,h=>by
  obtain⟨o,xs,n,ho,hc,hd,hi⟩:=hk x AF;rw[BO,List.mapM_cons];refine Ap ?_;rw[kas_first_eq];refine Ap (Z6 ((Y8 ho).andThen .now) ?_);rw[hc,vA (by first| decide| simp)];refine Ap (O6 ho hd (AC ?_));refine Ap (Qf ks (Q:=λbs s'=>wpAny (AN prog w) A (pure (xs[0]?::bs)) Q E s') (λy hy=>hk y (AJ _ hy)) λfs sV=>AC (h _ ?_));rw[BO,BO,sV]
  congr 1
  have l:=hi.length;rw[AZ] at l;by_cases e:x.1=[]
  .rw[e] at l ⊢
   rw[HC (by simp at l;exact wg l)];rfl
  .have:0<xs.size:=by
    have:=Nc.mpr e;exact wP this l
   rw[BC this];cases hx:x.1 with
   | nil=>exact vF hx e
   | cons a b=>rfl
def AFJ{Q:EM->AA->Prop}(hk:∀x∈ks,IK prog w s.heap x.1 x.2)(he:∃x∈ks,x.1=[])(q1:Q U6 s)(q2:Q oneType' s):wpAny (AN prog w) A (keyKind' (ks.map λx=>A7 x.2).toArray) Q E s:=by
 rw[kat_kind_eq,T6,map_eq_pure_bind];refine Ap (Ap (Qf ks hk λfs sV=>AC ?_));have ck:¬ ((fs.toArray.all λx=>x.isSome)=true):=λh=>by
  obtain⟨x,hx,ex⟩:=he;obtain⟨i,hi,gx⟩:=List.getElem_of_mem hx;have l:fs.length=ks.length:=by simpa using congrArg Fu sV
  have z:(fs.map (·.isSome))[i]?=(ks.map (λx=>!x.1.isEmpty))[i]?:=by rw[sV]
  have kU:i<fs.length:=dl hi l;rw[AV,AV,AK hi,AK kU,gx] at z;have z':fs[i].isSome=false:=by simpa [ex] using z
  have:=E8.mp (by simpa using h) fs[i] (Fa kU);rw[z'] at this;exact vF this ζ
 rw[vA ck];refine wpAny_ite ?_;split
 .exact AC q1
 .rw[oneTypeOnly'_eq,T6,map_eq_pure_bind]
  refine Ap (Ap (Ap (kas_mapM (r:=CM "tuple") _ (λv hv Q' hq=>?_) (AC ?_))))
  .obtain⟨x,hx,rfl⟩:=A1.mp hv
   obtain⟨o,xs,n,ho,hc,hd,hi⟩:=hk x hx;refine Z6 ((Y8 ho).andThen .now) ?_;rw[hc];exact hq
  .have tL:∀T:Au,(T==T)=true->((List.map (λ_=>T) (ks.map λx=>A7 x.2)).toArray.all λx=>x==T)=true:=λT hT=>by
    simp only[List.all_toArray,Y9,E8];intro _ _;exact hT
   have h0:(List.map (λ_=>CM "tuple") (ks.map λx=>A7 x.2)).toArray[0]?=u8 (CM "tuple"):=by
    obtain⟨x,hx,_⟩:=he;cases ks with
    | nil=>cases hx
    | cons a b=>simp
   rw[h0];simp only[tL (CM "tuple") ζ,if_true];exact AC (AC q2)
def KOk(prog:AL)(w:AR)(κ:EM):Prop:=∀(A:BM) (E:vJ) (s:AA) (x y:vG) (a c:Addr) (Q:vK),A.units<Cs->IK prog w s.heap x a->IK prog w s.heap y c->Q (HT.lexLt x y) s ->
 wpAny (AN prog w) A (V4 κ (.ref a) (.ref c)) Q E s
def kind_any{Q:EM->AA->Prop}(R:RowE prog w s.heap vs ks)(h2:2<=ks.length)(q:∀κ,KOk prog w κ->Q κ s):wpAny (AN prog w) A (keyKind' vs.toArray) Q E s:=by
 by_cases c:∃x∈ks,x.1=[]
 .rw[R.vals]
  exact AFJ R.keys c (q _ λA E s x y a c Q hu hx hy h=>AHP hu hx hy h) (q _ λA E s x y a c Q hu hx hy h=>AHf hu hx hy h)
 .have R':Row prog w s.heap vs ks:=⟨R.vals,R.keys,λx hx e=>c ⟨x,hx,e⟩,R.nd⟩
  obtain⟨fs,kt,lf,sV⟩:=R'.tups;have lk:ks.length=vs.length:=by rw[R.vals,AB]
  exact kat_kind (T:=.type "int") kt δ (λv hv=>by obtain⟨n,t,rfl⟩:=sV v hv;exact W9 rfl) ζ (q _ λA E s x y a c Q hu hx hy h=>AGv hx hy h)
def Pk(R:RowE prog w h vs ks)(e:∀x∈ks,∀o,h.get? x.2=u8 o->h'.get? x.2=u8 o):RowE prog w h' vs ks:=⟨R.vals,λx hx=>HD (R.keys x hx) λo=>e x hx o,R.nd⟩
def RowE.key(R:RowE prog w h vs ks)(hi:i<ks.length):IK prog w h (ks.getD i ([],0)).1 (ks.getD i ([],0)).2:=by
 have e:ks.getD i ([],0)=ks[i]:=by simp[AD,hi]
 rw[e];exact R.keys _ (Fa hi)
def RowE.rk(R:RowE prog w h vs ks)(hi:i<ks.length):rkK ks (itK ks i)=cntK ks (ks.getD i ([],0)).1:=by
 have ex:∃j,j<ks.length/\(itK ks i).1=A7 (ks.getD j ([],0)).2:=⟨i,hi,ξ⟩;unfold rkK;rw[dif_pos ex];obtain⟨hj,ej⟩:=F5 ex;have ea:(ks.getD i ([],0)).2=(ks.getD (Ff ex) ([],0)).2:=by
  have:A7 (ks.getD i ([],0)).2=A7 (ks.getD (Ff ex) ([],0)).2:=ej;injection this
 have k1:=R.key hi;have k2:=R.key hj;rw[<- ea] at k2;rw[AIJ k1 k2]
def RowE.rk_lt(R:RowE prog w h vs ks)(hi:i<ks.length)(hj:j<ks.length):decide (rkK ks (itK ks i)<rkK ks (itK ks j))=ltK ks i j:=by
 rw[R.rk hi,R.rk hj];have mk:∀{i:Nat},i<ks.length->(ks.getD i ([],0)).1∈ks.map (·.1):=λ{i} hi=>Hd (by
  have e:ks.getD i ([],0)=ks[i]:=by simp[AD,hi]
  rw[e];exact Fa hi)
 unfold ltK;cases c:HT.lexLt (ks.getD i ([],0)).1 (ks.getD j ([],0)).1 with
 | true=>exact vC (Ti (mk hi) c)
 | false =>
  refine vD ?_;by_cases e:(ks.getD i ([],0)).1=(ks.getD j ([],0)).1
  .rw[e];exact Su _
  .have:=Ti (ks:=ks) (mk hj) (Wc e c)
   exact xU this
def AAL(hκ:KOk prog w κ)(hu:A.units<Cs)(R:RowE prog w s.heap vs ks) :
  wpAny (AN prog w) A (sortRuns'.run (J9 κ (vs.toArray.zip vs.toArray) #[] 7 u9)) (λr s'=>s'=s/\∃p:Array Nat,PP ks.length p/\Up (ltK ks) p ks.length/\AW r.2=p.map (Zl (vs.toArray.zip vs.toArray))/\G5 r.2=u9) E s:=by
 have lk:ks.length=vs.length:=by rw[R.vals,AB]
 have T:=R.tot;have gi:∀i,i<ks.length->Zl (vs.toArray.zip vs.toArray) i=itK ks i:=λi hi=>by
  rw[kat_item rfl];unfold itK;rw[R.vals];simp[AD,hi]
 have e0:(vs.toArray.zip vs.toArray).toList=(AX ks.length).map (itK ks):=by
  have:=congrArg SS (kas_range (vs.toArray.zip vs.toArray));rw[<- this,Pd,show(vs.toArray.zip vs.toArray).size=ks.length by rw[lk];simp];exact FM λi hi=>gi i (AU.mp hi)
 have C:TM.Cmp prog w A E s κ (λx=>∃i,i<ks.length/\x=itK ks i) (rkK ks):=by
  rintro x y ⟨i,hi,ex⟩ ⟨j,hj,ey⟩ st Q kd q;subst ex ey;rw[lt'_eq];refine AS (KL ?_);rw[kd];refine AS (NH (N8 (hκ _ _ _ _ _ _ _ _ hu (R.key hi) (R.key hj) ⟨ξ,?_⟩)));rw[R.rk_lt hi hj] at q;exact A8 q
 have al:TM.Al (λx=>∃i,i<ks.length/\x=itK ks i) (vs.toArray.zip vs.toArray):=λi x e=>by
  rw[<- B4,e0,AV] at e;cases g:(AX ks.length)[i]? with
  | none=>rw[g] at e;cases e
  | some k =>
   rw[g] at e;have hk:=AU.mp (By g);exact⟨k,hk,(AM e).symm⟩
 have di:TM.Di (rkK ks) (vs.toArray.zip vs.toArray):=by
  unfold TM.Di;rw[e0,ED];unfold J6;rw[Cb];refine D8 (λ{i j} hi hj ij e=>?_) Jn;have b7:=AU.mp hi;have b6:=AU.mp hj;have e':rkK ks (itK ks i)=rkK ks (itK ks j):=e;have z1:=R.rk_lt b7 b6;have z2:=R.rk_lt b6 b7;rw[e',vD (Su _)] at z1;rw[e',vD (Su _)] at z2;have:=T.or i j b7 b6 ij z1.symm;rw[<- z2] at this;cases this
 have W:=TM.Ob C (st:=J9 κ (vs.toArray.zip vs.toArray) #[] 7 u9) (a₀:=vs.toArray.zip vs.toArray) ⟨V1 _,ξ,ξ,al,di⟩ rfl
  (Q:=λ_ a6=>∃p:Array Nat,PP ks.length p/\Up (ltK ks) p ks.length/\AW a6=p.map (Zl (vs.toArray.zip vs.toArray))/\G5 a6=u9) λa6 B up=>by
  have pm:=IA.mp B.perm;rw[e0] at pm;obtain⟨l,pl,el⟩:=perm_back pm (AX ks.length) rfl;have ll:l.length=ks.length:=by rw[pl.length_eq,B6]
  have lt:∀{k:Nat},k<ks.length->g l.toArray k<ks.length/\l[k]?=u8 (g l.toArray k):=λ{k} hk=>by
   have bp:k<l.length:=dl hk ll;have e:g l.toArray k=l[k]:=by unfold g;simp[Eg,bp]
   rw[e];exact⟨AU.mp (pl.mem_iff.mp (Fa bp)),AK bp⟩
  have nd:=pl.nodup_iff.mpr Jn;have at_:∀{k:Nat},k<ks.length->TM.N (rkK ks) (AW a6) k=rkK ks (itK ks (g l.toArray k)):=λ{k} hk=>by
   unfold TM.N;rw[<- B4,el,AV,(lt hk).2];rfl
  have sz:(vs.toArray.zip vs.toArray).size=ks.length:=by rw[lk];simp
  refine⟨l.toArray,⟨by simpa using ll,λk hk=>(lt hk).1,λk k' hk bp e=>?_⟩,λx y xy hy=>?_,?_,B.failed⟩
  .have a1:=(lt hk).2
   have a2:=(lt bp).2;rw[<- e] at a2;exact(L5 (dl hk ll) nd).mp (a1.trans a2.symm)
  .have hx:x<ks.length:=vw xy hy
   have u:=up x y (Bz _) (w6 xy) (by rw[sz];exact hy);rw[at_ hx,at_ hy] at u;cases c:ltK ks (g l.toArray x) (g l.toArray y) with
   | true=>rfl
   | false =>
    have ne:g l.toArray x≠g l.toArray y:=λe=>by
     have a1:=(lt hx).2;have a2:=(lt hy).2;rw[<- e] at a2;have:=(L5 (dl hx ll) nd).mp (a1.trans a2.symm);exact wj xy this
    have z:=T.or _ _ (lt hx).1 (lt hy).1 ne c;rw[<- R.rk_lt (lt hy).1 (lt hx).1] at z;have:=vE z;lia
  .apply U7.mp
   rw[el,Pd];refine FM λi hi=>(gi i ?_).symm;exact AU.mp (pl.mem_iff.mp (by simpa using hi))
 exact D9 W (λr s' h=>h) λ_ _ e=>e
def OD{P:PySem.Fin->AA->Prop}(ho:s.heap.get? a=u8 (DH "list" vs.toArray n))(R:RowE prog w s.heap vs ks)(hz:vs.length<=100000)(hu:A.units<Cs)
  (h:∀p:Array Nat,PP ks.length p->Up (ltK ks) p ks.length->P (.done (.ret .none)) {s with heap:=sortedHeap s.heap a vs (KI (p.toList.map λi=>vs.getD i Db))}) :
  wpAny (AN prog w) A (Builtin.«list.sort» ⟨[.ref a],[]⟩) P E s:=by
 have la:=Be ho;have lk:ks.length=vs.length:=by rw[R.vals,AB]
 rw[list_sort_plain];refine Ap (O6 ho rfl ?_);refine Ap (N7 ho rfl ?_);obtain⟨e1,ho1⟩:∃e1,(s.heap.update a (CO λ_=>#[])).get? a=u8 (DH "list" #[] e1):=⟨_,get?_update_seq ho (λ_=>#[])⟩;refine Ap (UK ho1 rfl ?_);refine Ap (wpAny_newTuple ?_);refine Ap (Mn ?_);refine Dx ?_;have hoa:(((s.heap.update a (CO λ_=>#[])).push (DH "tuple" vs.toArray 0)).push (DH "list" #[] 0)).get? a=u8 (DH "list" #[] e1):=AE _ (AE _ ho1);dsimp only;have vz:vs.toArray.size=vs.length:=by simp
 by_cases h2:vs.toArray.size<2
 .rw[vB h2,vB h2]
  refine Ap (AC ?_);rw[StateT.run_pure];refine Ap (AC ?_);have out:((vs.toArray.zip vs.toArray).map (·.2))=KI ((KI (AX ks.length)).toList.map λi=>vs.getD i Db):=by
   apply U7.mp;rw[Pd,Array.toList_zip,List.map_snd_zip θ,lk];apply FF;intro i;by_cases c:i<vs.length
   .simp[c]
   .simp[c]
  refine Ap (UK hoa rfl ?_);refine Ap (N7 hoa rfl ?_ (hsz2:=by rw[Array.size_map,Array.size_zip,vz,EW];lia));simp only[bne_self_eq_false,BY,if_false];refine AC ?_;rw[show(AW (J9 U6 (vs.toArray.zip vs.toArray) #[] 7 u9)).map (·.2)=_ from out];exact h _ (ACV _) λx y hxy hy=>vF hxy δ
 .rw[vA h2,vA h2]
  have R1:RowE prog w (((s.heap.update a (CO λ_=>#[])).push (DH "tuple" vs.toArray 0)).push (DH "list" #[] 0)) vs ks:=Pk R λx hx o gx=>by
   have ne:x.2≠a:=λe=>by
    obtain⟨o',_,_,go',co',_⟩:=R.keys x hx;rw[e,ho] at go';cases go';have z:CM "list" = CM "tuple":=co';exact vF z ζ
   exact AE _ (AE _ ((D4 _ _ (BU ne)).trans gx))
  refine Ap (kind_any (s:={s with heap:=((s.heap.update a (CO λ_=>#[])).push (DH "tuple" vs.toArray 0)).push (DH "list" #[] 0)}) R1 δ λκ hκ=>?_);refine Ap (D9 (AAL hκ hu (s:={s with heap:=((s.heap.update a (CO λ_=>#[])).push (DH "tuple" vs.toArray 0)).push (DH "list" #[] 0)}) R1) ?_ λ_ _ e=>e)
  .rintro⟨⟨⟩,a6⟩ s' ⟨rfl,p,P1,P2,har,hf⟩
   have hout:=kat_snds (ks:=vs) (vs:=vs) rfl har;rw[hout];refine Ap (UK hoa rfl ?_);refine Ap (N7 hoa rfl ?_ (hsz2:=by rw[AO,AB,AZ,P1.size,EW];lia));rw[hf];simp only[bne_self_eq_false,BY,if_false];exact AC (h p P1 P2)
section
variable{es:Array (Int×Au)}{t:C7}
def Vt(hu:A.units+2<Cs)(hh:A.handled=u9)(X:TS prog w s.heap S es t ks)(hK:∀x∈ks,IK prog w s.heap x.1 x.2)(f8:ks.length<=301)
  (q:∀(h':Heap) (tk:Nat) (D:Addr) (ko:List (vG×Addr)) (e:Nat),(∀b ob,s.heap.get? b=u8 ob->h'.get? b=u8 ob)->s.heap.objs.size<=D->h'.get? D=u8 (DH "list" (ko.map λx=>A7 x.2).toArray e)->ko.Perm ks->(ko.map (·.1)).Pairwise (λa b=>HT.lexLt a b=true)->Q (.ref D) {s with heap:=h',toks:=tk}) :
  wpAny (AN prog w) A (call (.builtin "sorted") [.ref S]) Q E s:=by
 obtain⟨o,ep,ho,ff,hd⟩:=X.obj;have lks:ks.length=es.size:=by
  have:=congrArg Fu X.els;rw[AB,AZ] at this;exact this.symm
 refine IJ UH S3 S4 (S5 _) ?_;unfold O7;refine Ap (m:=VS "sorted" 1 1 _) (AC ?_);refine Ap (Vl (A:=A.in1) (by simp[hh]) ho ff hd X.tab X.len X.pl X.ld (v5 lks f8) λh1 tk1 acc kp hsz be=>?_);have op:=Ut w S ep es;rw[X.els] at op;obtain⟨k1,p1,e1⟩:=perm_back op ks rfl;rw[e1,Y7,ED] at be;have hvs:=be;generalize hv:acc.toList=vs at hvs;have lvs:vs.length=ks.length:=by rw[hvs,AB,p1.length_eq]
 refine Ap (Mn ?_ (by rw[EW];lia));have i8:(h1.push (DH "list" vs.toArray 0)).get? h1.objs.size=u8 (DH "list" vs.toArray 0):=AQ _ rfl;have rM:∀b ob,s.heap.get? b=u8 ob->(h1.push (DH "list" vs.toArray 0)).get? b=u8 ob:=λb ob e=>AE _ (kp b ob e);have R:RowE prog w (h1.push (DH "list" vs.toArray 0)) vs k1:=⟨hvs,λx hx=>HD (hK x (p1.mem_iff.mp hx)) λob e=>rM _ ob e,(JO (p1.map (·.1))).mpr X.nd⟩;refine Ap (Dx (DM Q2 ⟨_,i8,ξ⟩ PU (OD (s:={s with heap:=h1.push (DH "list" vs.toArray 0),toks:=tk1}) i8 R δ (xg hu) λp P1 P2=>⟨_,ξ,?_⟩) (Q3 _)));refine AC ⟨_,ξ,?_⟩;obtain⟨e,he⟩:=sortedHeap_at (out:=KI (p.toList.map λi=>vs.getD i Db)) i8;have lk1:=p1.length_eq;have eo:(p.toList.map λi=>vs.getD i Db)=(p.toList.map λi=>k1.getD i ([],0)).map λx=>A7 x.2:=by
  rw[ED];refine FM λi hi=>?_;have b7:=AU.mp ((HX P1).mem_iff.mp hi);rw[hvs];simp[AD,b7]
 rw[eo] at he ⊢;have pk:(p.toList.map λi=>k1.getD i ([],0)).Perm k1:=by
  have z:=SB.HJ (l:=k1) (HX P1);rw[SB.Gb ([],0) λi hi=>AU.mp ((HX P1).mem_iff.mp hi)] at z;exact z
 refine q _ tk1 h1.objs.size _ e (λb ob eb=>?_) hsz he (pk.trans p1) ?_
 .have hb:=Be (kp b ob eb)
  rw[WI (BF hb) (by rw[DL];exact FH hb)];exact rM b ob eb
 .rw[ED]
  refine B7.mpr λi j hi hj hU=>?_;have b7:i<p.size:=by simpa using hi
  have b6:j<p.size:=by simpa using hj
  have z:=P2 i j hU (by rw[<- P1.size];exact b6);unfold ltK g at z;simpa [Eg,b7,b6] using z
end
end SB
namespace L2
open PySem PySem.Spec PyProof.Rows
def AAu(K:As)(te:TE):TE:=λσ H Q=>te σ H λv H1=>∃a xs rs,v=.ref a/\SqL K H1 a xs/\A9 (rPair K H1) rs xs/\(∀ms:vH,ms.Nodup->(∀m∈ms,m∈rs)->ms.length<=300) /\
 ∀l ys ms,H1 l=none->ms.Pairwise (λa b=>HT.lexLt a b=true)->(∀r,r∈ms↔r∈rs)->A9 (rPair K H1) ms ys->A9 (λm y=>∃i:Nat,rs[i]?=u8 m/\xs[i]?=u8 y) ms ys->Q (.ref l) (upd H1 l (.lst ys))
def Jz(hc:X.calm=true)(hu:X.A.units+7<Cs)(hg:Gl X "sorted")(hm:X.mg "sorted" = u9)(l6:Gl X "set")(hm2:X.mg "set" = u9)(he:PE X e te)
  (hv:HI "sorted" = u8 (.builtin "sorted"):=by exact Fh) (hv2:autoParam (HI "set" = u8 (.type "set")) zA3._auto_1)
  (s1:autoParam (B3 [e] X.env=(false,eval e X.env)::B3 [] X.env) zA0._auto_1)
  (s2:autoParam (B3 [.Call (.Name "set" p2) [e] [] eI] X.env=(false,eval (.Call (.Name "set" p2) [e] [] eI) X.env)::B3 [] X.env) zA0._auto_1) :
  PE X (.Call (.Name "sorted" p1) [.Call (.Name "set" p2) [e] [] eI] [] pos) (AAu X.K te):=by
 intro aI s σ H Q I h;refine EB (El I hg hm hv ?_ ζ ζ);refine MR ?_ s2 rfl;rw[s2];refine F3 ?_;refine EB (El I l6 hm2 hv2 ?_ ζ ζ);refine DT ?_ s1 rfl;rw[s1];refine F3 (thn (he aI s σ H _ I h) λu s1 hq=>?_);obtain⟨x,H1,I1,r1,q1⟩:=hq;refine IB ?_;obtain⟨a,xs,rs,rfl,ha,pr,f8,q⟩:=q1;cases r1;obtain⟨a5,r,pl,_⟩:=I1.list ha;have lx:=r.length;have lr:=AT pr;have hl:=pl.isList;have at_:∀i:Nat,i<a5.length->∃b ns,a5[i]?=u8 (.ref b)/\xs[i]?=u8 (.ref b)/\rs[i]?=u8 ns/\rPair X.K H1 ns (.ref b):=λi hi=>by
  have hx:i<xs.length:=dl hi lx;obtain⟨ns,g6,rp⟩:=Paired.get pr (AK hx);obtain⟨b,eb,hb⟩:=Bq rp;obtain⟨u,fi,ru⟩:=r.get (AK hx);rw[eb] at ru rp;cases ru;exact⟨b,ns,fi,by rw[AK hx,eb],g6,rp⟩
 have pick:∃vals:Nat->vG×Addr,∀i:Nat,i<a5.length->a5[i]?=u8 (.ref (vals i).2)/\rs[i]?=u8 (vals i).1/\rPair X.K H1 (vals i).1 (.ref (vals i).2)/\xs[i]?=u8 (.ref (vals i).2):=by
  refine⟨λi=>if h:i<a5.length then(Ff (F5 (at_ i h)),Ff (at_ i h)) else([],0),λi hi=>?_⟩;have z:=F5 (F5 (at_ i hi));dsimp only;rw[dif_pos hi];exact⟨z.1,z.2.2.1,z.2.2.2,z.2.1⟩
 obtain⟨vals,db⟩:=pick;have hsz:a5.toArray.size=a5.length:=by simp
 have few:∀ks:List (vG×Addr),(∀x∈ks,∃j,j<a5.length/\x=vals j)->(ks.map (·.1)).Nodup->ks.length<=300:=λks hs hn=>by
  have:=f8 (ks.map (·.1)) hn λm hm=>by
   obtain⟨x,hx,rfl⟩:=A1.mp hm;obtain⟨j,hj,rfl⟩:=hs x hx;exact By (db j hj).2.1
  rwa [AB] at this
 refine SB.AFu (items:=a5.toArray) (vals:=vals) (I1.ok.hd hc) δ hl (λi v hv=>?_) (λj hj=>?_) (by rw[hsz];exact few) λh' tk es t ks T O kp=>?_
 .have hi:i<a5.length:=by
   have:=(CL.mp hv).1;rw[hsz] at this;exact this
  have z:=(db i hi).1;have ny:a5[i]?=u8 v:=by simpa using hv
  rw[ny] at z;exact AM z
 .rw[hsz] at hj
  obtain⟨b,eb,hb⟩:=Bq (db j hj).2.2.1;cases eb;exact ik_ofB I1 hb
 refine IB ?_;rw[hsz] at O;have hK:∀x∈ks,SB.IK X.prog X.w h' x.1 x.2:=λx hx=>by
  obtain⟨j,hj,rfl⟩:=O.sub x hx;obtain⟨b,eb,hb⟩:=Bq (db j hj).2.2.1;cases eb;exact SB.HD (ik_ofB I1 hb) λo e=>kp _ o e
 have inrs:∀j,j<a5.length->(vals j).1∈rs:=λj hj=>By (db j hj).2.1;have hSz:s1.heap.objs.size<=h'.objs.size:=by
  obtain⟨o,_,ho,_⟩:=T.obj;exact D7 (Be ho)
 refine SB.Vt (s:={s1 with heap:=h',toks:=tk}) δ (I1.ok.hd hc) T hK (OF (few ks O.sub T.nd)) λh2 tk2 D ko e rM hD he pk so=>?_;have hD':=BQ hSz hD;have hn:=I1.hok.fresh hD';have lko:ko.length<=301:=by rw[pk.length_eq];exact OF (few ks O.sub T.nd)
 have kov:∀x∈ko,∃j,j<a5.length/\x=vals j:=λx hx=>O.sub x (pk.mem_iff.mp hx);have vl:∀l:List (vG×Addr),Vals (l.map λx=>V.ref x.2) (l.map λx=>A7 x.2):=λl=>by
  induction l with
  | nil=>exact .nil
  | cons x r ih=>exact .cons rfl ih
 have pv:∀l:List (vG×Addr),(∀x∈l,∃j,j<a5.length/\x=vals j)->A9 (rPair X.K H1) (l.map (·.1)) (l.map λx=>V.ref x.2):=λl=>by
  induction l with
  | nil=>exact λ_=>.nil
  | cons x r ih =>
   intro hh;obtain⟨j,hj,rfl⟩:=hh x AF;exact .cons (db j hj).2.2.1 (ih λy hy=>hh y (AJ _ hy))
 have pw:∀l:List (vG×Addr),(∀x∈l,∃j,j<a5.length/\x=vals j)->A9 (λm y=>∃i:Nat,rs[i]?=u8 m/\xs[i]?=u8 y) (l.map (·.1)) (l.map λx=>V.ref x.2):=λl=>by
  induction l with
  | nil=>exact λ_=>.nil
  | cons x r ih =>
   intro hh;obtain⟨j,hj,rfl⟩:=hh x AF;exact .cons ⟨j,(db j hj).2.1,(db j hj).2.2.2⟩ (ih λy hy=>hh y (AJ _ hy))
 refine⟨.ref D,_,I1.laid (o:=.lst (ko.map λx=>V.ref x.2)) (a:=D) (t':=tk2) (λb o eb=>rM b o (kp b o eb)) hD' ⟨?_,ko.map (λx=>A7 x.2),e,vl ko,he⟩,ξ,q D _ (ko.map (·.1)) hn so (λrr=>?_) (pv ko kov) (pw ko kov)⟩
 .rw[AB]
  exact small δ
 .constructor
  .intro hr
   obtain⟨x,hx,rfl⟩:=A1.mp hr;obtain⟨j,hj,rfl⟩:=kov x hx;exact inrs j hj
  .intro hr
   obtain⟨j,hj⟩:=DD.mp hr;have hjl:j<a5.length:=by
    have:=(AG.mp hj).1;lia
   have z:=(db j hjl).2.1;rw[hj] at z;cases z;exact(pk.map (·.1)).mem_iff.mpr (O.sup j hjl)
end L2
namespace K34s
open PySem L2 G
def Kv(K:As)(C:Addr):Sp:=λvs H Q _=>∃(l:Addr) (n top:Nat) (aE:List Row),vs=[.int n,.ref l,.int top]/\RowsAt K H l aE/\Ok n aE/\n<=12/\aE.length<=4100/\FewB aE top/\Knot aE top /\
 ∀(p:Addr) (aS:List Row) (hd:Nat) (H':Hp),Same H H'->SvAt K C H' p n aS hd->Canon n aS hd->(∀s,led aS hd s=led aE top s)->(aS.length<=4000/\aS.length<=aE.length/\∀t,(aS.filter λr=>decide (r.1=t)).length<=300)->Q (.ref p) H'
noncomputable def pl01:List (Key×V):=mergeK [] [(F0 (0:Int),V.int 0),(F0 (1:Int),V.int 1)]
def ADb:PlD pl01 λk=>if k=0 then u8 0 else if k=1 then u8 1 else u9:=by
 intro k;show valV (putK (putK ([]:List (Key×V)) (F0 (0:Int)) (V.int 0)) (F0 (1:Int)) (V.int 1)) (F0 (k:Int))=_;rw[Em,Em];by_cases k1:k=1
 .subst k1;rfl
 by_cases k0:k=0
 .subst k0;rfl
 rw[vA (λz=>k1 (by injection z with z;lia)),vA (λz=>k0 (by injection z with z;exact yT z))];dsimp only;rw[vA k0,vA k1];rfl
def AHe:pl01.length<=2+4100*0:=by
 show(putK (putK ([]:List (Key×V)) (F0 (0:Int)) (V.int 0)) (F0 (1:Int)) (V.int 1)).length<=2+4100*0;exact BQ (Cd _ _ _) (UZ (Cd _ _ _))
def LayR(aE:List Row)(pl:Nat->vT)(H:Hp)(k:Nat)(v:V):Prop:=∃q b,v=.ref q/\H q=u8 (.tup [.int k,.ref b])/\H b=u8 (.tup (r3 (rowIn aE pl k)))
def LayR.keeps{aE:List Row}{k:Nat}(e:∀a xs,H a=u8 (.tup xs)->H' a=u8 (.tup xs))(h:LayR aE pl H k v):LayR aE pl H' k v :=
 by obtain⟨q,b,h1,h2,h3⟩:=h;exact⟨q,b,h1,e _ _ h2,e _ _ h3⟩
def RowR(H:Hp)(r:Row)(v:V):Prop:=∃b,v=.ref b/\H b=u8 (.tup (r3 r))
def RowR.keeps{r:Row}(e:∀a xs,H a=u8 (.tup xs)->H' a=u8 (.tup xs))(h:RowR H r v):RowR H' r v :=
 by obtain⟨b,h1,h2⟩:=h;exact⟨b,h1,e _ _ h2⟩
noncomputable def sel(aE:List Row)(pl:Nat->vT)(ly:vI)(j:Nat):List Row:=((ly.take j).map (rowIn aE pl)).filter λr=>decide (r.2.2≠0)
def UL{aE:List Row}{k:Nat}(h:ly[j]?=u8 k):sel aE pl ly (j+1)=sel aE pl ly j++if(rowIn aE pl k).2.2≠0 then [rowIn aE pl k] else []:=by
 unfold sel;rw[DA,h,BI,CI];by_cases c:(rowIn aE pl k).2.2≠0
 .simp[c]
 .simp[c]
def Ze(aE:List Row)(pl:Nat->vT)(ly:vI)(j:Nat):(sel aE pl ly j).length<=ly.length:=by
 unfold sel;refine BQ (CY _ _) ?_;rw[AB,BV];lia
def Ro{aE:List Row}{r:Row}:r∈sel aE pl ly ly.length↔∃k∈ly,r=rowIn aE pl k/\r.2.2≠0:=by
 unfold sel;rw[CD,BG,A1];constructor
 .rintro⟨⟨k,hk,rfl⟩,h⟩
  exact⟨k,hk,ξ,vE h⟩
 .rintro⟨k,hk,rfl,h⟩
  exact⟨⟨k,hk,ξ⟩,vC h⟩
noncomputable def placeOf(aE:List Row)(pl:Nat->vT)(aS:List Row)(k:Nat):Nat:=(numOf 2 aS (rowIn aE pl k)).getD (rowIn aE pl k).2.1
def Xv{γ:Type}{F:β->γ->Prop}{f:α->β}:∀{l:List α}{m:List γ},A9 (λa b=>F (f a) b) l m->A9 F (l.map f) m:=by
 intro l m h
 induction h with
 | nil=>exact .nil
 | cons h t ih=>exact .cons h ih
def AEf{aE new:List Row}{t:Nat}(h:(new.map r3i).Pairwise (λa b=>HT.lexLt a b=true))(hw:∀r,r∈new->∃k,k∈rc/\tieOf aE k=t/\r=rowIn aE pl k/\r.2.2≠0):new.Pairwise RowLt:=by
 have h2:new.Pairwise (λa b=>HT.lexLt (r3i a) (r3i b)=true):=Cb.mp h;have tie:∀r∈new,r.1=t:=λr hr=>by
  obtain⟨k,_,h,e,_⟩:=hw r hr;rw[e];exact h
 refine D8 (λ{a b} ha hb z=>?_) h2;have ea:=tie a ha;have eb:=tie b hb;obtain⟨a1,a2,a3⟩:=a;obtain⟨b1,b2,b3⟩:=b;dsimp only at ea eb;subst ea;subst eb;unfold r3i at z;dsimp only at z;rw[HT.CP,vB rfl,HT.CP] at z;refine .inr ⟨ξ,?_⟩;dsimp only;by_cases c:(a2:Int)=b2
 .rw[vB c,HT.CP] at z
  by_cases d:(a3:Int)=b3
  .rw[vB d] at z
   cases z
  .rw[vA d] at z
   have:=vE z;exact .inr ⟨vx c,wS this⟩
 .rw[vA c] at z
  have:=vE z;exact .inl (wS this)
def Ed:FnScope ["n","rows","top","reached","numbers","places","tie","layer","row","knot"] zl21 (Af Lj):=fscp ψ
def ACQ(F:Fun K "least_graph" "least_graph" Lj f fd)(T:Txt K mg C)(M:Mk K C fS)
  (GR:Cal P w K mg base 1 fR pE "reached_knots" zl20 (Zd K))
  (GI:Cal P w K mg base 1 fI k8 "row_in_places" zl2 (AIQ K))
  (GS:FnOk P w K mg base CX0 1 fS e8 zl1 (JW K C)) (bS:Binds K e8 zl1 []) :
  FnOk P w K mg base CX0 3 f fd zl21 (Kv K C):=by
 refine F.ok Ed (λbt A outer s H vs Q E hr h=>?_);obtain⟨l,n,top,aE,rfl,hL,ok,fF,r72,fw,kt,q⟩:=h;have bo:Room 1 _:=hr.mono ζ;refine⟨_,Ad (Ao (i:=3) Ed.nd (Ay GR bo rfl (Aa (pv 1) (Aa (pv 2) Ac))))
  (Ad (Ao (i:=4) Ed.nd ABX)
  (Ad (Ao (i:=5) Ed.nd (Yd (NQ Ae Ae (NQ Ae Ae Yu)) rfl rfl (by intro z;cases z) ζ))
  (Ad (Dj DJ rfl (Ou rfl T.range (Aa (Aw Ez (pv 0) Ae) (Aa (ZJ Qm Ae) (Aa (ZJ Qm Ae) Ac)))) (Bg (i:=6) Ed.nd)
   (Ad (Yj (i:=7) (Af Lj) ["knot"] ["places","rows","tie"] [5,1,6] Ed.nd rfl (MM rfl) rfl rfl ψ ⟨⟨ξ,ψ⟩,⟨ξ,ψ⟩,⟨ξ,ψ⟩,trivial⟩ (CT (pv 3))
    (λ_ _ _=>BL (i:=0))
    (λ_ _ _=>Cm (Aq EY (Ax (SM (K:=K) rfl) (Ax (SM (K:=K) rfl) (pv 2) (Aw Ez (pv 0) Ae)) Ae) (pv 3)))
    (λ_ _ _=>Bs (Aa (pv 0) (Aa (Ay GI bo rfl (Aa (pv 1) (Aa (Ax (SM (K:=K) rfl) (pv 2) (Aw Ez (pv 0) Ae)) Ac))) Ac))))
   (Ad (Dj DJ rfl (CT (Jz rfl (CK hr) rfl T.sorted rfl T.set
     (Bu (Af Lj) ["knot","row"] [] [] rfl rfl ψ trivial (CT (pv 7))
      (λ_ _ _=>Gv (K:=K) (n:=2) rfl rfl (Bt (BL (i:=0)) (Bt (BL (i:=1)) Er)))
      (λ_ _ _=>Cm (Aq AGW (Ax (TQ (K:=K) rfl) (pv 1) Ae) Ae))
      (λ_ _ _=>pv 1)))) (Bg (i:=8) Ed.nd)
    (Ah (Ku (CK hr) (pv 4) (pv 8) (Aw CQ (Az VJ rfl T.len CC (Aa (pv 4) Ac)) Ae) rfl)))
   (Ah (Dj DJ rfl (CT (pv 7)) (Gv (K:=K) (n:=2) rfl rfl (Bt (Bg (i:=9) Ed.nd) (Bt (Bg (i:=8) Ed.nd) Er)))
    (Ah (Ku (CK hr) (pv 5) (pv 9) (ACx (CK hr) (pv 4) (pv 8) (Ax Bc (pv 8) Ae) ⟨ξ,ξ,ξ,ξ⟩) rfl)))))))
  (Ah (Ar (Et M GS hr rfl T.mgC bS .nil pass0 (Aa (pv 0) (Aa (BP (RG rfl) rfl T.list EF (Aa (pv 4) Ac)) (Aa (RP (CK hr) (pv 5) (pv 2) (λ_ _=>rfl)) Ac))))))))),?_⟩
 refine⟨_,ξ,_,ξ,l,n,top,aE,ξ,hL,ok,r72,kt,λR rc H1 s1 nR eR cl tr rl0 par=>?_⟩;have rl:∀t j,(lay aE t rc j).length<=4100:=λt j=>BQ (rl0 t j) (BQ (CY ..) r72);refine λN hN=>?_;have nN:H N=u9:=s1.free hN;have s2:=s1.trans (vk hN (.dT []));refine λD hD=>⟨Ab,[(.inl (0:Int),.int 0),(.inl (1:Int),.int 1)],ξ,(by show 2<=15;decide),?_⟩;have nD:H D=u9:=s2.free hD;have RN:R≠N:=Ai eR hN;have RD:R≠D:=Ai (show(upd H1 N (.dT [])) R=u8 (.lst (iN rc)) by rw[Ag RN];exact eR) hD;have ND:N≠D:=Ai (show(upd H1 N (.dT [])) N=u8 (.dT []) from Ab) hD;refine⟨_,ξ,_,_,ξ,ξ,1,ξ,1,ξ,(n:Int)-1,-1,ξ,⟨δ,δ,δ,δ⟩,?_⟩;refine Us (lo:=(n:Int)-1) (n:=((n:Int)-1 - -1).toNat) (λi σ H2=>∃(aS:List Row) (aT:List (Key×V)) (pl:Nat->vT) (o6 o7 o8 o9:Option V),σ=[u8 (.int n),u8 (.ref l),u8 (.int top),u8 (.ref R),u8 (.ref N),u8 (.ref D),o6,o7,o8,o9]/\Same H H2 /\
   H2 R=u8 (.lst (iN rc))/\H2 N=u8 (.dT (numKV 2 aS))/\H2 D=u8 (.dK aT)/\PlD aT pl/\Kept2 n (n-i) aE rc aS pl/\aS.length<=300*i/\aT.length<=2+4100*i/\∀t,(aS.filter λr=>decide (r.1=t)).length<=300)
  ⟨[],_,λk=>if k=0 then u8 0 else if k=1 then u8 1 else u9,u9,u9,u9,u9,ξ,λb o e=>?_,?_,?_,Ab,?_,?_,θ,?_,λt=>Bz _⟩ ?_ ?_
 .rw[Ag (Ai e nD),Ag (Ai e nD)]
  exact s2 b o e
 .rw[Ag RD,Ag RD,Ag RN]
  exact eR
 .rw[Ag ND,Ag ND,Ab]
  rfl
 .exact ADb
 .exact Xk λk hk=>(cl.low ok hk).1
 .exact AHe
 .rintro i σ H2 hi ⟨aS,aT,pl,o6,o7,o8,o9,rfl,sm,mE,eN2,rZ,pd,kp,nl,kl,cn⟩
  obtain⟨t,et,tn,tn',tlt⟩:∃t:Nat,(n:Int)-1-i=t/\n-i=t+1/\n-(i+1)=t/\t<n:=⟨n-1-i,δ,δ,xL,δ⟩;rw[et];rw[tn] at kp;have tK:=hL.same sm;refine⟨_,ξ,R,ξ,⟨_,vd mE⟩,λY hY=>?_⟩;have nY:H Y=u9:=sm.free hY;refine Bw (K:=K) (a:=R) (xs:=iN rc) (λj τ H3=>∃(kv:Option V) (ys:List V),τ=[kv,u8 (.ref D),u8 (.ref l),u8 (.int t)]/\Same H2 H3/\H3 Y=u8 (.lst ys)/\A9 (LayR aE pl H3) (lay aE t rc j) ys)
   ⟨u9,[],ξ,vk hY _,Ab,.nil⟩ (by rintro j τ H3 _ ⟨_,_,_,s3,_⟩;exact s3.seq (vd mE)) ?_ ?_
  .rintro j x τ H3 hx ⟨kv,ys,rfl,s3,eY,py⟩
   obtain⟨k,hk,rfl⟩:∃k:Nat,rc[j]?=u8 k/\x=.int (k:Int):=by
    unfold iN at hx;rw[AV] at hx;cases g:rc[j]? with
    | none=>rw[g] at hx;cases hx
    | some k=>rw[g] at hx;cases hx;exact⟨k,ξ,ξ⟩
   have km:=By hk;obtain⟨xs,p,hS,ha,hp⟩:=Io (tK.same s3) (cl.knot k km) (cl.two k km);refine⟨_,ξ,_,ξ,_,_,ξ,ξ,ixA hS ha (ixA hp at0 ⟨_,ξ,ξ,_,ξ,?_⟩)⟩;refine ite2 (λc=>?_) (λc=>?_)
   .have c':tieOf aE k=t:=by
     have:=vE c;injection this with this
     exact Mo this
    obtain⟨a,b,pa,pb,re,_⟩:=kp.base.row cl ok tlt km c';have lj:valV aT (F0 (((aE.getD (k-2) (0,0,0)).2.1:Nat):Int))=u8 (.int (a:Int)):=by
     have:=pd (outOf aE k);rw[pa] at this;exact this
    have ue:valV aT (F0 (((aE.getD (k-2) (0,0,0)).2.2:Nat):Int))=u8 (.int (b:Int)):=by
     have:=pd (intoOf aE k);rw[pb] at this;exact this
    refine⟨_,ξ,_,ξ,_,ξ,_,ξ,_,_,ξ,ξ,ixA hS ha ⟨D,p,aE.getD (k-2) (0,0,0),a,b,aT,ξ,s3 _ _ rZ,⟨p,ξ,hp⟩,lj,ue,λu hu=>?_⟩⟩;refine⟨(by show 2<=sizeLine;decide),λv hv=>?_⟩;have er:[V.int ((aE.getD (k-2) (0,0,0)).1:Nat),V.int (a:Int),V.int (b:Int)]=r3 (rowIn aE pl k):=by
     rw[re,<- c'];rfl
    rw[er];rw[er] at hv;have su:=vk hu (.tup (r3 (rowIn aE pl k)));have sv:=vk hv (.tup [.int (k:Int),.ref u]);have ow:=sv _ _ (su _ _ eY);have ll:=rl t j;have ly:ys.length<=4100:=by rw[<- AT py];exact ll
    have kt:∀a xs,(upd (upd H3 u (.tup (r3 (rowIn aE pl k)))) v (.tup [.int (k:Int),.ref u])) a=u8 (.tup xs)->(upd (upd (upd H3 u (.tup (r3 (rowIn aE pl k)))) v (.tup [.int (k:Int),.ref u])) Y (.lst (ys++[.ref v]))) a=u8 (.tup xs):=λa xs e=>by
     rw[Ag (Cu e ow (by intro z;cases z))];exact e
    refine⟨_,ow,smallN (xM ly),_,_,ξ,((s3.trans su).trans sv).put hY _,Ab,?_⟩
    .rw[VF hk,vB c']
     refine vg (vj (λa b r=>(r.keeps λa xs e=>sv _ _ (su _ _ e)).keeps kt) py) (vh ⟨v,u,ξ,kt _ _ Ab,kt _ _ (sv _ _ Ab)⟩)
   .have c':¬ tieOf aE k=t:=λe=>c (vC (by show V.int ((tieOf aE k:Nat):Int)=V.int (t:Int);rw[e]))
    refine⟨_,_,ξ,s3,eY,?_⟩;rw[VF hk,vA c',B5];exact py
  .rintro τ H3 ⟨kv,ys,rfl,s3,eY,py⟩
   have rcl:(iN rc).length=rc.length:=AB ..;rw[rcl] at py;have ll:=rl t rc.length;have ly:ys.length<=4100:=by rw[<- AT py];exact ll
   refine⟨_,ξ,Y,ξ,⟨_,vd eY⟩,λZ hZ=>?_⟩;refine Bw (K:=K) (a:=Y) (xs:=ys) (λj τ H4=>∃(o1 o2:Option V) (zs:List V),τ=[o1,o2]/\Same H3 H4/\H4 Z=u8 (.lst zs)/\A9 (RowR H4) (sel aE pl (lay aE t rc rc.length) j) zs)
    ⟨u9,u9,[],ξ,vk hZ _,Ab,.nil⟩ (by rintro j τ H4 _ ⟨_,_,_,_,s4,_⟩;exact s4.seq (vd eY)) ?_ ?_
   .rintro j x τ H4 hx ⟨o1,o2,zs,rfl,s4,eZ,pz⟩
    obtain⟨k,hk,u,b,rfl,hu,hb⟩:=Paired.get py hx;have hu4:=s4 _ _ hu;have hb4:=s4 _ _ hb;refine⟨u,_,ξ,ve hu4,ξ,_,_,ξ,_,_,ξ,ξ,?_⟩;refine⟨_,ξ,b,_,_,_,ξ,ξ,ve hb4,at2,ξ,_,ξ,?_⟩;have zl:zs.length<=4100:=by rw[<- AT pz];exact BQ (Ze _ _ _ _) ll
    refine ite2 (λc=>?_) (λc=>?_)
    .have c':(rowIn aE pl k).2.2≠0:=λe=>by
      rw[e] at c;exact vF c ζ
     refine⟨_,ξ,_,eZ,smallN (xM zl),_,_,_,ξ,s4.put hZ _,Ab,?_⟩
     .rw[UL hk,vB c']
      have kz:∀a xs,H4 a=u8 (.tup xs)->(upd H4 Z (.lst (zs++[.ref b]))) a=u8 (.tup xs):=λa xs e=>by rw[Ag (Cu e eZ (by intro z;cases z))];exact e
      exact vg (vj (λa b r=>r.keeps kz) pz) (vh ⟨b,ξ,kz _ _ hb4⟩)
    .have c':(rowIn aE pl k).2.2=0:=by
      rcases Th (rowIn aE pl k).2.2 with e| e
      .exact e
      .exact vF (by rw[vD (λz=>by injection z with z;lia)];rfl) c
     refine⟨_,_,_,ξ,s4,eZ,?_⟩;rw[UL hk,vA (λz=>z c'),B5];exact pz
   .rintro τ H4 ⟨o1,o2,zs,rfl,s4,eZ,pz⟩
    rw[<- AT py] at pz;have zl:(sel aE pl (lay aE t rc rc.length) (lay aE t rc rc.length).length).length<=4100:=BQ (Ze _ _ _ _) ll;refine⟨Z,zs,(sel aE pl (lay aE t rc rc.length) (lay aE t rc rc.length).length).map r3i,ξ,vd eZ,Xv (vj (λr v ⟨b,e,hb⟩=>by rw[e];exact Dt (ns:=r3i r) hb) pz),λms nd hm=>?_,λS sP ms hS so mem pr pw=>?_⟩
    .obtain⟨new,rfl⟩:=Js ms λm dA=>by
      obtain⟨r',_,e⟩:=A1.mp (hm m dA);exact⟨r',e.symm⟩
     rw[AB];refine fw.sel kp cl ok tlt par new ((Cb.mp nd).imp λh e=>h (by rw[e])) λr hr=>?_;obtain⟨r',h1,h2⟩:=A1.mp (hm _ (Hd hr));rw[Ke h2] at h1;obtain⟨k,h1,h2,h3⟩:=Ro.mp h1;obtain⟨h4,h5⟩:=Ie.mp h1;exact⟨k,h4,h5,h2,h3⟩
    obtain⟨new,rfl⟩:=Js ms λm hm=>by
     obtain⟨r',_,e⟩:=A1.mp ((mem m).mp hm);exact⟨r',e.symm⟩
    have nd:=AAs so;have ud:∀r∈new,r∈sel aE pl (lay aE t rc rc.length) (lay aE t rc rc.length).length:=λr hr=>by
     obtain⟨r',h1,h2⟩:=A1.mp ((mem (r3i r)).mp (Hd hr));rw[<- Ke h2];exact h1
    have hw:∀r,r∈new->∃k,k∈rc/\tieOf aE k=t/\r=rowIn aE pl k/\r.2.2≠0:=λr hr=>by
     obtain⟨k,h1,h2,h3⟩:=Ro.mp (ud r hr);obtain⟨h4,h5⟩:=Ie.mp h1;exact⟨k,h4,h5,h2,h3⟩
    have hw2:∀k∈rc,tieOf aE k=t->(rowIn aE pl k).2.2≠0->rowIn aE pl k∈new:=λk hk hkt w0=>by
     have h0:r3i (rowIn aE pl k)∈new.map r3i:=(mem _).mpr (Hd (Ro.mpr ⟨k,Ie.mpr ⟨hk,hkt⟩,ξ,w0⟩));obtain⟨r',h1,h2⟩:=A1.mp h0;rw[<- Ke h2];exact h1
    have newl:new.length<=300:=fw.sel kp cl ok tlt par new nd hw;have ly':sP.length=new.length:=by rw[<- AT pr,AB]
    have sS:=vk hS (.lst sP);have rW:=sS _ _ (s4 _ _ (s3 _ _ eN2));have u4:=sS _ _ (s4 _ _ (s3 _ _ rZ));have g9:=sS _ _ (s4 _ _ (s3 _ _ mE));have eY4:=sS _ _ (s4 _ _ eY);have SN:S≠N:=Cu (show(upd H4 S (.lst sP)) S=u8 (.lst sP) from Ab) rW (by intro z;cases z);refine⟨S,ξ,⟨_,vd Ab⟩,?_⟩;refine Ej (K:=K) (a:=S) (xs:=sP) (λj σ H5=>∃o8:Option V,σ=[u8 (.int n),u8 (.ref l),u8 (.int top),u8 (.ref R),u8 (.ref N),u8 (.ref D),u8 (.int t),u8 (.ref Y),o8,o9]/\(∀b o,b≠N->(upd H4 S (.lst sP)) b=u8 o->H5 b=u8 o) /\
      H5 N=u8 (.dT (numKV 2 (aS++new.take j)))) ⟨o8,ξ,λb o _ e=>e,by rw[RA,B5];exact rW⟩ (by rintro j σ H5 _ ⟨_,_,k5,_⟩;exact vd (k5 _ _ SN Ab)) ?_ ?_
    .rintro j x σ H5 hx ⟨o8,rfl,k5,eN5⟩
     obtain⟨m,hm,i',hi1,kU⟩:=Paired.get pw hx;obtain⟨r,hr,rfl⟩:∃r,new[j]?=u8 r/\m=r3i r:=by
      rw[AV] at hm;cases g:new[j]? with
      | none=>rw[g] at hm;cases hm
      | some r=>rw[g] at hm;cases hm;exact⟨r,ξ,ξ⟩
     obtain⟨r',hr',b,rfl,hb⟩:=Paired.get pz kU;have er:r'=r:=by
      rw[AV,hr'] at hi1;exact Ke (AM hi1)
     subst er;have bN:b≠N:=Cu (sS _ _ hb) rW (by intro z;cases z);have hb5:=k5 _ _ bN (sS _ _ hb);have rn:r'∉aS++new.take j:=λhm=>by
      rcases Cf.mp hm with hm| hm
      .have:=kp.base.ge r' hm
       obtain⟨k,_,h5,h2,_⟩:=hw r' (By hr);rw[h2] at this;have e:(rowIn aE pl k).1=tieOf aE k:=rfl;lia
      .obtain⟨j',b6⟩:=DD.mp hm
       rw[List.getElem?_take] at b6;split at b6
       .have:=(L5 (AG.mp b6).1 nd).mp (b6.trans hr.symm)
        lia
       .cases b6
     have nl2:(aS++new.take j).length<=300*13:=by
      rw[A2,BV];lia
     refine⟨_,ξ,N,_,ξ,eN5,_,_,ξ,ξ,_,ξ,_,ξ,N,_,ξ,.inr ⟨_,ik3 r',b,eN5,ξ,hb5,by rw[Jq];exact smallN δ,ξ⟩,?_⟩;refine⟨_,ξ,λb o hb e=>by rw[Ag hb];exact k5 b o hb e,?_⟩;rw[Ab,AAQ rn,DA,hr];rw[CH];rfl
    .rintro σ H5 ⟨o8,rfl,k5,eN5⟩
     rw[ly',CD] at eN5;have DN:D≠N:=Cu u4 rW (by intro z;cases z);have RN4:R≠N:=Cu g9 rW (by intro z;cases z);have YN:Y≠N:=Cu eY4 rW (by intro z;cases z);have rK:=k5 _ _ DN u4;have gu:=k5 _ _ RN4 g9;have eY5:=k5 _ _ YN eY4;have YD:Y≠D:=Cu eY5 rK (by intro z;cases z);refine⟨_,ξ,Y,ξ,⟨_,vd eY5⟩,?_⟩;refine Ej (K:=K) (a:=Y) (xs:=ys) (λj σ H6=>∃(o8 o9:Option V) (b4:List (Key×V)),σ=[u8 (.int n),u8 (.ref l),u8 (.int top),u8 (.ref R),u8 (.ref N),u8 (.ref D),u8 (.int t),u8 (.ref Y),o8,o9]/\(∀b o,b≠D->H5 b=u8 o->H6 b=u8 o) /\
       H6 D=u8 (.dK b4)/\PlD b4 (plOf pl (placeOf aE pl (aS++new)) ((lay aE t rc rc.length).take j))/\b4.length<=aT.length+j) ⟨o8,o9,aT,ξ,λb o _ e=>e,rK,?_,vq⟩ (by rintro j σ H6 _ ⟨_,_,_,_,k6,_⟩;exact vd (k6 _ _ YD eY5)) ?_ ?_
     .intro k
      rw[pd k];unfold plOf;rw[vA θ]
     .rintro j x σ H6 hx ⟨o8,o9,b4,rfl,k6,nX,pd6,kl6⟩
      obtain⟨k,hk,u,b,rfl,hu,hb⟩:=Paired.get py hx;have up:∀a xs,H3 a=u8 (.tup xs)->H6 a=u8 (.tup xs):=λa xs e=>by
       have e4:=sS _ _ (s4 _ _ e);have e5:=k5 _ _ (Cu e4 rW (by intro z;cases z)) e4;exact k6 _ _ (Cu e5 rK (by intro z;cases z)) e5
      have eN6:=k6 _ _ (BU DN) eN5;have jl:j<ys.length:=(AG.mp hx).1;refine⟨u,_,ξ,ve (up _ _ hu),ξ,_,_,ξ,_,_,ξ,ξ,?_⟩;refine⟨_,ξ,N,ξ,.inr ⟨_,.inl eN6⟩,_,ξ,_,ξ,b,_,_,_,ξ,ξ,ve (up _ _ hb),at1,_,vb (k:=ik3 (rowIn aE pl k)) eN6 (up _ _ hb),?_⟩;refine⟨_,ξ,_,ξ,D,_,ξ,.inl ⟨b4,F0 (k:Int),nX,ξ,smallN δ,ξ⟩,?_⟩;have ev:(valV (numKV 2 (aS++new)) (ik3 (rowIn aE pl k))).getD (V.int ((rowIn aE pl k).2.1:Nat))=V.int ((placeOf aE pl (aS++new) k:Nat):Int):=by
       rw[Jy];unfold placeOf;cases numOf 2 (aS++new) (rowIn aE pl k)<;>rfl
      rw[ev];refine⟨_,_,_,ξ,λb o hb e=>by rw[Ag hb];exact k6 b o hb e,Ab,?_,by have:=Cd b4 (F0 (k:Int)) (V.int ((placeOf aE pl (aS++new) k:Nat):Int));lia⟩;rw[DA,hk];exact PlD.put pd6
     .rintro σ H6 ⟨o8,o9,b4,rfl,k6,nX,pd6,kl6⟩
      rw[<- AT py,CD] at pd6;refine⟨aS++new,b4,_,_,_,_,_,ξ,λb o e=>?_,k6 _ _ (Cu gu rK (by intro z;cases z)) gu,k6 _ _ (BU DN) eN5,nX,pd6,?_,by rw[A2];lia,δ,λt1=>?_⟩
      .have e4:=sS _ _ (s4 _ _ (s3 _ _ (sm b o e)))
       exact k6 _ _ (Ai e nD) (k5 _ _ (Ai e nN) e4)
      .rw[tn']
       refine kp.step cl ok tlt hw nd hw2 (AEf so hw) (λk hk=>?_) (λk hk ht=>?_)
       .unfold plOf
        rw[vA (λz=>by
         obtain⟨z1,z2⟩:=Ie.mp z;rcases hk with hk| hk
         .exact hk z1
         .exact hk z2)]
       .refine⟨placeOf aE pl (aS++new) k,by unfold plOf;rw[vB (Ie.mpr ⟨hk,ht⟩)],?_⟩
        unfold placeOf;cases g:numOf 2 (aS++new) (rowIn aE pl k) with
        | some m =>
         obtain⟨j,h1,h2⟩:=Lr _ _ _ _ g;exact .inl ⟨j,h1,by show m=j+2;lia⟩
        | none=>exact .inr ⟨Mf _ _ _ g,ξ⟩
      .rw[CI,A2]
       by_cases c:t1=t
       .rw[HG.mpr λr hr z=>by
         have:=kp.base.ge r hr;have:=vE z;lia]
        have:=CY (λr:Row=>decide (r.1=t1)) new;simp only[HU];lia
       .rw[HG (l:=new)|>.mpr λr hr z=>by
         obtain⟨k,_,h5,h2,_⟩:=hw r hr;have:=vE z;rw[h2] at this;have e:(rowIn aE pl k).1=tieOf aE k:=rfl;lia]
        exact cn t1
 .rintro σ H2 ⟨aS,aT,pl,o6,o7,o8,o9,rfl,sm,mE,eN2,rZ,pd,kp,nl,kl,cn⟩
  have e0:n-((n:Int)-1 - -1).toNat=0:=by lia
  rw[e0] at kp;have ht:∃p:Nat,pl top=u8 p:=by
   rcases tr with h| h
   .have:top=0\/top=1:=xu h
    rcases this with rfl| rfl
    .exact⟨0,kp.base.z⟩
    .exact⟨1,kp.base.o⟩
   .obtain⟨p,hp,_⟩:=kp.base.has top h (Bz _)
    exact⟨p,hp⟩
  obtain⟨hd,ehd⟩:=ht;refine⟨_,ξ,_,ξ,N,_,ξ,eN2,λA0 ys hA kL=>?_⟩;have sA:=vk hA (.lst ys);refine⟨_,ξ,_,ξ,D,.int hd,ξ,?_,?_⟩
  .have:=DGet.k (k:=.inl (top:Int)) (sA _ _ rZ)
   rw[pd top,ehd] at this;exact this
  .intro x dx hx hdx ne
   have hx2:(upd (upd H2 A0 (.lst ys)) dx (.own x)) x=u9:=by rw[Ag (BU ne)];exact hx
   have s4:=(vk hdx (.own x)).trans (vk hx2 (.ins C dx []));refine⟨x,dx,A0,n,hd,ys,aS,ξ,Ab,s4.seq (vd Ab),vj (λa b r=>Bd _ _ _ _ s4.ts (Bd _ _ _ _ sA.ts r)) (ABJ kL),λH' hs sv=>⟨ξ,q x aS hd H' (λb o e=>?_) sv (kp.canon cl ok tr ehd par).1 (kp.canon cl ok tr ehd par).2 ⟨δ,Zm kp cl,cn⟩⟩⟩;have e1:=s4 _ _ (sA _ _ (sm b o e));refine hs b o e1 λz=>?_;rw[z] at e;have:=sA _ _ (sm _ o e);rw[hx] at this;cases this
def seqX{R:Addr}(e:∀b o,b≠R->H b=u8 o->H' b=u8 o)(ne:l≠R)(h:SqL K H l xs):SqL K H' l xs:=by
 rcases h with(h| ⟨u,h⟩)| h
 .exact .inl (.inl (e _ _ ne h))
 .exact .inl (.inr ⟨u,e _ _ ne h⟩)
 .exact .inr h
def tsX{R:Addr}(e:∀b o,b≠R->H b=u8 o->H' b=u8 o)(hR:H R=u8 (.lst xs)):TSm H H':=λb u hb t=>e b u (λz=>by
 subst z;rw[hR] at hb;cases hb;obtain⟨ys,e| ⟨o,e⟩⟩:=t
 .cases e
 .cases e) hb
def take_snoc{l:List α}{x:α}(h:l[i]?=u8 x):l.take (i+1)=l.take i++[x]:=by rw[DA,h];rfl
theorem Gz:∀ns:vG,(ns.map V.int).all flatV=true
 | []=>rfl
 | _::r=>Gz r
def AEb(z:Int)(j:Addr)(h:Int){m:Str}(h1:¬ m = "head")(h2:¬ m = "rows")(h3:¬ m = "amount"):(flds z j h).lookup m=u9:=by
 unfold flds;rw[Aj,vA h1,Aj,vA h2,Aj,vA h3]
 all_goals rfl
def ACT(hK:X.K=K):OpR X (Hk .Add) (rAddT K):=by subst hK;exact AEt
def AGB{aE:List Row}(o:Ok n aE)(j:Nat):Ok n (aE.take j):=λi q e=>by
 have il:=(AG.mp e).1;have ij:i<j:=by rw[BV] at il;exact xj il
 obtain⟨h1,h2,h3⟩:=o i q (by rw[G1 ij] at e;exact e);have low:∀l,Low aE q.1 (i+2) l->Low (aE.take j) q.1 (i+2) l:=λl ⟨a,b⟩=>⟨a,b.imp id λ⟨u,e,z⟩=>⟨u,by rw[G1 δ];exact e,z⟩⟩;exact⟨h1,low _ h2,low _ h3⟩
def Zg{aE:List Row}{k:Nat}(I:InOrder n aE k L):L.length<=2 ^ n:=by
 have h:(L.map (num n)).Pairwise (· < ·):=by rw[Cb];exact I.ord
 have z:=ST.Bo (l₁:=L.map (num n)) (l₂:=AX (2 ^ n)) (h.imp λ{a b} h=>BF h) λx hx=>by
  obtain⟨s,hs,rfl⟩:=A1.mp hx;obtain⟨w1,w2⟩:=I.way s hs;have:=Qq (n:=n) (t:=0) w1 λx hx=>⟨Bz _,(w2 x hx).2⟩;exact AU.mpr this
 rw[AB,B6] at z;exact z
def LC{s:vI}(h:s.Pairwise (· < ·))(hs:∀x∈s,x<n):s.length<=n:=by
 have z:=ST.Bo (l₁:=s) (l₂:=AX n) (h.imp λ{a b} h=>BF h) λx hx=>AU.mpr (hs x hx);rw[B6] at z;exact z
def pow12(h:n<=12):2 ^ n<=4096:=IM ζ h
def rTies(K:As)(H:Hp)(s:vI)(v:V):Prop:=∃p,v=.ref p/\H p=u8 (.tup ((up s).map V.int))
def Ft(t:TSm H H')(h:A9 (rTies K H) ss ys):A9 (rTies K H') ss ys:=vj (by rintro _ _ ⟨p,e,hp⟩;exact⟨p,e,t p _ hp ⟨_,.inl rfl⟩⟩) h
def rSets(K:As)(H0:Hp)(S:Addr)(H:Hp)(ss:List vI)(v:V):Prop:=∃p ys,v=.ref p/\H0 p=u9/\p≠S/\H p=u8 (.lst ys)/\A9 (rTies K H) ss ys
def Pg(e:∀b o,b≠S->H b=u8 o->H' b=u8 o)(hS:H S=u8 (.lst xs))(h:rSets K H0 S H ss v):rSets K H0 S H' ss v:=by
 obtain⟨p,ys,rfl,h0,ne,hp,pr⟩:=h;exact⟨p,ys,ξ,h0,ne,e _ _ ne hp,Ft (tsX e hS) pr⟩
def YB(K:As)(C:Addr):Sp:=λvs H Q _=>∃(p:Addr) (n hd:Nat) (aE:List Row),vs=[.ref p]/\SvAt K C H p n aE hd/\Ok n aE/\Knot aE hd/\n<=12/\aE.length<=4000 /\
 ∀(L:Addr) (ys:List V) (H':Hp),Same H H'->H L=none->H' L=u8 (.lst ys)->A9 (rTies K H') (setsOf aE hd) ys->Q (.ref L) H'
def Uv:∀{aE:List Row}{xs:List V},A9 (rRow K H) aE xs->A9 (rPair K H) (aE.map r3i) xs:=by
 intro l m h
 induction h with
 | nil=>exact .nil
 | cons h t ih=>obtain⟨p,e,h⟩:=h;exact .cons ⟨p,_,e,h,paired_ints (r3i _)⟩ ih
def Wu:FnScope ["sieve","sets","row"] ["sieve"] (Af Yi):=fscp ψ
def AGD(F:Fun K "sets_of" "sets_of" Yi f fd)(T:Txt K mg C)
  (GK:FnOk P w K mg base CX0 1 fK f6 zl0 (Ip K C)) (bK:Binds K f6 zl0 []) (mK:Meth K C "knots" fK)
  (GT:FnOk P w K mg base CX0 1 fT df zl0 (VL K C)) (bT:Binds K df zl0 []) (mT:Meth K C "top" fT) :
  FnOk P w K mg base CX0 2 f fd ["sieve"] (YB K C):=by
 refine F.ok Wu (λbt A outer s H vs Q E hr h=>?_);obtain⟨p,n,hd,aE,rfl,hV,ok,kn,fF,r9,q⟩:=h;have bo:Room 1 _:=hr.mono ζ;refine⟨_,Ad (Ao (i:=1) Wu.nd (DG (Aa (DG Ac) (Aa (DG (Aa (Bs Ac) Ac)) Ac))))
  (Ad (Dj DJ rfl (CT (BZ (pv 0) T.cl mK GK bo bK .nil pass0)) (Bg (i:=2) Wu.nd)
   (Ah (Ce (Ho DF Fk Fm DY (pv 1) (Aa (Aw Yk (Ax Cg (pv 1) (Ax Bc (pv 2) Ae))
    (Bu (Af Yi) ["some"] ["row"] [2] rfl rfl ψ ⟨⟨ξ,ψ⟩,trivial⟩ (CT (Ax Cg (pv 1) (Ax Bc (pv 2) Ae)))
     (λ_ _ _=>BL (i:=0)) (λ_ _ _=>Cv)
     (λ_ _ _=>Aw (ACT (K:=K) rfl) (Bs (Aa (Ax (TQ (K:=K) rfl) (pv 1) Ae) Ac)) (pv 0)))) Ac)))))
  (Ah (Ar (Ax Cg (pv 1) (BZ (pv 0) T.cl mT GT bo bT .nil pass0))))),?_⟩
 obtain⟨dx,jj,hp,_⟩:=id hV;refine⟨Bz _,λL0 jS=>⟨Bz _,λT0 hT0=>⟨(by show 1<=sizeLine;decide),λL1 tD=>⟨(by show 2<=sizeLine;decide),λS hS=>?_⟩⟩⟩⟩;have sA:=vk jS (.lst []);have sB:=vk hT0 (.tup []);have sC:=vk tD (.lst [.ref T0]);have sD:=vk hS (.lst [.ref L0,.ref L1]);have s0:=sA.trans (sB.trans (sC.trans sD));have hSn:H S=u9:=by
  rcases h:H S with _| o
  .rfl
  .rw[(sA.trans (sB.trans sC)) _ _ h] at hS
   cases hS
 have n1:H L1=u9:=by
  rcases h:H L1 with _| o
  .rfl
  .rw[(sA.trans sB) _ _ h] at tD
   cases tD
 have e0:=(sB.trans (sC.trans sD)) _ _ (Ab (H:=H) (a:=L0) (o:=.lst []));have eT:=(sC.trans sD) _ _ (Ab (H:=upd H L0 (.lst [])) (a:=T0) (o:=.tup []));have e1:=sD _ _ (Ab (H:=upd (upd H L0 (.lst [])) T0 (.tup [])) (a:=L1) (o:=.lst [.ref T0]));have eS:(upd (upd (upd (upd H L0 (.lst [])) T0 (.tup [])) L1 (.lst [.ref T0])) S (.lst [.ref L0,.ref L1])) S=u8 (.lst [.ref L0,.ref L1]):=Ab;have neS0:=Ai ((sB.trans sC) _ _ (Ab (H:=H) (a:=L0) (o:=.lst []))) hS;have neS1:=Ai (Ab (H:=upd (upd H L0 (.lst [])) T0 (.tup [])) (a:=L1) (o:=.lst [.ref T0])) hS;generalize upd (upd (upd (upd H L0 (.lst [])) T0 (.tup [])) L1 (.lst [.ref T0])) S (.lst [.ref L0,.ref L1])=H1 at s0 e0 eT e1 eS;refine⟨_,ξ,p,dx,_,ξ,s0 _ _ hp,ξ,p,n,hd,aE,ξ,hV.same s0,λl ys H2 s2 hl el px=>?_⟩;have lS:l≠S:=λe=>by
  rw[e,eS] at hl;cases hl
 have lx:=AT px;refine⟨l,ξ,⟨_,vd el⟩,?_⟩;refine Ej (K:=K) (a:=l) (xs:=ys) (λi σ H3=>∃(o:Option V) (xs:List V),σ=[u8 (.ref p),u8 (.ref S),o]/\(∀b u,b≠S->H2 b=u8 u->H3 b=u8 u)/\H3 S=u8 (.lst xs)/\A9 (rSets K H S H3) (setsUp (aE.take i)) xs)
  ⟨u9,_,ξ,λb u _ e=>e,s2 _ _ eS,?_⟩ (by rintro i σ H3 _ ⟨_,_,_,sm,_,_⟩;exact vd (sm _ _ lS el)) ?_ ?_
 .exact .cons ⟨L0,[],ξ,jS,neS0,s2 _ _ e0,.nil⟩ (.cons ⟨L1,[.ref T0],ξ,n1,neS1,s2 _ _ e1,vh ⟨T0,ξ,s2 _ _ eT⟩⟩ .nil)
 .rintro i x σ H3 hx ⟨o,xs,rfl,sm,eS3,pS⟩
  have il:i<aE.length:=by rw[lx];exact(AG.mp hx).1
  obtain⟨r,hr',b,rfl,hb⟩:=Paired.get px hx;have sU:=(tsX sm (s2 _ _ eS)).seq hb;have okt:=AGB ok i;have lt:(aE.take i).length=i:=by rw[BV];exact yU il
  obtain⟨t1,lo1,lo2⟩:=ok i r hr';have kno:Knot (aE.take i) r.2.1:=by
   have:=lo1.1;show r.2.1<_;rw[lt];exact this
  have kni:Knot (aE.take i) r.2.2:=by
   have:=lo2.1;show r.2.2<_;rw[lt];exact this
  have IO:=Gk _ _ rfl okt _ kno;have II:=Gk _ _ rfl okt _ kni;have lO:=Zg IO;have lI:=Zg II;have p12:=pow12 fF;have lxs:=AT pS;rw[Dd,lt] at lxs;have at_:∀k,Knot (aE.take i) k->∃v,xs[k]?=u8 v/\rSets K H S H3 (setsOf (aE.take i) k) v:=λk hk=>by
   have kl:k<(setsUp (aE.take i)).length:=by rw[Dd];exact hk
   obtain⟨v,h1,h2⟩:=vZ pS (AK kl);refine⟨v,h1,?_⟩;unfold setsOf;rw[AD,AK kl];exact h2
  obtain⟨_,hvo,Lo,yo,rfl,o0,oS,eo,po⟩:=at_ _ kno;obtain⟨_,ui,Li,yi,rfl,i0,iS,ei,pi_⟩:=at_ _ kni;have lyo:=AT po;have lyi:=AT pi_;refine⟨_,ξ,.inl ⟨ξ,_,vd eS3⟩,_,ξ,_,ξ,b,_,_,_,ξ,ξ,sU,at1,S,_,_,_,ξ,ξ,vd eS3,Bv hvo,?_⟩;refine⟨_,ξ,_,ξ,b,_,_,_,ξ,ξ,sU,at2,S,_,_,_,ξ,ξ,vd eS3,Bv ui,Li,ξ,⟨_,vd ei⟩,λD hD=>?_⟩;refine Bw (K:=K) (a:=Li) (xs:=yi) (λj τ H4=>∃(o:Option V) (zs:List V),τ=[o,u8 (.ref b)]/\Same H3 H4/\H4 D=u8 (.lst zs)/\A9 (rTies K H4) (((setsOf (aE.take i) r.2.2).take j).map (r.1::·)) zs) ⟨u9,[],ξ,vk hD _,Ab,.nil⟩ (by rintro j τ H4 _ ⟨_,_,_,s3,_⟩;exact s3.seq (vd ei)) ?_ ?_
  .rintro j y τ H4 hy ⟨o,zs,rfl,s4,eD,pz⟩
   obtain⟨u,hu,ru⟩:=Paired.get pi_ hy;have jl:=(AG.mp hu).1;obtain⟨w1,w2⟩:=II.way u (By hu);have ul:=LC w1 λx hx=>(w2 x hx).2;obtain⟨c,rfl,hc0⟩:=ru;have hc:SqT K H4 c ((up u).map V.int):=ve (s4 _ _ hc0);have hb4:=s4.ts.seq sU;have lz:=AT pz;rw[AB,BV] at lz;refine⟨_,ξ,b,_,_,_,ξ,ξ,hb4,at0,(by show 1<=sizeLine;decide),λT1 nh=>?_⟩;have s5:=vk nh (.tup [.int (r.1:Int)]);have hc5:=s5.ts.seq hc;have eT1:(upd H4 T1 (.tup [.int (r.1:Int)])) T1=u8 (.tup [.int (r.1:Int)]):=Ab;have fin:∀(c2:Addr) (H6:Hp),Same H4 H6->H6 c2=u8 (.tup ((up (r.1::u)).map V.int))->∃ys,H6 D=u8 (.lst ys)/\ys.length<sizeLine/\∃(o:Option V) (zs:List V),[u8 (V.ref c),u8 (V.ref b)]=[o,u8 (V.ref b)]/\Same H3 (upd H6 D (.lst (ys++[.ref c2])))/\(upd H6 D (.lst (ys++[.ref c2]))) D=u8 (.lst zs)/\A9 (rTies K (upd H6 D (.lst (ys++[.ref c2])))) (((setsOf (aE.take i) r.2.2).take (j+1)).map (r.1::·)) zs:=λc2 H6 s6 h6=>by
    have nX:=s6 _ _ eD;have tl:=vi (o:=.lst (zs++[.ref c2])) nX;refine⟨zs,nX,EQ (show zs.length<=4096 by lia) ζ,_,_,ξ,λb' o' e'=>?_,Ab,?_⟩
    .rw[Ag (Ai e' hD)]
     exact s6 _ _ (s4 b' o' e')
    .rw[take_snoc hu,BI]
     exact vg (Ft tl (Ft s6.ts pz)) (vh (⟨c2,ξ,tl _ _ h6 ⟨_,.inl rfl⟩⟩))
   refine⟨_,ξ,T1,c,_,_,ξ,ξ,ve eT1,hc5,BQ (show _<=100000 by rw[AB];unfold up;rw[AB];show 1+_<=100000;lia) ζ,λz=>(by cases z),λ_ z=>?_,λ_ z T2 hT2=>?_⟩
   .have u0:u=[]:=by
     cases u with
     | nil=>rfl
     | cons a t=>cases z
    subst u0;exact fin T1 _ s5 eT1
   .exact fin T2 _ (s5.trans (vk hT2 _)) Ab
  .rintro τ H4 ⟨o,zs,rfl,s4,eD,pz⟩
   have lz:=AT pz;rw[<- lyi,CD] at pz lz;rw[AB] at lz;refine⟨Lo,D,_,_,ξ,ξ,vd (s4 _ _ eo),vd eD,BQ (show _<=8192 by lia) ζ,λN hN=>?_⟩;have s5:=vk hN (.lst (yo++zs));have s6:=s4.trans s5;have eS6:=s6 _ _ eS3;have neN:N≠S:=λe=>by
    rw[e,s4 _ _ eS3] at hN;cases hN
   have hN0:H N=u9:=by
    rcases h:H N with _| u
    .rfl
    .have h2:=s2 _ _ (s0 _ _ h)
     rw[s4 _ _ (sm _ _ neN h2)] at hN;cases hN
   refine⟨S,xs,_,ξ,ξ,eS6,EQ (show xs.length<=100000 by lia) ζ,?_⟩;have k7:∀b u,b≠S->upd H4 N (.lst (yo++zs)) b=u8 u->upd (upd H4 N (.lst (yo++zs))) S (.lst (xs++[.ref N])) b=u8 u:=λb u ne e=>by rw[Ag ne];exact e
   refine⟨_,_,ξ,λb u ne e=>k7 _ _ ne (s6 _ _ (sm b u ne e)),Ab,?_⟩;rw[take_snoc hr',Gh];unfold addRow;refine vg (vj (λa v h=>Pg k7 eS6 (Pg (λb u _ e=>s6 b u e) eS3 h)) pS) (vh ⟨N,_,ξ,hN0,neN,k7 _ _ neN Ab,?_⟩);have t7:=tsX k7 eS6;exact Ft t7 (Ft s5.ts (vg (Ft s4.ts po) pz))
 .rintro σ H3 ⟨o,xs,rfl,sm,eS3,pS⟩
  have tr:aE.take ys.length=aE:=by rw[<- lx,CD]
  rw[tr] at pS;have rC:SvAt K C H3 p n aE hd:=by
   refine SvAt.same hV λb u e=>sm b u (Ai e hSn) (s2 _ _ (s0 b u e))
  have sH:Same H H3:=λb u e=>sm b u (Ai e hSn) (s2 _ _ (s0 b u e));refine⟨_,ξ,_,ξ,p,dx,_,ξ,sH _ _ hp,ξ,p,n,hd,aE,ξ,rC,?_⟩;have kl:hd<(setsUp aE).length:=by rw[Dd];exact kn
  obtain⟨v,h1,L,zs,rfl,L0',LS,eL,pL⟩:=vZ pS (AK kl);refine⟨S,_,_,_,ξ,ξ,vd eS3,Bv h1,q L zs H3 sH L0' eL ?_⟩;unfold setsOf;rw[AD,AK kl];exact pL
def AFO(a:Int)(r:vG):atI ((a::r).map V.int) 0=u8 (.int a):=Bv (j:=0) (v:=V.int a) rfl
def Nu(l:vH)(s:vG):heads (l++[s])=heads l++if s=[] then [] else [s.headD 0]:=by
 unfold heads;rw[CI,BI];by_cases c:s=[]
 .simp[c]
 .simp[c]
def Zn(l:vH):(heads l).length<=l.length:=by
 unfold heads;rw[AB];exact CY _ _
def Yo(a:Int)(r:vG):HT.sIx ((a::r).map V.int).length 0 (u8 1)=1:=by
 rw[AB,C5];unfold HT.sIx;simp
def AEx(a:Int)(r:vG):¬ (HT.sIx ((a::r).map V.int).length 0 (u8 1)=0/\HT.sIx ((a::r).map V.int).length ((a::r).map V.int).length u9=((a::r).map V.int).length):=λz=>by
 rw[Yo] at z;exact vF z.1 ζ
def ADc(a:Int)(r:vG):cutV ((a::r).map V.int) (u8 1) u9=r.map V.int:=by
 unfold cutV;rw[Yo];apply Mc;show(r.map V.int).length<=((a::r).map V.int).length-1;rw[AB,AB,C5];lia
def Gg(K:As):Nat->Sp
 | 0=>λ_ _ _ _=>False
 | d+1=>λvs H Q _=>∃(R S:Addr) (n lo:Nat) (aE:List Row) (xs:List V) (ss:vH),vs=[.ref R,.ref S]/\S≠R/\H R=u8 (.lst xs)/\A9 (rRow K H) aE xs/\Ok n aE/\rLst K (rPair K) H ss (.ref S)/\SetsOk n lo ss /\
   n<=lo+d/\ss.length<=61/\aE.length+d*ss.length<=900 /\
   ∀(k:Nat) (more:List Row) (ys:List V) (H':Hp),(∀b o,b≠R->H b=u8 o->H' b=u8 o)->H' R=u8 (.lst ys)->A9 (rRow K H') (aE++more) ys->Made2 n lo d aE more k ss->Q (.int k) H'
def Gn:FnScope ["rows","sets","tie","without","having"] zl22 (Af Es):=fscp ψ
def XM(F:Fun K "knot_of" "knot_of" Es f fd):FnOk P w K mg base CX0 1 f fd zl22 (Gg K 0) :=
 F.ok Gn (λbt A outer s H vs Q E hr h=>EH h) (λvs H Q E h=>EH h)
def Xq(d:Nat)(F:Fun K "knot_of" "knot_of" Es f fd)(T:Txt K mg C)
  (GK:Cal P w K mg base (d+1) f fd "knot_of" zl22 (Gg K d)) :
  FnOk P w K mg base CX0 (d+2) f fd zl22 (Gg K (d+1)):=by
 refine F.ok Gn (λbt A outer s H vs Q E hr h=>?_);obtain⟨R,S,n,lo,aE,xs,ss,rfl,SR,eR,px,ok,hS,so,hd,s61,r8,q⟩:=h;refine⟨_,Ad (Bl (Aq (Xg (Fw Cy) (CK hr)) (pv 1) (DG Ac)) (Ah (Ar Ae)) BJ)
  (Ad (Bl (Aq (Xg (Fw Cy) (CK hr)) (pv 1) (DG (Aa (Bs Ac) Ac))) (Ah (Ar Ae)) BJ)
  (Ad (Ao (i:=2) Gn.nd (Az (ABH (K:=K) rfl rfl) rfl T.min ZU (Aa (Bu (Af Es) ["some"] [] [] rfl rfl ψ trivial (CT (pv 1))
    (λ_ _ _=>BL (i:=0))
    (λ_ _ _=>Cm (Aq (AFk (K:=K) Cy (CK hr) rfl) (pv 0) (Bs Ac)))
    (λ_ _ _=>Ax (TQ (K:=K) rfl) (pv 0) Ae (λ_ _=>rfl))) Ac)))
  (Ad (Ao (i:=3) Gn.nd (Ay GK hr rfl (Aa (pv 0) (Aa (Bu (Af Es) ["some"] ["tie"] [2] rfl rfl ψ ⟨⟨ξ,ψ⟩,trivial⟩ (CT (pv 1))
    (λ_ _ _=>BL (i:=0))
    (λ_ _ _=>Cm (Aq (Hj (K:=K) rfl) (pv 1) (pv 0) rfl))
    (λ_ _ _=>pv 0)) Ac))))
  (Ad (Ao (i:=4) Gn.nd (Ay GK hr rfl (Aa (pv 0) (Aa (Bu (Af Es) ["some"] ["tie"] [2] rfl rfl ψ ⟨⟨ξ,ψ⟩,trivial⟩ (CT (pv 1))
    (λ_ _ _=>BL (i:=0))
    (λ_ _ _=>Cm (Aq (Ib (K:=K) rfl) (pv 1) (pv 0) rfl))
    (λ_ _ _=>Vc (AFb (K:=K) rfl) (pv 0) (Qv Ae) AFQ)) Ac))))
  (Ad (Ce (Ho DF Fk Fm DY (pv 0) (Aa (Bs (Aa (pv 2) (Aa (pv 3) (Aa (pv 4) Ac)))) Ac)))
  (Ah (Ar (Aw CQ (Az Av rfl T.len CC (Aa (pv 0) Ac)) Ae)))))))),?_⟩
 refine⟨_,ξ,Bz _,λL0 jS=>?_⟩;have s0:=vk jS (.lst []);refine⟨ss,[],Hf (Ak Am) s0 hS,⟨L0,[],ξ,vd Ab,.nil⟩,_,ξ,?_⟩;by_cases e0:ss=[]
 .refine iteP e0 ?_
  exact q 0 [] xs _ (λb o _ e=>s0 b o e) (s0 _ _ eR) (by rw[B5];exact vj (λa b=>Bd _ _ a b s0.ts) px) (Made2.none ok e0)
 refine iteN e0 ?_;refine⟨_,ξ,Bz _,λT0 hT0=>⟨(by show 1<=sizeLine;decide),λL1 tD=>?_⟩⟩;have s1:=s0.trans (vk hT0 (.tup []));have s2:=s1.trans (vk tD (.lst [.ref T0]));have eT0:=vk tD (.lst [.ref T0]) _ _ Ab;refine⟨ss,[[]],Hf (Ak Am) s2 hS,⟨L1,[.ref T0],ξ,vd Ab,vh ⟨T0,[],ξ,ve eT0,.nil⟩⟩,_,ξ,?_⟩;generalize upd (upd (upd H L0 (.lst [])) T0 (.tup [])) L1 (.lst [.ref T0])=H2 at s2 ⊢;by_cases e1:ss=[[]]
 .refine iteP e1 ?_
  exact q 1 [] xs _ (λb o _ e=>s2 b o e) (s2 _ _ eR) (by rw[B5];exact vj (λa b=>Bd _ _ a b s2.ts) px) (Made2.one ok e1)
 refine iteN e1 ?_;obtain⟨S',zs,eS,hSq,pz⟩:=Hf (Ak Am) s2 hS;cases eS;have lz:=AT pz;have mE:=s2 _ _ eR;have px2:=vj (λa b=>Bd _ _ a b s2.ts) px;have lx:=AT px;refine⟨_,ξ,S,ξ,⟨_,hSq⟩,λY hY=>?_⟩;refine Bw (K:=K) (a:=S) (xs:=zs) (λj τ H3=>∃o:Option V,τ=[o]/\Same H2 H3/\H3 Y=u8 (.lst ((heads (ss.take j)).map V.int))) ⟨u9,ξ,vk hY _,Ab⟩ (by rintro j τ H3 _ ⟨_,_,s3,_⟩;exact s3.seq hSq) ?_ ?_
 .rintro j x τ H3 hx ⟨o,rfl,s3,eY⟩
  obtain⟨sj,hj,rj⟩:=Paired.get pz hx;obtain⟨p,rfl,hp⟩:=Bq rj;refine⟨_,ξ,Bz _,λT1 nh=>?_⟩;have s4:=vk nh (.tup []);have rV:=s3.trans s4;refine⟨sj,[],Ak Am _ _ _ _ rV.ts rj,⟨T1,[],ξ,ve Ab,.nil⟩,_,ξ,?_⟩;have hl:=Zn (ss.take j);have qv:(ss.take j).length<=61:=by rw[BV];exact wQ s61
  refine ite2 (λc=>?_) (λc=>?_)
  .cases sj with
   | nil=>exact vF c ζ
   | cons a r =>
    refine⟨_,ξ,p,_,_,_,ξ,ξ,rV.ts.seq hp,AFO a r,_,s4 _ _ eY,BK (by rw[AB];lia),_,ξ,rV.put hY _,?_⟩
    .rw[Ab,take_snoc hj,Nu,BI]
     rfl
  .refine⟨_,ξ,rV,?_⟩
   have en:sj=[]:=by simpa using c
   rw[take_snoc hj,Nu,en,vB rfl,B5];exact s4 _ _ eY
 rintro τ H3 ⟨o,rfl,s3,eY⟩;rw[<- lz,CD] at eY;refine⟨Y,heads ss,ξ,vd eY,?_,λm hm hl=>?_⟩
 .obtain⟨s',lT,ne⟩:=so.some e0 e1
  cases s' with
  | nil=>exact vF rfl ne
  | cons a r=>exact HE (Ei.mpr ⟨r,lT⟩)
 obtain⟨t,rfl⟩:∃t:Nat,m=t:=by
  obtain⟨r,hr⟩:=Ei.mp hm;have:=(so.rng _ hr m AF).1;exact⟨m.toNat,δ⟩
 obtain⟨tlo,tn⟩:=so.least hm;obtain⟨d',rfl⟩:∃d',d=d'+1:=⟨d-1,δ⟩;have out:=so.out hl;have into:=so.into hl;have sp:=split_len (λs=>decide ((t:Int)∈s)) ss;have l1:=Nc.mpr e0;have mul1:d'*(ss.filter λs=>!decide ((t:Int)∈s)).length+d'*(ss.filter λs=>decide ((t:Int)∈s)).length=d'*ss.length:=by rw[<- ZO,sp]
 have mul2:(d'+1)*ss.length=d'*ss.length+ss.length:=Nat.succ_mul _ _;have eR3:=s3 _ _ mE;have px3:=vj (λa b=>Bd _ _ a b s3.ts) px2;have pz3:=vj (λa b=>Ak Am _ _ a b s3.ts) pz;have sk:=s3.seq hSq;refine⟨_,ξ,_,ξ,S,ξ,⟨_,sk⟩,λY2 hY2=>?_⟩;refine Bw (K:=K) (a:=S) (xs:=zs) (λj τ H4=>∃(o:Option V) (ys:List V),τ=[o,u8 (.int t)]/\Same H3 H4/\H4 Y2=u8 (.lst ys)/\A9 (rPair K H4) ((ss.take j).filter λs=>!decide ((t:Int)∈s)) ys) ⟨u9,[],ξ,vk hY2 _,Ab,.nil⟩ (by rintro j τ H4 _ ⟨_,_,_,s4,_⟩;exact s4.seq sk) ?_ ?_
 .rintro j x τ H4 hx ⟨o,ys,rfl,s4,ow,py⟩
  obtain⟨sj,hj,rj⟩:=Paired.get pz3 hx;obtain⟨p,rfl,hp⟩:=Bq rj;refine⟨_,ξ,_,ξ,p,sj.map V.int,ξ,.inr (s4.ts.seq hp),ξ,Gz sj,_,ξ,?_⟩;rw[vB rfl,FW];have ef:(ss.take (j+1)).filter (λs=>!decide ((t:Int)∈s))=(ss.take j).filter (λs=>!decide ((t:Int)∈s))++(if(!decide ((t:Int)∈sj))=true then [sj] else []):=by
   rw[take_snoc hj,CI,C6,J5]
  have ly:ys.length<=61:=by
   rw[<- AT py];refine BQ (CY _ _) ?_;rw[BV];exact wQ s61
  refine ite2 (λc=>?_) (λc=>?_)
  .refine⟨_,ξ,_,ow,BK (yu ly),_,_,ξ,λb o e=>?_,Ab,?_⟩
   .rw[Ag (Ai e hY2)]
    exact s4 b o e
   .rw[ef,vB c]
    have tl:=vi (o:=.lst (ys++[.ref p])) ow;exact vg (vj (λa b r=>Ak Am _ _ _ _ tl r) py) (vh (Ak Am _ _ _ _ (s4.ts.trans tl) rj))
  .refine⟨_,_,ξ,s4,ow,?_⟩
   rw[ef,vA c,B5];exact py
 rintro τ H4 ⟨o,ys,rfl,s4,ow,py⟩;rw[<- lz,CD] at py;have g9:=s4 _ _ eR3;have RY2:Y2≠R:=λz=>by rw[z,eR3] at hY2;cases hY2
 have u7:=vj (λa b=>Bd _ _ a b s4.ts) px3;refine⟨R,Y2,n,t+1,aE,xs,_,ξ,RY2,g9,u7,ok,⟨Y2,ys,ξ,vd ow,py⟩,out,XV hd tlo,δ,δ,λk1 a7 ys1 H5 k5 gu sJ M1=>?_⟩;have ts5:=tsX k5 g9;have uU:=seqX k5 SR (s4.seq sk);have pz5:=vj (λa b=>Ak Am _ _ a b (s4.ts.trans ts5)) pz3;refine⟨_,ξ,_,ξ,S,ξ,⟨_,uU⟩,λY3 hY3=>?_⟩;refine Bw (K:=K) (a:=S) (xs:=zs) (λj τ H6=>∃(o:Option V) (ys:List V),τ=[o,u8 (.int t)]/\Same H5 H6/\H6 Y3=u8 (.lst ys)/\A9 (rPair K H6) (((ss.take j).filter λs=>decide ((t:Int)∈s)).map P0) ys) ⟨u9,[],ξ,vk hY3 _,Ab,.nil⟩ (by rintro j τ H6 _ ⟨_,_,_,s6,_⟩;exact s6.seq uU) ?_ ?_
 .rintro j x τ H6 hx ⟨o,ys,rfl,s6,eY3,py⟩
  obtain⟨sj,hj,rj⟩:=Paired.get pz5 hx;obtain⟨p,rfl,hp⟩:=Bq rj;refine⟨_,ξ,_,ξ,p,sj.map V.int,ξ,.inr (s6.ts.seq hp),ξ,Gz sj,_,ξ,?_⟩;rw[vA (show ¬ (false=true) by decide),FW];have ef:(ss.take (j+1)).filter (λs=>decide ((t:Int)∈s))=(ss.take j).filter (λs=>decide ((t:Int)∈s))++(if(decide ((t:Int)∈sj))=true then [sj] else []):=by
   rw[take_snoc hj,CI,C6,J5]
  have ly:ys.length<=61:=by
   rw[<- AT py,AB];refine BQ (CY _ _) ?_;rw[BV];exact wQ s61
  refine ite2 (λc=>?_) (λc=>?_)
  .cases sj with
   | nil=>exact vF (vE c) (λz=>nomatch z)
   | cons a r =>
    refine⟨_,ξ,_,ξ,p,(a::r).map V.int,ξ,s6.ts.seq hp,AEx a r,λT3 hT3=>?_⟩;rw[ADc];have s7:=vk hT3 (.tup (r.map V.int));refine⟨_,s7 _ _ eY3,BK (yu ly),_,_,ξ,(s6.trans s7).put hY3 _,Ab,?_⟩
    .rw[ef,vB c,BI]
     have tl:=vi (o:=.lst (ys++[.ref T3])) (s7 _ _ eY3);exact vg (vj (λa b r=>Ak Am _ _ _ _ (s7.ts.trans tl) r) py) (vh (Ak Am _ _ _ _ tl (Dt (ns:=r) Ab)))
  .refine⟨_,_,ξ,s6,eY3,?_⟩
   rw[ef,vA c,B5];exact py
 rintro τ H6 ⟨o,sX,rfl,s6,eY3,py⟩;rw[<- lz,CD] at py;have gX:=s6 _ _ gu;have RY3:Y3≠R:=λz=>by rw[z,gu] at hY3;cases hY3
 have px6:=vj (λa b=>Bd _ _ a b s6.ts) sJ;have lm1:=M1.base.len;refine⟨R,Y3,n,t+1,aE++a7,ys1,_,ξ,RY3,gX,px6,M1.base.ok,⟨Y3,sX,ξ,vd eY3,py⟩,into,XV hd tlo,by rw[AB];lia,by rw[AB,A2];lia,λk2 a8 sR H7 k7 rR px7 M2=>?_⟩;have lm2:=M2.base.len;rw[AB] at lm2;have ly2:sR.length=aE.length+a7.length+a8.length:=by rw[<- AT px7,A2,A2]
 refine⟨_,ξ,.inl ⟨ξ,_,vd rR⟩,_,ξ,_,ξ,_,ξ,(by show 3<=sizeLine;decide),λT4 hT4=>?_⟩;have s8:=vk hT4 (.tup [.int (t:Int),.int (k1:Int),.int (k2:Int)]);have eR8:=s8 _ _ rR;refine⟨R,sR,_,ξ,ξ,eR8,BK δ,?_⟩;refine⟨_,ξ,R,_,ξ,.inl (vd Ab),_,_,ξ,ξ,?_⟩;have M:=Made2.step so hl M1 M2 l1 tn tlo;have ek:(((sR++[V.ref T4]).length:Nat):Int)+1=(((aE++(a7++a8)).length+2:Nat):Int):=by
  rw[A2,A2,A2,DC];lia
 rw[show(λ(i j:Int)=>V.int (i+j)) (((sR++[V.ref T4]).length:Nat):Int) 1=V.int (((aE++(a7++a8)).length+2:Nat):Int) from congrArg V.int ek];refine q _ _ (sR++[.ref T4]) _ (λb o nb e=>?_) Ab ?_ M
 .rw[Ag nb]
  exact s8 _ _ (k7 _ _ nb (s6 _ _ (k5 _ _ nb (s4 _ _ (s3 _ _ (s2 b o e))))))
 .have tl:=vi (o:=.lst (sR++[.ref T4])) eR8
  have er:aE++(a7++a8++[(t,k1,k2)])=aE++a7++a8++[(t,k1,k2)]:=by simp
  rw[er];exact vg (vj (λa b r=>Bd _ _ _ _ (s8.ts.trans tl) r) px7) (vh ⟨T4,ξ,tl.seq (ve Ab)⟩)
theorem Ot(F:Fun K "knot_of" "knot_of" Es f fd)(T:Txt K mg C)(bK:Binds K fd zl22 [])(kK:C8 K (.ref f)=true)(mK:mg "knot_of" = u8 (.ref f)) :
  ∀d,FnOk P w K mg base CX0 (d+1) f fd zl22 (Gg K d)
 | 0=>XM F
 | d+1=>Xq d F T ⟨Ot F T bK kK mK d,bK,kK,mK⟩
theorem Ij:∀{l m:vG},l.Pairwise (· < ·)->m.Pairwise (· < ·)->(∀x,x∈l↔x∈m)->l=m
 | [],[],_,_,_=>rfl
 | [],b::m,_,_,h=>vF ((h b).mpr AF) (λz=>nomatch z)
 | a::l,[],_,_,h=>vF ((h a).mp AF) (λz=>nomatch z)
 | a::l,b::m,hl,hm,h=>by
  obtain⟨l1,l2⟩:=B0.mp hl;obtain⟨m1,m2⟩:=B0.mp hm;have e:a=b:=by
   rcases AY.mp ((h a).mp AF) with e| e
   .exact e
   .rcases AY.mp ((h b).mpr AF) with e' | e'
    .exact e'.symm
    .have:=m1 a e
     have:=l1 b e';lia
  subst e
  congr 1
  refine Ij l2 m2 λx=>⟨λhx=>?_,λhx=>?_⟩
  .rcases AY.mp ((h x).mp (AJ _ hx)) with e| e
   .have:=l1 x hx;lia
   .exact e
  .rcases AY.mp ((h x).mpr (AJ _ hx)) with e| e
   .have:=m1 x hx;lia
   .exact e
def GoodS(n:Nat)(s:vG):Prop:=s.Pairwise (· < ·)/\∀x∈s,0<=x/\x<n
def Vx(n:Nat)(f:Int->Bool):(upTo n f).Pairwise (· < ·):=by
 unfold L2.upTo;refine Z7 _ ?_;rw[Cb];exact Hn.imp λh=>v7 h
def mem_upTo{f:Int->Bool}{x:Int}:x∈upTo n f↔(0<=x/\x<n)/\f x=true:=by
 unfold L2.upTo;rw[BG,A1];constructor
 .rintro⟨⟨i,hi,rfl⟩,h⟩
  have:=AU.mp hi;exact⟨xF this,h⟩
 .rintro⟨⟨a,b⟩,h⟩
  exact⟨⟨x.toNat,AU.mpr (wF a b),yW a⟩,h⟩
def ACq{s:vG}:s=upTo n (λi=>decide (i∈s))↔GoodS n s:=by
 constructor
 .intro e
  refine⟨?_,λx hx=>?_⟩
  .rw[e];exact Vx _ _
  .rw[e] at hx;exact(mem_upTo.mp hx).1
 .rintro⟨h1,h2⟩
  refine Ij h1 (Vx _ _) λx=>⟨λhx=>mem_upTo.mpr ⟨h2 x hx,vC hx⟩,λhx=>vE (mem_upTo.mp hx).2⟩
def ADk{s:vG}{x:V}(e:Same H H')(h:rSeq K H s x):rSeq K H' s x:=h.elim (λz=>.inl (Hf Am e z)) λz=>.inr (Ak Am _ _ _ _ e.ts z)
def Pu{aE:List Row}(h:∀t,(aE.filter λr=>decide (r.1=t)).length<=300)(top:Nat):FewB aE top :=
 ⟨λ_=>True,trivial,λ_ _ _ _=>⟨trivial,trivial⟩,λt ks hk un=>BQ (QF ks (λk h=>⟨(hk k h).2.1,(hk k h).2.2.1,(hk k h).2.2.2.1⟩) (un.imp λ{a b} ⟨s,h⟩ e=>h (by rw[e]))) (h t)⟩
def XQ{ms:vH}(h:ms.Pairwise (λa b=>HT.lexLt a b=true)):ms.Nodup:=h.imp λ{a b} z e=>by rw[e,Hz] at z;cases z
theorem nodup_subL:∀(l m:vH),l.Nodup->(∀r∈l,r∈m)->l.length<=m.length
 | [],_,_,_=>Bz _
 | a::l,m,nd,h=>by
  have am:a∈m:=h a (AF ..);obtain⟨na,nl⟩:=DV.mp nd;have:=nodup_subL l (m.erase a) nl λr hr=>(IL (λ(e:r=a)=>na (by rw[<- e];exact hr))).mpr (h r (AJ _ hr));rw[G4 am] at this;have:=HE am;rw[C5];lia
def Zb(K:As):Sp:=λvs H Q _=>∃(p:Addr) (n:Nat) (s:vG),vs=[.int n,.ref p]/\Sq K H p (s.map V.int)/\n<=12/\∀H',Same H H'->Q (.bl (decide (s=upTo n λi=>decide (i∈s)))) H'
structure SetsAt(K:As)(H:Hp)(S:Addr)(ss:vH):Prop where
 at_:∃xs,Sq K H S xs/\A9 (rSeq K H) ss xs
 len:ss.length<=60
def Qd:Sp:=λvs H Q _=>∃(n:Nat),vs=[.int n]/\n<=12/\Q .non H
def Zf(K:As)(C:Addr):Sp:=λvs H Q _=>∃(S:Addr) (n:Nat) (ss:vH),vs=[.int n,.ref S]/\n<=12/\SetsAt K H S ss/\(∀s∈ss,GoodS n s) /\
 ∀(p:Addr) (aS:List Row) (hd:Nat) (H':Hp),Same H H'->SvAt K C H' p n aS hd->Canon n aS hd->(∀s,led aS hd s=decide (up s∈ss))->aS.length<=4000->Q (.ref p) H'
def AEy:FnScope zl3 zl3 (Af Il):=fscp ψ
def ACd(F:Fun K "is_set_below" "is_set_below" Il f fd)(T:Txt K mg C):FnOk P w K mg base CX0 1 f fd zl3 (Zb K):=by
 refine F.ok AEy (λbt A outer s H vs Q E hr h=>?_);obtain⟨p,n,s0,rfl,hS,fF,q⟩:=h;refine⟨_,Ah (Ar (Fp (Xg Cy (CK hr)) (BP Ec rfl T.list EF (Aa (pv 1) Ac))
  (Bu (Af Il) ["tie"] ["some"] [1] rfl rfl ψ ⟨⟨ξ,ψ⟩,trivial⟩ (DK rfl T.range (Aa (pv 0) Ac))
   (λ_ _ _=>BL (i:=0))
   (λ_ _ _=>Cm (Aq (Ib (K:=K) rfl) (pv 0) (pv 1) rfl))
   (λ_ _ _=>pv 0)))),?_⟩
 refine⟨_,ξ,p,_,ξ,hS,λl hl=>?_⟩;have s1:=vk hl (.lst (s0.map V.int));refine⟨_,ξ,n,ξ,δ,δ,λD hD=>?_⟩;have tj:=Sq.same hS s1;refine Cj (lo:=0) (n:=(n:Int).toNat) (λj τ H2=>∃o:Option V,τ=[o,u8 (.ref p)]/\Same (upd H l (.lst (s0.map V.int))) H2/\H2 D=u8 (.lst ((upTo j λi=>decide (i∈s0)).map V.int))) ⟨u9,ξ,vk hD _,Ab⟩ ?_ ?_
 .rintro j τ H2 hj ⟨o,rfl,s2,eD⟩
  have ej:(0:Int)+j=(j:Int):=wq;rw[ej];refine⟨_,ξ,_,ξ,p,s0.map V.int,ξ,Sq.same tj s2,ξ,Gz s0,_,ξ,?_⟩;rw[vA (show ¬ (false=true) by decide),FW];have hl:=ACb j λi=>decide (i∈s0);refine ite2 (λc=>?_) (λc=>?_)
  .refine⟨_,ξ,_,eD,BK (by rw[AB];lia),_,ξ,λb o e=>?_,?_⟩
   .rw[Ag (Ai e hD)]
    exact s2 b o e
   .rw[Ab,Qk,vB c,BI]
    rfl
  .refine⟨_,ξ,s2,?_⟩
   rw[Qk,vA c,B5];exact eD
 .rintro τ H2 ⟨o,rfl,s2,eD⟩
  rw[B9] at eD;exact⟨s0,_,⟨l,_,ξ,vd (s2 _ _ Ab),paired_ints _⟩,⟨D,_,ξ,vd eD,paired_ints _⟩,q H2 (s1.trans s2)⟩
def ABh:FnScope ["n"] ["n"] (Af ADL):=fscp ψ
def Xn(F:Fun K "refuse_amount" "refuse_amount" ADL f fd)(T:Txt K mg C):FnOk P w K mg base CX0 1 f fd ["n"] Qd:=by
 refine F.ok ABh (λbt A outer s H vs Q E hr h=>?_);obtain⟨n,rfl,fF,q⟩:=h;obtain⟨t1,e1⟩:=T.mt;refine⟨_,Ah (Bl (vW (Hl (Aq Hv (pv 0) Ae) (Fv (Aq Ma (pv 0) (Fo (v:=.int 12) rfl e1 ⟨t1,ξ⟩))))) Br BJ),?_⟩;refine⟨_,ξ,_,_,ξ,ξ,_,ξ,?_⟩;refine iteN wm ?_;refine⟨_,ξ,_,_,ξ,ξ,_,ξ,?_⟩;exact iteN δ q
def Kw:FnScope ["n","sets","some","rows","top"] ["n","sets"] (Af Tc):=fscp ψ
def ACm(F:Fun K "sieve_of" "sieve_of" Tc f fd)(T:Txt K mg C)
  (GA:Cal P w K mg base 1 fA dE "refuse_amount" ["n"] Qd)
  (GB:Cal P w K mg base 1 fB oP "is_set_below" zl3 (Zb K))
  (GK:Cal P w K mg base (13+1) fK f6 "knot_of" zl22 (Gg K 13))
  (GG:Cal P w K mg base 3 fG ng "least_graph" zl21 (Kv K C)) :
  FnOk P w K mg base CX0 15 f fd ["n","sets"] (Zf K C):=by
 refine F.ok Kw (λbt A outer s H vs Q E hr h=>?_);obtain⟨S,m,ss,rfl,m12,hS,gd0,qg⟩:=h;have bo:Room 1 _:=hr.mono ζ;refine⟨_,Ad (Ce (Ay GA bo rfl (Aa (pv 0) Ac)))
  (Ad (Dj DJ rfl (ADM (pv 1)) (Bg (i:=2) Kw.nd)
   (Ah (Bl (Qn (Hw (Ay GB bo rfl (Aa (pv 0) (Aa (pv 2) Ac)))))
    Br BJ)))
  (Ad (Ao (i:=3) Kw.nd (DG Ac))
  (Ad (Ao (i:=4) Kw.nd (Ay GK hr rfl (Aa (pv 3) (Aa (Jz rfl (CK hr) rfl T.sorted rfl T.set
    (Bu (Af Tc) ["some"] [] [] rfl rfl ψ trivial (ADM (pv 1))
     (λ_ _ _=>BL (i:=0)) (λ_ _ _=>Cv)
     (λ_ _ _=>BP (Fz (K:=K) rfl) rfl T.tuple DE (Aa (pv 0) Ac)))) Ac))))
  (Ah (Ar (Ay GG (hr.mono ζ) rfl (Aa (pv 0) (Aa (pv 3) (Aa (pv 4) Ac))))))))),?_⟩
 refine⟨_,ξ,m,ξ,m12,?_⟩;obtain⟨xs,hx,px⟩:=hS.at_;have lx:=AT px;have l60:=hS.len;refine⟨_,ξ,S,ξ,AFI (K:=K) (a:=S) (xs:=xs) hx (λi σ H2=>∃o2:Option V,σ=[u8 (.int m),u8 (.ref S),o2,u9,u9]/\Same H H2/\∀s∈ss.take i,GoodS m s) ⟨u9,ξ,vf _,λs hs=>by simp at hs⟩ (by rintro i σ H2 _ ⟨_,_,sm,_⟩;exact sm) ?_ ?_⟩
 .rintro i x σ H2 hxi ⟨o2,rfl,sm,gd⟩
  obtain⟨si,hi,ri⟩:=Paired.get px hxi;obtain⟨p,rfl,hp⟩:=Vh ri;refine⟨_,ξ,_,ξ,p,m,si,ξ,Sq.same hp sm,m12,λH3 s3=>⟨_,ξ,?_⟩⟩;have s03:=sm.trans s3;rw[vC (ACq.mpr (gd0 si (By hi)))];refine iteF ⟨_,ξ,s03,λs hs=>?_⟩;rw[take_snoc hi] at hs;rcases Cf.mp hs with hs| hs
  .exact gd s hs
  .rw[B8.mp hs];exact gd0 si (By hi)
 rintro σ H2 ⟨o2,rfl,sm,gd⟩;rw[<- lx,CD] at gd;refine⟨Bz _,λR hR=>?_⟩;have s3:=sm.trans (vk hR (.lst []));have nR:=sm.free hR;refine⟨_,ξ,_,ξ,S,ξ,Zr (Sq.same hx s3) λD hD=>⟨λi τ H6=>∃(n:Option V) (ys:List V),τ=[n]/\Same (upd H2 R (.lst [])) H6/\H6 D=u8 (.lst ys)/\A9 (rPair K H6) (ss.take i) ys,⟨u9,[],ξ,vk hD _,Ab,.nil⟩,by rintro i τ H6 _ ⟨_,_,_,z,_⟩;exact z,?_,?_⟩⟩
 .rintro i x τ H6 hxi ⟨o,ys,rfl,s6,eD,py⟩
  obtain⟨si,hi,ri⟩:=Paired.get px hxi;have ri6:=ADk (s3.trans s6) ri;have ly:ys.length<=60:=by
   rw[<- AT py,BV];exact wQ l60
  refine yesN ?_;rcases ri6 with⟨p,zs,rfl,hp,pz⟩| h6
  .have ez:=Gm pz
   subst ez;refine⟨_,ξ,p,_,ξ,.inl ⟨hp,λT1 nh=>?_⟩⟩;have s7:=vk nh (.tup (si.map V.int));refine⟨_,s7 _ _ eD,BK (ar504 ly),_,_,ξ,(s6.trans s7).put hD _,Ab,?_⟩
   .rw[take_snoc hi]
    have tl:=vi (o:=.lst (ys++[.ref T1])) (s7 _ _ eD);exact vg (vj (λa b r=>Ak Am _ _ _ _ (s7.ts.trans tl) r) py) (vh (Ak Am _ _ _ _ tl (Dt (ns:=si) Ab)))
  .obtain⟨p,rfl,hp⟩:=Bq h6
   refine⟨_,ξ,p,_,ξ,.inr ⟨hp,?_⟩⟩;refine⟨_,eD,BK (ar504 ly),_,_,ξ,s6.put hD _,Ab,?_⟩
   .rw[take_snoc hi]
    have tl:=vi (o:=.lst (ys++[.ref p])) eD;exact vg (vj (λa b r=>Ak Am _ _ _ _ tl r) py) (vh (Ak Am _ _ _ _ tl h6))
 rintro τ H6 ⟨o,ys,rfl,s6,eD,py⟩;rw[<- lx,CD] at py;refine⟨D,ys,ss,ξ,vd eD,py,λms nd hm=>BQ (nodup_subL ms ss nd hm) (ar505 l60),λL zs ms hL so mem pr _=>?_⟩;have nd:=XQ so;have lm:=BQ (nodup_subL ms ss nd λr hr=>(mem r).mp hr) l60;have s7:=vk hL (.lst zs);have gX:=s6 _ _ Ab;have LR:L≠R:=λz=>by rw[z,gX] at hL;cases hL
 refine⟨R,L,m,0,[],[],ms,ξ,LR,s7 _ _ gX,.nil,λi r h=>by simp at h,⟨L,zs,ξ,vd Ab,vj (λa b r=>Ak Am _ _ _ _ s7.ts r) pr⟩,
  ⟨nd,λs hs=>(gd s ((mem s).mp hs)).1,λs hs x hx=>by have:=(gd s ((mem s).mp hs)).2 x hx;lia⟩,δ,δ,(by show 0+12*ms.length<=900;lia),λk more ys7 H7 k7 rR px7 M=>?_⟩
 have ml:more.length<=12*ms.length:=M.base.len;refine⟨_,ξ,_,ξ,_,ξ,R,m,k,more,ξ,RowsAt.of ⟨R,ys7,ξ,vd rR,px7⟩,M.base.ok,m12,δ,Pu (λt=>BQ (M.base.cnt t) (ar505 lm)) k,M.base.kn,λp aS hd H' s' h1 h2 h3 h4=>qg p aS hd H' (λb o e=>?_) h1 h2 (λs=>?_) h4.1⟩
 .exact s' _ _ (k7 _ _ (Ai e nR) (s7 _ _ (s6 _ _ (s3 b o e))))
 .rw[h3 s]
  have e1:led more k s=decide (up s∈ms):=M.sem s;rw[e1];exact decide_eq_decide.mpr (mem (up s))
end K34s
namespace L2
section
open PySem
open Sem (wp)
open AutoSeq1 (wpAny_loadPart')
set_option tactic.hygienic true in
theorem Wb(l:Addr)(items:vP)(n:Nat)(kS:Option Addr)(sl:Array vS)(k:Int)(t:Tok)(hk:EJ k=true) :
  Meets (Builtin.«enumerate.__new__» ⟨[.type "enumerate",.ref l],[("start",.int k t)]⟩) (λ_ R s=>s.heap.get? l=u8 {cls:=.type "tuple",dict:=kS,data:=.seq items n,slots:=sl} /\
   R (.ok (.ret (.ref (s.heap.push {cls:=.type "tuple_iterator",data:=.fields #[.ref l,.int 0 0]}).objs.size)))
    {s with heap:=(s.heap.push {cls:=.type "tuple_iterator",data:=.fields #[.ref l,.int 0 0]}).push {cls:=.type "enumerate",data:=.fields #[.none,.bool false,.ref s.heap.objs.size,EZ k,.none,.none]}}) :=
 .of_wp λprog w A R s h=>by
  obtain⟨hp,g,d,tk,os⟩:=s;obtain⟨hl,h⟩:=h;have iE:=Sm;have hL:YY (UF ⟨hp,g,d,tk,os⟩) l items:=⟨_,hl,ξ,n,ξ⟩
  wp_walk using wpAny_loadPart' hl
  refine PQ λst=>AC ?_;split
  .rename_i c _ _ _ _ _
   cases (c==CM "enumerate")
   .wp_walk using wpAny_loadPart' hl,E3 hL
    exact⟨_,ξ,h⟩
   .wp_walk using wpAny_loadPart' hl,E3 hL
    exact⟨_,ξ,h⟩
  .wp_walk using wpAny_loadPart' hl,E3 hL
   exact⟨_,ξ,h⟩
def Zv{k:Int}{t:Tok}(hk:EJ k=true)(hL:s.heap.IsTuple l items)
  (h:∀h',K7 h' (s.heap.objs.size+1) s.heap.objs.size k .none->h'.IsTupleIter s.heap.objs.size l 0->h'.objs.size=s.heap.objs.size+2 ->
   (∀b o,s.heap.get? b=u8 o->h'.get? b=u8 o)->Q (.ref (s.heap.objs.size+1)) {s with heap:=h'}) :
  wpAny (AN prog w) A (call (.type "enumerate") [.ref l] [("start",.int k t)]) Q E s:=by
 obtain⟨⟨c,kS,dt,sl⟩,hl,hc,n,hd⟩:=hL
 replace hc:c=.type "tuple":=hc
 replace hd:dt=.seq items n:=hd
 subst hc hd;refine Hq (Q₁:=λobj s₁=>s₁.TypeIs obj "enumerate"/\Q obj s₁) Fc (Im _ _) (KN _ _) NY OL (Wb l items n kS sl k t hk) ⟨hl,?_⟩
  λobj _ hq=>⟨hq.1,Ir obj _ _,_,Ht Fc.init.lookup Fc.made ζ,hq.1,ξ,hq.2⟩
 have hz:(s.heap.push {cls:=.type "tuple_iterator",data:=.fields #[.ref l,.int 0 0]}).objs.size=s.heap.objs.size+1:=DL ..;show _/\_;rw[hz];have he:K7 ((s.heap.push {cls:=.type "tuple_iterator",data:=.fields #[.ref l,.int 0 0]}).push
   {cls:=.type "enumerate",data:=.fields #[.none,.bool false,.ref s.heap.objs.size,EZ k,.none,.none]}) (s.heap.objs.size+1) s.heap.objs.size k .none:=by
  have:=AQ (s.heap.push {cls:=.type "tuple_iterator",data:=.fields #[.ref l,.int 0 0]})
   (o:={cls:=.type "enumerate",data:=.fields #[.none,.bool false,.ref s.heap.objs.size,EZ k,.none,.none]}) rfl
  rw[hz] at this;exact this
 refine⟨⟨_,he,ξ⟩,h _ he ⟨_,AE _ (AQ _ rfl),ξ,ξ⟩ (by rw[DL,hz]) λb o x=>AE _ (AE _ x)⟩
end
open PySem PySem.Spec PyProof.Rows
def Te{k:Nat}{e:Addr}(c:Nat)(g7:e≠it) :
  Turn P w K (.Tuple cw k tp) (Iec c λH xs=>SqT K H a xs) [e,it] e (λi h=>(∃bv,K7 h e it ((i+c:Nat):Int) bv)/\h.IsTupleIter it a i):=by
 refine NZ (l:=a) c g7 (λi h st=>?_) (λi h h' st k=>st.at k) (λX hP hw hK hc i aI s σ H xs I st he hq=>?_) (λX hK aI s σ H xs ys I h1 h2=>?_)
 .obtain⟨o,e,c,d⟩:=st
  exact⟨o,e,λv z=>by rw[d] at z;cases z⟩
 .subst hP hw hK
  obtain⟨a5,rv,p,hz⟩:=I.tuple hq;obtain⟨j,bv,he⟩:=he;obtain⟨ol,gm,gT,_⟩:=id p;obtain⟨oi,l8,sw,_⟩:=id st;have h1:a≠it:=Ja gm l8 (by rw[gT,sw];decide);have h2:e≠a:=Ja he gm (by rw[gT];show CM "enumerate"≠CM "tuple";decide);exact⟨a5,[it,a],_,rv,KC (A:=X.A.in1) (I.ok.hd hc) it a h1 a5.toArray,⟨st,p⟩,by simp[g7,h2],θ,λj h z=>z.1⟩
 .subst hK
  exact I.tuple_inj h1 h2
section
variable{k:Nat}
def AIM(K:As)(ta tk:TA):TI:=λσ H R=>ta σ H λvs H1=>tk σ H1 λzs H2=>∃(a:Addr) (c:Nat),vs=[.ref a]/\zs=[.int c]/\c<2 ^ 60 /\
 (((∃xs,SqL K H2 a xs)/\R (Iec c λH xs=>SqL K H a xs) H2)\/((∃xs,SqT K H2 a xs)/\R (Iec c λH xs=>SqT K H a xs) H2))
def AAw{l b:Expr}{ta tk:TA}{p kp:Pos}(hg:Gl X "enumerate")(hm:X.mg "enumerate" = u9)(ha:PA X [l] ta)(hb:PK X [⟨u8 "start",b,kp⟩] tk)(hs:autoParam (B3 [l] X.env=[(false,eval l X.env)]) zA0._auto_1) :
  PI X (.Tuple cw k tp) (.Call (.Name "enumerate" p) [l] [⟨u8 "start",b,kp⟩] pos) (AIM X.K ta tk):=by
 intro aI s σ H R I h;refine EB (El I hg hm WC (Jx (thn (ha pos aI s σ H _ I h) λus s1 ⟨vs,H1,I1,r1,q1⟩=>thn (hb pos aI s1 σ H1 _ I1 q1) λws s2 hq=>?_) hs rfl rfl));obtain⟨zs,H2,I2,r2,q2⟩:=hq;obtain⟨a,c,rfl,rfl,c60,q2⟩:=q2;obtain⟨u,rfl,ru⟩:=r1.one;cases ru;obtain⟨w,rfl,t,rfl⟩:=r2.one;have fr:∀b∈[s2.heap.objs.size+1,s2.heap.objs.size],s2.heap.objs.size<=b:=λb hb=>by
  rcases AY.mp hb with rfl| hb
  .exact Ki _
  .rw[B8.mp hb];exact AI _
 rcases q2 with⟨⟨xs,hq⟩,q⟩| ⟨⟨xs,hq⟩,q⟩
 .obtain⟨a5,rv,pl,hz⟩:=I2.list hq
  refine ACS (by simp[EJ];lia) pl.isList λh' he br hsz hk=>Kn he ?_;have I3:Inv X aI σ H2 {s2 with heap:=h'}:=I2.kept (t':=s2.toks) hk;exact⟨s2.heap.objs.size+1,[s2.heap.objs.size+1,s2.heap.objs.size],_,_,H2,ξ,I3,Tf c (O5 _),⟨⟨_,by rw[F8];exact he⟩,br⟩,λb hb=>I2.fpOk (fr b hb) (I2.hok.fresh (fr b hb)),q⟩
 .obtain⟨a5,rv,pl,hz⟩:=I2.tuple hq
  refine Zv (by simp[EJ];lia) pl λh' he br hsz hk=>Kn he ?_;have I3:Inv X aI σ H2 {s2 with heap:=h'}:=I2.kept (t':=s2.toks) hk;exact⟨s2.heap.objs.size+1,[s2.heap.objs.size+1,s2.heap.objs.size],_,_,H2,ξ,I3,Te c (O5 _),⟨⟨_,by rw[F8];exact he⟩,br⟩,λb hb=>I2.fpOk (fr b hb) (I2.hok.fresh (fr b hb)),q⟩
end
end L2
namespace K34s
open PySem L2 G
def AAe{c:Nat}{S:Hp->List V->Prop}{g:TG}{tb:TS}{D:Ends}(Pv:Nat->St->Hp->Prop)(h0:Pv 0 σ H)(hl:∀i σ H,i<=xs.length->Pv i σ H->S H xs)
  (hs:∀i x σ H T,xs[i]?=u8 x->H T=none->Pv i σ H->g (.ref T) σ (upd H T (.tup [.int ((i+c:Nat):Int),x])) λσ2 H2=>tb {D with nx:=Pv (i+1),ct:=Pv (i+1),bk:=D.nx} σ2 H2) (hd:∀σ H,Pv xs.length σ H->D.nx σ H) :
  ∃W:Nat->Nat->St->Hp->Prop,(∃m,W 0 m σ H)/\∀i m σ H,W i m σ H ->
   ((Iec c S).stop i H/\D.nx σ H)\/((Iec c S).go i H/\∃N:St->Hp->Prop,(∀σ' H',N σ' H'->∃m',m'<m/\W (i+1) m' σ' H')/\∀x H',(Iec c S).yld i H x H'->g x σ H' λσ2 H2=>tb {D with nx:=N,ct:=N,bk:=D.nx} σ2 H2):=by
 refine⟨λi m σ H=>m=xs.length-i/\i<=xs.length/\Pv i σ H,⟨xs.length,θ,Bz _,h0⟩,?_⟩;rintro i m σ H ⟨rfl,hi,p⟩;have q:=hl i σ H hi p;by_cases ce:i<xs.length
 .refine .inr ⟨⟨xs,xs[i],q,by simp[ce]⟩,Pv (i+1),λσ' H' p'=>⟨xs.length-(i+1),wL ce,ξ,ce,p'⟩,λv H' y=>?_⟩
  obtain⟨T,x,rfl,hT,rfl,y⟩:=y;exact hs i x σ H T (y xs q) hT p
 .have e:i=xs.length:=wB hi ce
  subst e;exact .inl ⟨⟨xs,q,ξ⟩,hd σ H p⟩
def AGM(K:As):Sp:=λvs H Q _=>∃(l:Addr) (k lo:Nat) (aE:List Row),vs=[.ref l,.int k,.int lo]/\RowsAt K H l aE/\Knot aE k/\2<=k/\Low aE (tieOf aE k) k lo/\Q .non H
def Yc(K:As)(C:Addr):Sp:=λvs H Q _=>∃(l:Addr) (n top:Nat) (aE:List Row),vs=[.int n,.ref l,.int top]/\rLst K (rRow K) H aE (.ref l)/\Ok n aE/\n<=12/\aE.length<=4100/\FewB aE top/\Knot aE top /\
 ∀(p:Addr) (aS:List Row) (hd:Nat) (H':Hp),Same H H'->SvAt K C H' p n aS hd->Canon n aS hd->(∀s,led aS hd s=led aE top s)->aS.length<=4000->Q (.ref p) H'
def AIA:FnScope zl4 zl4 (Af AHm):=fscp ψ
def AHS(F:Fun K "refuse_lower" "refuse_lower" AHm f fd):FnOk P w K mg base CX0 1 f fd zl4 (AGM K):=by
 refine F.ok AIA (λbt A outer s H vs Q E hr h=>?_);obtain⟨l,k,lo,aE,rfl,hL,kk,k2,lw,q⟩:=h;obtain⟨l1,l2⟩:=lw;refine⟨_,Ad (Bl (vW (Hl (Aq Hv (pv 2) Ae) (Fv (Aq Yw (pv 2) (pv 1))))) Br BJ)
  (Ah (Bl (vW (Sw (Aq Ma (pv 2) Ae) (Km (Aq AGR (Ax Ck (Ax Ck (pv 0) (Aw Ez (pv 2) Ae)) Ae) (Ax Ck (Ax Ck (pv 0) (Aw Ez (pv 1) Ae)) Ae))))) Br BJ)),?_⟩
 refine⟨_,ξ,_,_,ξ,ξ,_,ξ,?_⟩;refine iteN wm ?_;refine⟨_,ξ,_,ξ,_,_,ξ,ξ,_,ξ,?_⟩;refine iteN (yh l1) ?_;refine⟨_,ξ,_,_,ξ,ξ,_,ξ,?_⟩;by_cases c:(1:Int)<lo
 .refine iteP c ?_
  have kl:Knot aE lo:=by unfold Knot at *;exact vw l1 kk
  obtain⟨xs,p,hS,ha,hp⟩:=Io hL kl (y9 c);obtain⟨xs',p',cK,ha',qS⟩:=Io hL kk k2;refine⟨_,ξ,_,ξ,_,_,ξ,ξ,ixA hS ha (ixA hp at0 ⟨_,ξ,_,ξ,_,_,ξ,ξ,ixA cK ha' (ixA qS at0 ⟨_,_,ξ,ξ,_,ξ,?_⟩)⟩)⟩;refine iteN ?_ q;rcases l2 with h| ⟨r,e,z⟩
  ·lia
  .have er:aE.getD (lo-2) (0,0,0)=r:=by rw[AD,e];rfl
   rw[er];unfold tieOf at z;exact yh z
 .exact iteN c (iteF q)
def RB:FnScope ["n","rows","top","number","row"] zl21 (Af Xj):=fscp ψ
def ADj(F:Fun K "least_sieve" "least_sieve" Xj f fd)(T:Txt K mg C)
  (GA:Cal P w K mg base 1 fA dE "refuse_amount" ["n"] Qd)
  (GL:Cal P w K mg base 1 fL nv "refuse_lower" zl4 (AGM K))
  (GG:Cal P w K mg base 3 fG ng "least_graph" zl21 (Kv K C)) :
  FnOk P w K mg base CX0 4 f fd zl21 (Yc K C):=by
 refine F.ok RB (λbt A outer s H vs Q E hr h=>?_);obtain⟨l,n,top,aE,rfl,hL,ok,fF,r72,r60,kt,q⟩:=h;have bo:Room 1 _:=hr.mono ζ;refine⟨_,Ad (Ce (Ay GA bo rfl (Aa (pv 0) Ac)))
  (Ad (Dj DJ rfl (AAw rfl T.enum (Aa (pv 1) Ac) (AFM Ae AGk)) (Gv (K:=K) (n:=2) rfl rfl (Bt (Bg (i:=3) RB.nd) (Bt (Bg (i:=4) RB.nd) Er)))
   (Ad (Bl (vW (Hl (Aq Hv (Ax Ck (pv 4) Ae) Ae) (Fv (Aq Yw (Ax Ck (pv 4) Ae) (pv 0))))) Br BJ)
   (Ad (Ce (Ay GL bo rfl (Aa (pv 1) (Aa (pv 3) (Aa (Ax Ck (pv 4) Ae) Ac)))))
   (Ah (Ce (Ay GL bo rfl (Aa (pv 1) (Aa (pv 3) (Aa (Ax Ck (pv 4) Ae) Ac)))))))))
  (Ad (Bl (vW (Hl (Aq Hv (pv 2) Ae) (Fv (Aq Ma (pv 2) (Aw CQ (Az Av rfl T.len CC (Aa (pv 1) Ac)) Ae))))) Br BJ)
  (Ah (Ar (Ay GG hr rfl (Aa (pv 0) (Aa (pv 1) (Aa (pv 2) Ac)))))))),?_⟩
 refine⟨_,ξ,n,ξ,fF,?_⟩;have jS:=hL;have hL:RowsAt K H l aE:=RowsAt.of jS;obtain⟨l',xs,el,hz,px0⟩:=jS;cases el;have px:A9 (rRowA K H) aE xs:=vj (by rintro _ _ ⟨p,a,b⟩;exact⟨p,a,.inr b⟩) px0;have lx:aE.length=xs.length:=AT px;have hS:Sq K H l xs:=.inl hz
 .refine⟨_,ξ,l,2,ξ,ξ,ζ,.inl ⟨⟨xs,hz⟩,?_⟩⟩
  refine AAe (c:=2) (xs:=xs) (λi σ H2=>∃o3 o4:Option V,σ=[u8 (.int n),u8 (.ref l),u8 (.int top),o3,o4]/\Same H H2) ⟨u9,u9,ξ,vf _⟩ (by rintro i σ H2 _ ⟨_,_,_,sm⟩;exact sm.seq hz) ?_ ?_
  .rintro i x σ H2 T1 hx hT ⟨o3,o4,rfl,sm⟩
   obtain⟨r,hr,p,rfl,hp⟩:=Paired.get px hx;have s2:=sm.trans (vk hT (.tup [.int ((i+2:Nat):Int),.ref p]));obtain⟨t1,lo1,lo2⟩:=ok i r hr;have il:i<aE.length:=(AG.mp hr).1;have er:aE.getD (i+2-2) (0,0,0)=r:=by rw[CF,AD,hr];rfl
   have et:tieOf aE (i+2)=r.1:=by unfold tieOf;rw[er]
   have tK:=hL.same s2;have h8:=hp.same s2;refine⟨T1,_,ξ,ve Ab,ξ,_,_,ξ,_,_,ξ,ξ,?_⟩;refine⟨_,ξ,ixA h8 at0 ⟨_,_,ξ,ξ,_,ξ,?_⟩⟩;refine iteN wm ?_;refine⟨_,ξ,ixA h8 at0 ⟨_,ξ,_,_,ξ,ξ,_,ξ,?_⟩⟩;refine iteN (yh t1) ?_;refine⟨_,ξ,_,ξ,_,ξ,ixA h8 at1 ⟨l,i+2,r.2.1,aE,ξ,tK,by unfold Knot;exact wo il,fv,by rw[et];exact lo1,?_⟩⟩;refine⟨_,ξ,_,ξ,_,ξ,ixA h8 at2 ⟨l,i+2,r.2.2,aE,ξ,tK,by unfold Knot;exact wo il,fv,by rw[et];exact lo2,?_⟩⟩;exact⟨_,_,ξ,s2⟩
  .rintro σ H2 ⟨o3,o4,rfl,sm⟩
   refine⟨_,ξ,_,_,ξ,ξ,_,ξ,?_⟩;refine iteN wm ?_;refine⟨_,ξ,_,ξ,l,xs,ξ,hS.same sm,_,_,ξ,ξ,_,_,ξ,ξ,_,ξ,?_⟩;rw[<- lx];refine iteN (by unfold Knot at kt;lia) ?_;exact⟨_,ξ,_,ξ,_,ξ,l,n,top,aE,ξ,hL.same sm,ok,fF,r72,r60,kt,λp aS hd H' s' h1 h2 h3 h4=>q p aS hd H' (sm.trans s') h1 h2 h3 h4.1⟩
end K34s
namespace L2
open PySem PySem.Spec PyProof.Rows
open PySem.W
section
variable{p:Pos}
def AHt(C:Addr):TE:=λ_ H Q=>∀y dx,H y=none->H dx=none->dx≠y->Q (.ref y) (upd (upd H dx (.own y)) y (.ins C dx []))
def YT(mk:makesIn X.K C=true)(hi:findIn X.K (.ref C) "__init__" = u8 (u8 (.builtin "object.__init__")))(kp:keepIn X.K (.ref C)=true)(hg:Gl X x)(hm:X.mg x=u8 (.ref C))
  (j3:autoParam ((x==("__debug__" : Str))=false) zA1._auto_1):PE X (.Call (.Name x p) [] [] pos) (AHt C):=by
 intro aI s σ H Q I h;refine EB (La I hg hm ?_ j3);refine Sz I.kIn kp (OH ?_);have hq:=h (s.heap.objs.size+1) s.heap.objs.size (I.hok.fresh (Ki _)) (I.hok.fresh (AI _)) (BF (ER _));have I2:=Inv.made (C:=C) I;refine AAt I.kIn mk hi (λself=>W9 (oi_bind self)) ?_;have Y:=makes_of (M:=AN X.prog X.w) I.kIn mk;have e2:((s.heap.push EI).push (FI C s.heap.objs.size)).get? (s.heap.objs.size+1)=u8 (FI C s.heap.objs.size):=by
  have:=AQ (s.heap.push EI) (o:=FI C s.heap.objs.size) rfl
  rwa [DL] at this
 have t1:Looks (AN X.prog X.w) ((s.heap.push EI).push (FI C s.heap.objs.size)) (typeOf (.ref (s.heap.objs.size+1))) (.ref C):=(Y8 e2).andThen .now;have t2:Looks (AN X.prog X.w) ((s.heap.push EI).push (FI C s.heap.objs.size)) (Sb (.ref (s.heap.objs.size+1)) (.type "object")) true:=t1.andThen (Y.top.keeps λb o e=>AE _ (AE _ e));refine K2 oi_plain entry_oi (@check_slot (AN X.prog X.w) _ _ _ "object.__init__" "object" "__init__" (.ref (s.heap.objs.size+1)) [] [] _ oi_kind oi_split t2 (oi_args (.ref (s.heap.objs.size+1))) ?_);rw[oi_run];exact AC (And.intro rfl ⟨.ref (s.heap.objs.size+1),_,I2,rfl,hq⟩)
end
end L2
namespace NK
open PySem
section
variable{κ:Type}[DecidableEq κ](kd:KeyKind P w κ)
def IsP(g:Heap)(p:κ×List κ)(x:Addr):Prop:=∃ob a5 c v b,g.get? x=u8 ob/\ob.cls=.type "tuple"/\ob.data=.seq a5 c/\a5.toList=[v,.ref b]/\kd.is p.1 v=true/\VW kd g p.2 b
noncomputable def hashP(p:κ×List κ):Int:=Sc (LG [kd.hash p.1,M3 kd p.2])
variable{kd}
def IsP.ty{p:κ×List κ}{x:Addr}(h:IsP kd s.heap p x):s.TypeIs (.ref x) "tuple":=by
 obtain⟨ob,_,_,_,_,e,c,_⟩:=h;exact⟨ob,e,c⟩
def IsP.one{g:Heap}{p q:κ×List κ}{x:Addr}(h:IsP kd g p x)(h':IsP kd g q x):p=q:=by
 obtain⟨ob,a5,c,v,b,e,_,d,l,k,t⟩:=h;obtain⟨ob',its',c',v',b',e',_,d',l',k',t'⟩:=h';obtain rfl:ob=ob':=AM (e.symm.trans e');rw[d] at d';obtain⟨rfl,rfl⟩:a5=its'/\c=c':=by cases d';exact⟨ξ,ξ⟩
 rw[l] at l';injection l' with z1 z2
 injection z2 with z2 _
 injection z2 with z2
 subst z1;subst z2;exact K0 (kd.inj _ _ _ k k') (t.inj t')
def IsP.stays{g g':Heap}{p:κ×List κ}{x y:Addr}{es ep}(h:IsP kd g p x)(e:g.get? y=u8 ob)(d:ob.data=.dict es ep)(sb:ET y g g'):IsP kd g' p x:=by
 obtain⟨o1,a5,c,v,b,e1,c1,d1,l,k,t⟩:=h;have ne:x≠y:=λz=>by
  rw[z,e] at e1;cases e1;rw[d] at d1;cases d1
 exact⟨o1,a5,c,v,b,(sb.2 x ne).trans e1,c1,d1,l,k,t.keeps e d sb⟩
def AAG{p:κ×List κ}{x:Addr}{R:Int->AA->Prop}(hu:A.units+1<Cs)(h:IsP kd s.heap p x)(q:R (hashP kd p) {s with toks:=s.toks+(p.2.length+3)}):wpAny (AN P w) A (pyHash (.ref x)) R E s:=by
 have ty:=h.ty;obtain⟨ob,a5,c,v,b,e,_,d,l,k,t⟩:=h;unfold pyHash
 first| unfold pyHashByItsType| skip
 first| refine Ap (wpAny_cRoomFor_or (.inr (vp hu)) ?_)| skip
 refine Ap (FK ty J0.lookup ?_);show wpAny _ _ (if(u8 (Value.builtin "tuple.__hash__")==u8 Db)=true then _ else _) _ _ _;rw[vA (by rw[U8];exact BE)];refine Ap (FK ty J0.lookup ?_);show wpAny _ _ (callSpecialIfBoundUnlessNone? (.ref x) "__hash__" _ >>= _) _ _ _;refine Ap (wpAny_callSpecialIfBoundUnlessNone?_slot ty J0 (DM J0 ty PySem.F.entry_tuple_hash ?_ (PySem.F.args_tuple_hash_1 _)));show wpAny _ _ (N6 (.ref x) >>= _) _ _ _;refine Ap (N2 e d (Ap ?_));rw[<- J7,l];refine FV _ (λbg (z:Array Int) s'=>(bg=[v,.ref b]/\z=#[]/\s'=s)\/(bg=[.ref b]/\z=#[kd.hash p.1]/\s'={s with toks:=s.toks+1})\/(bg=[]/\z=#[kd.hash p.1,M3 kd p.2]/\s'={s with toks:=s.toks+1+(p.2.length+1)}))
  _ ?_ ?_ _ _ (.inl ⟨ξ,ξ,ξ⟩)
 .rintro y bg z s' (⟨er,rfl,rfl⟩| ⟨er,rfl,rfl⟩| ⟨er,_⟩)
  .cases er
   refine Ap (kd.pyHash k ?_)
   first
    | exact AC (.inr (.inl ⟨rfl,rfl,rfl⟩))
    | exact Ap (AC (AC (.inr (.inl ⟨rfl,rfl,rfl⟩))))
  .cases er
   refine Ap (To (by show A.units+1<Cs;exact hu) t ?_)
   first
    | exact AC (.inr (.inr ⟨rfl,rfl,rfl⟩))
    | exact Ap (AC (AC (.inr (.inr ⟨rfl,rfl,rfl⟩))))
  .cases er
 .rintro z s' (⟨er,_⟩| ⟨er,_⟩| ⟨_,rfl,rfl⟩)
  .cases er
  .cases er
  .have et:{s with toks:=s.toks+1+(p.2.length+1)+1}={s with toks:=s.toks+(p.2.length+3)}:=by
    congr 1
    lia
   show wpAny _ _ (retInt (LG [kd.hash p.1,M3 kd p.2])) _ _ _;refine VT ?_;unfold hashP Sc at q;generalize LG [kd.hash p.1,M3 kd p.2]=hv at q;show wpAny _ _ (if(decide (-(2:Int) ^ 63<=hv)&&decide (hv<2 ^ 63))=true then _ else _) _ _ _;by_cases c0:(decide (-(2:Int) ^ 63<=hv)&&decide (hv<2 ^ 63))=true
   .rw[vB c0] at q ⊢
    refine AC ?_;rw[<- et] at q;exact q
   .rw[vA c0] at q ⊢
    refine Ap (IH (AC ?_));rw[<- et] at q;exact q
def AFT{p q:κ×List κ}{x y:Addr}{R:Fin->AA->Prop}(hu:A.units<Cs)(h:IsP kd s.heap p x)(h':IsP kd s.heap q y)(r:R (.done (.ret (.bool (decide (p=q))))) s) :
  wpAny (AN P w) A (Builtin.«tuple.__eq__» ⟨[.ref x,.ref y],[]⟩) R E s:=by
 have ty:=h'.ty;obtain⟨o1,i1,c1,v1,b1,e1,_,d1,l1,k1,t1⟩:=h;obtain⟨o2,i2,c2,v2,b2,e2,_,d2,l2,k2,t2⟩:=h';show wpAny _ _ (Sb (.ref y) (.type "tuple") >>= _) _ _ _;refine Ap (Hm ty MG ?_);simp only[FU,BY,if_false];refine Ap (N2 e1 d1 (Ap (N2 e2 d2 (Ap ?_))));have sz:(i1.size==i2.size)=true:=by
  have z1:i1.size=2:=by rw[<- AZ,l1];rfl
  have z2:i2.size=2:=by rw[<- AZ,l2];rfl
  rw[z1,z2];rfl
 rw[l1,l2];refine FV _ (λbg z s'=>z.1=u9/\s'=s/\(bg=[(v1,v2),(.ref b1,.ref b2)]\/(bg=[(.ref b1,.ref b2)]/\p.1=q.1)\/(bg=[]/\p=q))) _ ?_ ?_ _ _ ⟨ξ,ξ,.inl rfl⟩
 .rintro⟨u,v⟩ bg z s' ⟨hz,rfl,er| ⟨er,pq⟩| ⟨er,_⟩⟩
  .cases er
   refine Ap (kd.eqBool (a:=p.1) (b:=q.1) k1 k2 ?_);by_cases c:p.1=q.1
   .rw[vC c]
    simp only[FU,BY,if_false];exact AC ⟨ξ,ξ,.inr (.inl ⟨trivial,c⟩)⟩
   .rw[vD c]
    simp only[WJ,if_true];rw[vD (λz=>c (by rw[z]))] at r;exact Ap (AC (AC (AC r)))
  .cases er
   refine Ap (Tl hu t1 t2 ?_);by_cases c:p.2=q.2
   .rw[vC c]
    simp only[FU,BY,if_false];exact AC ⟨ξ,ξ,.inr (.inr ⟨trivial,K0 pq c⟩)⟩
   .rw[vD c]
    simp only[WJ,if_true];rw[vD (λz=>c (by rw[z]))] at r;exact Ap (AC (AC (AC r)))
  .cases er
 .rintro⟨z1,z2⟩ s' ⟨hz,rfl,er| ⟨er,_⟩| ⟨_,pq⟩⟩
  .cases er
  .cases er
  .dsimp only at hz
   subst hz;refine AC ?_;rw[vC pq] at r;show R (.done (.ret (.bool (i1.size==i2.size)))) s';rw[sz];exact r
def AFN{p q:κ×List κ}{x y:Addr}{R:vK}(hu:A.units+1<Cs)(h:IsP kd s.heap p x)(h':IsP kd s.heap q y)(r:R (decide (p=q)) s):wpAny (AN P w) A (eqBool (.ref x) (.ref y)) R E s:=by
 unfold eqBool
 try with_reducible refine Dx ?_
 show wpAny _ _ (if(A7 x==A7 y)=true then _ else _) _ _ _;by_cases c:(A7 x==A7 y)=true
 .rw[vB c]
  obtain rfl:x=y:=by have z:=eq_of_beq c;injection z
  obtain rfl:=h.one h';rw[vC rfl] at r;exact Ap (IH (AC r))
 .rw[vA c]
  refine Ap (wpAny_richCompare_same_room (op:=.Eq) h.ty h'.ty KM (DM KM h.ty PySem.F.entry_tuple_eq (AFT ?_ h h' ⟨_,ξ,(λe=>nomatch e),FE r⟩) (PySem.F.args_tuple_eq_2 _ _)) (vp hu));show A.units+1<Cs;exact hu
def Tt{ks:List κ}{x:Addr}{R:vK}(h:VW kd s.heap ks x)(r:R true s):wpAny (AN P w) A (Tx (n+1) (.ref x)) R E s:=by
 have ty:=h.typeIs;obtain⟨ob,a5,c,e,_,d,ia⟩:=h;unfold Tx;refine Ap (FK ty KM.lookup ?_);show wpAny _ _ (Sb (.ref x) (.type "tuple") >>= _) _ _ _;refine Ap (Hm ty MG ?_);simp only[FU,BY,if_false];refine Ap (IQ e d (Ap ?_));show wpAny _ _ (forIn a5 _ _) _ _ _;rw[<- J7];refine FV _ (λbg z s'=>z.1=u9/\s'=s/\∀v∈bg,WF v=true) _ (λv bg z s' ⟨hz,es,al⟩=>?_) (λz s' ⟨hz,es,_⟩=>?_) _ _ ⟨ξ,ξ,ia.byValue⟩
 .subst es
  rw[T7 _ (al v AF)];refine Ap (AC ?_);simp only[FU,BY,if_false];exact AC ⟨ξ,ξ,λu h=>al u (AJ _ h)⟩
 .subst es
  obtain⟨z1,z2⟩:=z;dsimp only at hz;subst hz;exact AC r
def XS{p:κ×List κ}{x:Addr}{R:vK}(h:IsP kd s.heap p x)(r:R true s):wpAny (AN P w) A (Tx 8 (.ref x)) R E s:=by
 have ty:=h.ty;obtain⟨ob,a5,c,v,b,e,_,d,l,k,t⟩:=h;unfold Tx;refine Ap (FK ty KM.lookup ?_);show wpAny _ _ (Sb (.ref x) (.type "tuple") >>= _) _ _ _;refine Ap (Hm ty MG ?_);simp only[FU,BY,if_false];refine Ap (IQ e d (Ap ?_));show wpAny _ _ (forIn a5 _ _) _ _ _;rw[<- J7,l];refine FV _ (λbg z s'=>z.1=u9/\s'=s/\(bg=[v,.ref b]\/bg=[.ref b]\/bg=[])) _ (λu bg z s' ⟨hz,es,er⟩=>?_) (λz s' ⟨hz,es,_⟩=>?_) _ _ ⟨ξ,ξ,.inl rfl⟩
 .subst es
  rcases er with er| er| er
  .cases er
   rw[T7 _ (kd.byValue _ _ k)];refine Ap (AC ?_);simp only[FU,BY,if_false];exact AC ⟨ξ,ξ,.inr (.inl trivial)⟩
  .cases er
   refine Ap (Tt t ?_);simp only[FU,BY,if_false];exact AC ⟨ξ,ξ,.inr (.inr trivial)⟩
  .cases er
 .subst es
  obtain⟨z1,z2⟩:=z;dsimp only at hz;subst hz;exact AC r
end
noncomputable def Ek{P:AL}{w:AR}{κ:Type}[DecidableEq κ](kd:KeyKind P w κ):HeapKind P w (κ×List κ) where
 is:=IsP kd
 hash:=hashP kd
 draws:=λp=>p.2.length+3
 room:=λA=>A.units+1<Cs
 inj:=λa b=>a.one b
 keeps:=λa b c d=>a.stays b c d
 pyHash:=λa b c=>AAG a b c
 eqBool:=λa b c d=>AFN a b c d
 quiet:=λa b=>XS a b
noncomputable def oIs:Option Int->Au->Bool
 | some i,v=>NI i v
 | none,v=>match v with
  | .none=>true
  | _=>false
noncomputable def oHash:Option Int->Int
 | some i=>hashInt i
 | none=>Sc 0xFCA86420
theorem Cr:∀{k:Option Int}{v:Au},oIs k v=true->(∃i t,k=u8 i/\v=NJ i t)\/(k=u9/\v=Db)
 | some i,v,h=>by
  obtain⟨t,e⟩:=G9 (k:=i) (v:=v) h;exact .inl ⟨i,t,ξ,e⟩
 | none,v,h=>by
  cases v<;>first| exact .inr ⟨rfl,rfl⟩| cases h
def hash_none{Q:Int->AA->Prop}(h:Q (Sc 0xFCA86420) {s with toks:=s.toks+1}):wpAny (AN P w) A (pyHash .none) Q E s :=
 PySem.W.pyHash_slot (T:="NoneType") rfl PySem.F.slot_NoneType_hash PySem.F.entry_NoneType_hash (PySem.F.args_NoneType_hash_1 _) (U8 _) (.inl rfl) (Ap (AC (Ap (wpAny_mkInt (AC ⟨_,_,ξ,h⟩)))))
noncomputable def optKind(P:AL)(w:AR):KeyKind P w (Option Int) where
 is:=oIs
 hash:=oHash
 inj:=λv a b ha hb=>by
  rcases Cr ha with⟨i,t,rfl,rfl⟩| ⟨rfl,rfl⟩
  .rcases Cr hb with⟨j,u,rfl,e⟩| ⟨rfl,e⟩
   .injection e with e1 _;rw[e1]
   .cases e
  .rcases Cr hb with⟨j,u,rfl,e⟩| ⟨rfl,e⟩
   .cases e
   .rfl
 byValue:=λk v h=>by
  rcases Cr h with⟨i,t,rfl,rfl⟩| ⟨rfl,rfl⟩<;>rfl
 pyHash:=λhv h=>by
  rcases Cr hv with⟨i,t,rfl,rfl⟩| ⟨rfl,rfl⟩
  .exact UO h
  .exact hash_none h
 eqBool:=λhu hv h=>by
  rcases Cr hu with⟨i,t,rfl,rfl⟩| ⟨rfl,rfl⟩
  .rcases Cr hv with⟨j,u,rfl,rfl⟩| ⟨rfl,rfl⟩
   .have e:decide ((u8 i:Option Int)=u8 j)=(i==j):=by
     by_cases c:i=j
     .subst c;simp
     .rw[vD (λz=>c (AM z))]
      exact(beq_eq_false_iff_ne.mpr c).symm
    rw[e] at h;exact UP h
   .exact M7 i t _ _ _ _ h
  .rcases Cr hv with⟨j,u,rfl,rfl⟩| ⟨rfl,rfl⟩
   .exact M6 j u _ _ _ _ h
   .exact LD .none _ _ _ _ h
 «strs»:=λk x t v h=>by
  rcases Cr h with⟨i,u,rfl,e⟩| ⟨rfl,e⟩
  .cases e
  .cases e
end NK
namespace L2
open PySem
noncomputable def oV:Option Int->V
 | some i=>.int i
 | none=>.non
def AGV{k:Option Int}(r:RelV (oV k) u):(NK.optKind P w).is k u=true:=by
 cases k with
 | some i =>
  obtain⟨t,rfl⟩:=r;show NI i (.int i t)=true;simp[NI]
 | none =>
  cases r;rfl
theorem oV_items{P:AL}{w:AR}:∀{ks:List (Option Int)}{us:vO},Vals (ks.map oV) us->ItemsAre (NK.optKind P w) ks us
 | [],_,r=>by rw[LJ] at r;cases r;exact .nil
 | k::ks,_,r=>by
  rw[BO] at r;cases r with
  | cons h t=>exact .cons (AGV h) (oV_items t)
abbrev OKey:=Option Int×List (Option Int)
noncomputable def dO(P:AL)(w:AR)(a:Addr)(xs:List (OKey×Addr×Au)):HO:=.ext λg=>∃o es ep,g.get? a=u8 o/\o.ExactDict/\o.data=.dict es ep/\es.toList=xs.map (entryOfKey (NK.Ek (NK.optKind P w)))/\(xs.map (·.1)).Nodup
def OAt(K:As)(H:Hp)(p:OKey)(x:Addr):Prop:=∃b,H x=u8 (.tup [oV p.1,.ref b])/\SqT K H b (p.2.map oV)
def OAt.ts{p:OKey}{x:Addr}(h:OAt K H p x)(t:TSm H H'):OAt K H' p x:=by obtain⟨b,e1,e2⟩:=h;exact⟨b,t _ _ e1 ⟨_,.inl rfl⟩,t.seq e2⟩
abbrev KO(K:As)(H:Hp):List (OKey×V)->List (OKey×Addr×Au)->Prop:=A9 λp q=>p.1=q.1/\OAt K H p.1 q.2.1/\RelV p.2 q.2.2
def DO(K:As)(P:AL)(w:AR)(H:Hp)(a:Addr)(aT:List (OKey×V)):Prop:=aT.length<=sizeLine/\(a==EA)=false/\∃xs,H a=u8 (dO P w a xs)/\KO K H aT xs
def DO.keep{aT:List (OKey×V)}(h:DO K P w H a aT)(e:∀o,H a=u8 o->H' a=u8 o)(t:TSm H H'):DO K P w H' a aT:=by
 obtain⟨z,y,xs,e1,r⟩:=h;exact⟨z,y,xs,e _ e1,vj (λ_ _ q=>⟨q.1,q.2.1.ts t,q.2.2⟩) r⟩
def KO.val{aT:List (OKey×V)}{xs:List (OKey×Addr×Au)}(r:KO K H aT xs)(k:OKey):RelO (valV aT k) ((J4 xs k).map (·.2)):=by
 induction r with
 | nil=>exact IE
 | @cons p q ps qs h t ih =>
  by_cases e:p.1=k
  .have b:J4 (q::qs) k=u8 q.2:=by simp[J4,G3,h.1.symm.trans e]
   rw[CV e,b];exact h.2.2
  .have b:J4 (q::qs) k=J4 qs k:=by simp[J4,G3,show ¬ q.1=k from λz=>e (h.1.trans z)]
   rw[CW e,b];exact ih
def KO.put{aT:List (OKey×V)}{xs:List (OKey×Addr×Au)}(r:KO K H aT xs){k:OKey}(hb:OAt K H k b)(ry:RelV y u)(new:valV aT k=u9):KO K H (putK aT k y) (TH xs k b u):=by
 have e:J4 xs k=u9:=by
  have z:=(r.val k).isSome_eq;rw[new,L3] at z;cases g:J4 xs k with
  | none=>rfl
  | some q=>rw[g] at z;cases z
 rw[JQ y new,storedH_new e];exact UI r ⟨ξ,hb,ry⟩
def JM{p:OKey}{x:Addr}(I:Inv X aI σ H s)(e:OAt X.K H p x):(NK.Ek (NK.optKind X.prog X.w)).is s.heap p x:=by
 obtain⟨b,e1,e2⟩:=e;obtain⟨_,a5,r,o,h1,h2,n,h3⟩:=(show ObjOk X.prog X.w H s.heap x (.tup [oV p.1,.ref b]) from I.hok x _ e1);obtain⟨us,ru,⟨o2,g1,g2,n2,g3⟩,_⟩:=I.tuple e2;cases r with
 | @cons _ v _ _ r1 r =>
  cases r with
  | @cons _ v2 _ _ r2 r =>
   cases r;cases r2;exact⟨o,_,n,v,b,h1,h2,h3,ξ,AGV r1,o2,us.toArray,n2,g1,g2,g3,by simpa using oV_items ru⟩
def Ym{aT:List (OKey×V)}(I:Inv X aI σ H s)(d:DO X.K X.prog X.w H a aT):aT.length<=sizeLine/\(a==EA)=false/\∃xs,H a=u8 (dO X.prog X.w a xs)/\KO X.K H aT xs/\s.heap.DictOfH (NK.Ek (NK.optKind X.prog X.w)) a xs:=by
 obtain⟨z,y,xs,e,r⟩:=d;obtain⟨⟨o,es,ep,h1,h2,h3,h4,h5⟩,_⟩:=(show ObjOk X.prog X.w H s.heap a (dO X.prog X.w a xs) from I.hok a _ e);refine⟨z,y,xs,e,r,o,es,ep,h1,h2,h3,h4,λx hx=>?_,h5⟩;obtain⟨i,hi⟩:=DD.mp hx;obtain⟨p,_,e1,e2,_⟩:=Paired.get r hi;rw[<- e1];exact JM I e2
def ADn{xs:List (OKey×Addr×Au)}(d:h.DictOfH (NK.Ek (NK.optKind P w)) a xs):ObjOk P w H' h a (dO P w a xs):=by
 obtain⟨o,es,ep,h1,h2,h3,h4,_,h5⟩:=d;refine⟨⟨o,es,ep,h1,h2,h3,h4,h5⟩,⟨o,h1⟩,by rintro g1 g2 ⟨o',cr,ky,z1,z2⟩ st;exact⟨o',cr,ky,st _ z1,z2⟩⟩
def OGet(K:As)(P:AL)(w:AR)(H:Hp)(a:Addr)(y:V)(r:Option V):Prop:=∃aT p x,DO K P w H a aT/\y=.ref x/\OAt K H p x/\valV aT p=r
def AHO{r:Option V}(I:Inv X aI σ H s)(g:OGet X.K X.prog X.w H a y r):s.TypeIs (.ref a) "dict":=by
 obtain⟨aT,p,x,d,_⟩:=g;obtain⟨_,_,xs,_,_,dd⟩:=Ym I d;exact dd.typeIs
def ABR(hu:A.units+2<Cs)(I:Inv X aI σ H s)(g:OGet X.K X.prog X.w H a y (u8 v))(ry:RelV y u)(q:∀w' s',Inv X aI σ H s'->RelV v w'->Q w' s'):wpAny (AN X.prog X.w) A (MC (.ref a) u) Q E s:=by
 obtain⟨aT,p,x,d,rfl,k,l⟩:=g;cases (show u=A7 x from ry);obtain⟨z,hd,xs,e,cE,dd⟩:=Ym I d;obtain⟨w',hw,eC⟩:=vX (v:=v) (o:=(J4 xs p).map (·.2)) (by rw[<- l];exact cE.val p);obtain⟨pv,hp,h8⟩:=QI.mp hw;refine S7 (knd:=NK.Ek (NK.optKind X.prog X.w)) (k:=p) (by show A.units+1+1<Cs;exact xg hu) (JM I k) dd hp ?_;rw[h8];exact q w' _ (I.tok _) eC
def AFq{r:Option V}(hu:A.units+2<Cs)(I:Inv X aI σ H s)(g:OGet X.K X.prog X.w H a y r)(ry:RelV y u)(q:∀s',Inv X aI σ H s'->Q (.bool (!r.isSome)) s'):wpAny (AN X.prog X.w) A (DS .NotIn u (.ref a)) Q E s:=by
 obtain⟨aT,p,x,d,rfl,k,l⟩:=g;cases (show u=A7 x from ry);obtain⟨z,hd,xs,e,cE,dd⟩:=Ym I d;refine V5 (knd:=NK.Ek (NK.optKind X.prog X.w)) (k:=p) (by show A.units+1+1<Cs;exact xg hu) (JM I k) hd dd ?_;have c:=(cE.val p).isSome_eq;rw[L3] at c;rw[<- c,l];exact q _ (I.tok _)
def AAh{r:Au}{aT:List (OKey×V)}{p:OKey}{x:Addr}{Q:vL}(hu:A.units+2<Cs)(I:Inv X aI σ H s)(d:DO X.K X.prog X.w H a aT)(ey:y=.ref x)(k:OAt X.K H p x)(new:valV aT p=u9)(hl:aT.length<sizeLine)(ry:RelV y u)(rv:RelV v r)
  (q:∀(H':Hp) s',(∀b,b≠a->H' b=H b)->DO X.K X.prog X.w H' a (putK aT p v)->Inv X aI σ H' s'->Q () s'):wpAny (AN X.prog X.w) A (V8 (.ref a) u r) Q E s:=by
 subst ey;cases (show u=A7 x from ry);obtain⟨z,hd,xs,e,cE,dd⟩:=Ym I d;have hz:xs.length<=sizeLine:=by rw[<- AT cE];exact z
 refine S8 (hsz:=hz) (knd:=NK.Ek (NK.optKind X.prog X.w)) (k:=p) (by show A.units+1+1<Cs;exact xg hu) (JM I k) dd λh' md hs=>?_;have he:∃o,h'.get? a=u8 o:=by obtain⟨o,_,_,ho,_⟩:=md;exact⟨o,ho⟩
 have tE:TSm H (upd H a (dO X.prog X.w a (TH xs p x r))):=λb u hb t=>by
  rw[Ag (λz=>by
   rw[z,e] at hb;cases hb;obtain⟨ys,e| ⟨o,e⟩⟩:=t
   .cases e
   .cases e)]
  exact hb
 refine q (upd H a (dO X.prog X.w a (TH xs p x r))) _ (λb hb=>Ag hb) ⟨?_,hd,_,Ab,vj (λ_ _ c=>⟨c.1,c.2.1.ts tE,c.2.2⟩) (KO.put cE k rv new)⟩ (Kh I (by rw[e];exact IE) hs he (ADn md));rw[JQ v new,A2,DC];exact hl
def AHK(K:As)(P:AL)(w:AR):TE:=λ_ H Q=>∀p,H p=none->DO K P w (upd H p (dO P w p [])) p []->Q (.ref p) (upd H p (dO P w p []))
def AHv(K:As)(P:AL)(w:AR)(td ty:TE):TE:=λσ H Q=>td σ H λx H1=>ty σ H1 λy H2=>∃a v,x=.ref a/\OGet K P w H2 a y (u8 v)/\Q v H2
def AFZ(K:As)(P:AL)(w:AR)(ty td:TE):TE:=λσ H Q=>ty σ H λy H1=>td σ H1 λx H2=>∃a r,x=.ref a/\OGet K P w H2 a y r/\Q (.bl (!r.isSome)) H2
def AIi(K:As)(P:AL)(w:AR)(td ty tv:TE):TS:=λD σ H=>tv σ H λv H1=>td σ H1 λx H2=>ty σ H2 λy H3=>∃a aT p b,x=.ref a/\y=.ref b/\DO K P w H3 a aT/\OAt K H3 p b/\valV aT p=u9/\aT.length<sizeLine /\
 ∀H4,(∀c,c≠a->H4 c=H3 c)->DO K P w H4 a (putK aT p v)->D.nx σ H4
section
variable{o i:Expr}{ty:TE}
def ADX:PE X (.Dict [] [] pos) (AHK X.K X.prog X.w):=λaI s σ H Q I h=>by
 have hn:=I.hok.fresh (AI s.heap.objs.size);have ns:(s.heap.objs.size==EA)=false:=beq_eq_false_iff_ne.mpr (BU (BF I.big));refine wpAny_Dict_empty ⟨.ref s.heap.objs.size,_,I.laid (a:=s.heap.objs.size) (o:=dO X.prog X.w s.heap.objs.size []) (t':=s.toks) (λ_ _ q=>AE _ q) (AI _) (ADn (aw _)),ξ,h _ hn ⟨Bz _,ns,[],Ab,.nil⟩⟩
def AFR(hu:X.A.units+2<Cs)(ho:PE X o td)(hi:PE X i ty)(hs:NoSl i):PE X (.Subscript o i pos) (AHv X.K X.prog X.w td ty):=by
 intro aI s σ H Q I h;refine ZW OK.lookup hs (thn (ho aI s σ H _ I h) λu s1 ⟨x,H1,I1,rx,q1⟩=>thn (hi aI s1 σ H1 _ I1 q1) λiv s2 hq=>?_);obtain⟨y,H2,I2,ry,a,v,ex,g,q2⟩:=hq;subst ex;obtain rfl:u=A7 a:=rx;exact⟨AHO I2 g,ABR hu I2 g ry λw' s3 I3 eC=>⟨v,H2,I3,eC,q2⟩⟩
def ABU(hu:X.A.units+2<Cs)(hi:PE X i ty)(ho:PE X o td):PC X .NotIn i o (AFZ X.K X.prog X.w ty td):=by
 intro aI s σ H Q I h;refine thn (hi aI s σ H _ I h) λiv s1 ⟨y,H1,I1,ry,q1⟩=>thn (ho aI s1 σ H1 _ I1 q1) λu s2 hq=>?_;obtain⟨x,H2,I2,rx,a,r,ex,g,q2⟩:=hq;subst ex;obtain rfl:u=A7 a:=rx;exact AFq hu I2 g ry λs3 I3=>⟨.bl (!r.isSome),H2,I3,ξ,q2⟩
def AFY(hu:X.A.units+2<Cs)(ho:PE X o td)(hi:PE X i ty)(hv:PE X bn tv)(hs:MA bn (u8 (.Subscript o i bX)) pos.line X.env=pure false):PS X (.Assign [.Subscript o i bX] bn pos) (AIi X.K X.prog X.w td ty tv):=by
 intro aI s σ H D I h;refine QN (thn (hv aI s σ H _ I h) λr s1 ⟨v,H1,I1,rv,q1⟩=>thn (ho aI s1 σ H1 _ I1 q1) λu s2 ⟨x,H2,I2,rx,q2⟩=>thn (hi aI s2 σ H2 _ I2 q2) λiv s3 hq=>?_) hs;obtain⟨y,H3,I3,ry,a,aT,p,b,ex,ey,d,k,new,hl,q3⟩:=hq;subst ex;obtain rfl:u=A7 a:=rx;exact AAh hu I3 d ey k new hl ry rv λH4 s4 rJ d4 I4=>⟨σ,H4,I4,q3 H4 rJ d4⟩
end
end L2
namespace K34
open PySem L2
noncomputable def top(i:Nat):Stmt:=IC.main.body.getD i (.Pass ⟨0,0,0,0⟩)
abbrev MJ:Stmt:=inClass (top 31) 0
abbrev ADo:Stmt:=inClass (top 31) 1
abbrev ABm:Stmt:=inClass (top 31) 2
abbrev sAt:Stmt:=inClass (top 31) 3
abbrev AHl:Stmt:=top 32
abbrev AGi:Stmt:=top 33
abbrev AHL:Stmt:=top 34
abbrev Xz:Stmt:=top 25
abbrev Kf:Stmt:=top 27
abbrev RZ:Stmt:=inClass (top 26) 0
abbrev Lb:Stmt:=inClass (top 26) 1
abbrev ABv:Stmt:=inClass (top 26) 2
abbrev Vd:Stmt:=inClass (top 44) 3
abbrev Rp:Stmt:=inClass (top 47) 0
abbrev Lx:Stmt:=inClass (top 47) 1
abbrev Fi:Stmt:=inClass (top 47) 2
abbrev Za:Stmt:=inClass (top 47) 3
abbrev WQ:Stmt:=inClass (top 50) 1
abbrev Gs:Stmt:=inClass (top 47) 4
abbrev ADQ:Stmt:=inClass (top 47) 5
abbrev Ws:Stmt:=inClass (top 48) 0
abbrev RL:Stmt:=inClass (top 48) 2
abbrev TF:Stmt:=inClass (top 48) 3
abbrev ABt:Stmt:=top 51
abbrev RM:Stmt:=top 42
abbrev ACY:Stmt:=top 55
abbrev AGr:Stmt:=top 56
abbrev Qu:Stmt:=top 57
abbrev ABs:Stmt:=top 58
abbrev ABf:Stmt:=top 59
abbrev AEv:Stmt:=top 60
abbrev AEQ:Stmt:=top 61
abbrev ABY:Stmt:=top 62
abbrev Mt:Stmt:=top 63
abbrev ACi:Stmt:=top 64
def ja:¬ (("amount" : Str) = "joints"):=ψ
noncomputable def flds(z:Int)(j:Addr):List (Str×V):=putF "joints" (.ref j) (putF "amount" (.int z) [])
def Ga(z:Int)(j:Addr):(flds z j).lookup ("amount" : Str)=u8 (.int z):=by
 unfold flds;rw[Aj,vA ja,Aj,vB rfl]
def KR(z:Int)(j:Addr):(flds z j).lookup ("joints" : Str)=u8 (.ref j):=by
 unfold flds;rw[Aj,vB rfl]
def AEb(z:Int)(j:Addr){m:Str}(h1:¬ m = "joints")(h2:¬ m = "amount"):(flds z j).lookup m=u9:=by
 unfold flds;rw[Aj,vA h1,Aj,vA h2]
 all_goals rfl
structure Txt(K:As)(mg:vM)(C:Addr):Prop where
 cl:Cls K C
 nA:NoAttr K C "amount"
 nJ:NoAttr K C "joints"
 mgC:mg "Web" = u8 (.ref C)
 mp:∃t,mg "MOST_POINTS" = u8 (.int 10 t)
 mt:∃t,mg "MOST_TIES_webs" = u8 (.int 12 t)
 len:mg "len" = u9
 range:mg "range" = u9
 int:mg "int" = u9
 max:mg "max" = u9
 min:mg "min" = u9
 sorted:mg "sorted" = u9
 tuple:mg "tuple" = u9
 list:mg "list" = u9
 bool:mg "bool" = u9
 enum:mg "enumerate" = u9
 isi:mg "isinstance" = u9
def WebAt(K:As)(C:Addr)(H:Hp)(p:Addr)(z:Int)(as:vH):Prop:=∃dx j,H p=u8 (.ins C dx (flds z j))/\rTup K (rPair K) H as (.ref j)
def WebAt.same{z:Int}(h:WebAt K C H p z as)(e:Same H H'):WebAt K C H' p z as:=by
 obtain⟨dx,j,h1,h2⟩:=h;exact⟨dx,j,e _ _ h1,Ak (Ak Am) _ _ _ _ e.ts h2⟩
def ADY(K:As):Sp:=λvs H Q _=>∃(a:Addr) (ns:vG) (k:Int),vs=[.ref a,.int k]/\SqL K H a (ns.map V.int)/\0<=k/\∀c:Int,Q (.int c) H
def Qd:Sp:=λvs H Q _=>∃(p t:Int),vs=[.int p,.int t]/\1<=p/\p<=10/\0<=t/\t<=12/\Q .non H
def AGO(K:As):Sp:=λvs H Q _=>∃(m a b:Int) (t:Addr),vs=[.int m,.ref t]/\SqT K H t [.int a,.int b]/\0<=a/\a<b/\b<m/\Q .non H
def AGK(K:As):Sp:=λvs H Q _=>∃(m:Int) (l:Addr) (xs:List V) (as:vH),vs=[.int m,.ref l]/\SqL K H l xs/\A9 (rSeq K H) as xs/\OkTies m as/\as.length<=12 /\
 ∀(j:Addr) (H':Hp),Same H H'->rTup K (rPair K) H' (as.map srt) (.ref j)->Q (.ref j) H'
def JW(K:As)(C:Addr):Sp:=λvs H Q _=>∃(p dx l:Addr) (m:Int) (xs:List V) (as:vH),vs=[.ref p,.int m,.ref l]/\H p=u8 (.ins C dx [])/\SqL K H l xs/\A9 (rSeq K H) as xs/\OkTies m as/\as.length<=12/\1<=m/\m<=10 /\
 ∀(H':Hp),(∀b o,H b=u8 o->b≠p->H' b=u8 o)->WebAt K C H' p m (as.map srt)->Q .non H'
def Jb(K:As)(C:Addr):Sp:=λvs H Q _=>∃(p:Addr) (m:Int) (as:vH),vs=[.ref p]/\WebAt K C H p m as/\Q (.int m) H
def RW(K:As)(C:Addr):Sp:=λvs H Q _=>∃(p:Addr) (m:Int) (as:vH),vs=[.ref p]/\WebAt K C H p m as/\∀(l:Addr) (H':Hp),Same H H'->H l=none->rLst K (rPair K) H' as (.ref l)->Q (.ref l) H'
def AId(K:As)(C:Addr):Sp:=λvs H Q _=>∃(p:Addr) (m x:Int) (as:vH),vs=[.ref p,.int x]/\WebAt K C H p m as/\as.length<=12 /\
 ∀(l:Addr) (H':Hp),Same H H'->H l=none->H' l=u8 (.lst ((hits x as).map V.int))->Q (.ref l) H'
def Tg(K:As):Sp:=λvs H Q _=>∃(a:Addr) (ns:vG),vs=[.ref a]/\SqL K H a (ns.map V.int)/\ns.length<=63/\∀H',Q (.bl true) H'
def ABh:FnScope zl5 zl5 (Af AHl):=fscp ψ
def Xn(F:Fun K "refuse_amounts" "refuse_amounts" AHl f fd)(T:Txt K mg C):FnOk P w K mg base CX0 1 f fd zl5 Qd:=by
 refine F.ok ABh (λbt A outer s H vs Q E hr h=>?_);obtain⟨p,t,rfl,h1,h2,h3,h4,q⟩:=h;obtain⟨t1,e1⟩:=T.mp;obtain⟨t2,e2⟩:=T.mt;refine⟨_,Ad (Bl (vW (Hl (Aq Hv (pv 0) Ae) (Fv (Aq Ma (pv 0) (Fo (v:=.int 10) rfl e1 ⟨t1,ξ⟩))))) Br BJ)
  (Ah (Bl (Aq Ma (pv 1) (Fo (v:=.int 12) rfl e2 ⟨t2,ξ⟩)) Br BJ)),?_⟩
 refine⟨_,ξ,_,_,ξ,ξ,_,ξ,?_⟩;refine iteN (wT h1) ?_;refine⟨_,ξ,_,_,ξ,ξ,_,ξ,?_⟩;refine iteN (wT h2) ?_;refine⟨_,ξ,_,_,ξ,ξ,_,ξ,?_⟩;refine iteN (wT h4) ?_;exact q
def AIK:FnScope zl6 zl6 (Af AHL):=fscp ψ
def at0{a b:V}:atI [a,b] 0=u8 a:=rfl
def at1{a b:V}:atI [a,b] 1=u8 b:=rfl
def AHB(F:Fun K "refuse_points" "refuse_points" AHL f fd):FnOk P w K mg base CX0 1 f fd zl6 (AGO K):=by
 refine F.ok AIK (λbt A outer s H vs Q E hr h=>?_);obtain⟨m,a,b,t,rfl,hT,h0,h1,h2,q⟩:=h;refine⟨_,Ad (Bl (vW (Hl (Aq Hv (Ax Bc (pv 1) Ae) Ae) (Fv (Aq Yw (Ax Bc (pv 1) Ae) (pv 0))))) Br BJ)
  (Ah (Bl (Aq EY (Ax Bc (pv 1) Ae) (Ax Bc (pv 1) Ae)) Br BJ)),?_⟩
 refine⟨_,ξ,t,_,_,_,ξ,ξ,hT,at0,_,_,ξ,ξ,_,ξ,?_⟩;refine iteN (wT h0) ?_;refine⟨_,ξ,t,_,_,_,ξ,ξ,hT,at1,_,ξ,_,_,ξ,ξ,_,ξ,?_⟩;refine iteN δ ?_;refine⟨_,ξ,t,_,_,_,ξ,ξ,hT,at0,_,ξ,t,_,_,_,ξ,ξ,hT,at1,ξ,_,ξ,?_⟩;refine iteN (λe=>?_) q;have:=V.int.inj e;lia
def Yq:FnScope ["many","ties","checked","handed","tie"] zl23 (Af AGi):=fscp ψ
def AHG(F:Fun K "checked_ties" "checked_ties" AGi f fd)(T:Txt K mg C)(GP:Cal P w K mg base 1 fP lL "refuse_points" zl6 (AGO K)) :
  FnOk P w K mg base CX0 2 f fd zl23 (AGK K):=by
 refine F.ok Yq (λbt A outer s H vs Q E hr h=>?_);obtain⟨m,l,xs,as,rfl,hS,pa,ok,h12,q⟩:=h;refine⟨_,Ad (Ao (i:=2) Yq.nd (DG Ac))
  (Ad (Dj DJ rfl (CT (pv 1)) (Bg (i:=3) Yq.nd)
   (Ad (Ao (i:=4) Yq.nd (BP Bp rfl T.tuple DE (Aa (Az GZ rfl T.sorted Fh (Aa (pv 3) Ac)) Ac)))
   (Ad (Ce (Ay GP hr rfl (Aa (pv 0) (Aa (pv 4) Ac))))
   (Ad (Bl (Aq (AHo (Fw Cy) (CK hr)) (pv 4) (pv 2) rfl) Br BJ)
   (Ah (Ce (Ho DF Fk Fm DY (pv 2) (Aa (pv 4) Ac))))))))
  (Ah (Ar (BP Bp rfl T.tuple DE (Aa (pv 2) Ac))))),?_⟩
 refine⟨Bz _,λc hc=>?_⟩;have lx:=AT pa;refine⟨_,ξ,l,ξ,⟨_,(vk hc _).seq hS⟩,Ej (K:=K) (a:=l) (xs:=xs) (λi σ H2=>∃(hv tv:Option V) (ys:List V),σ=[u8 (.int m),u8 (.ref l),u8 (.ref c),hv,tv]/\Same H H2/\H2 c=u8 (.lst ys)/\A9 (rPair K H2) ((as.take i).map srt) ys)
  ⟨u9,u9,[],ξ,vk hc _,Ab,.nil⟩ (by rintro i σ H2 _ ⟨_,_,_,_,sm,_⟩;exact sm.seq hS) ?_ ?_⟩
 .rintro i x σ H2 hx ⟨hv,tv,ys,rfl,sm,hC,pc⟩
  obtain⟨t,ht,rt0⟩:=Paired.get pa hx;obtain⟨p,rfl,hp⟩:=Vh rt0;obtain⟨a,b,rfl,a0,a1,b0,b1,nab⟩:=ok.ok t (By ht);have h8:SqL K H2 p ([a,b].map V.int)\/SqT K H2 p ([a,b].map V.int):=hp.elim (λz=>.inl (sm.seq z)) λz=>.inr (sm.ts.seq z);refine⟨_,ξ,p,[a,b],ξ,h8,(by show 2<64;decide),λl1 ms g5 perm pw=>?_⟩;have em:=Zo perm pw;subst em;refine⟨l1,_,ξ,.inl ⟨vd Ab,λt1 r4=>?_⟩⟩;have hT:(upd (upd H2 l1 (.lst ((srt [a,b]).map V.int))) t1 (.tup ((srt [a,b]).map V.int))) t1=u8 (.tup ((srt [a,b]).map V.int)):=Ab;have s1:Same H2 (upd (upd H2 l1 (.lst ((srt [a,b]).map V.int))) t1 (.tup ((srt [a,b]).map V.int))):=(vk g5 _).trans (vk r4 _);generalize hH3:upd (upd H2 l1 (.lst ((srt [a,b]).map V.int))) t1 (.tup ((srt [a,b]).map V.int))=H3 at hT s1 ⊢;have bh:(srt [a,b]).length=2:=by rw[Bx];split<;>rfl
  have pts:∃u v:Int,srt [a,b]=[u,v]/\0<=u/\u<v/\v<m:=by
   rw[Bx];split
   .exact⟨b,a,ξ,b0,δ,a1⟩
   .exact⟨a,b,ξ,a0,δ,b1⟩
  obtain⟨u,v,euv,u0,uv,vm⟩:=pts;have hT2:SqT K H3 t1 [.int u,.int v]:=by
   have e:=ve (K:=K) hT;rw[euv] at e;exact e
  refine⟨_,ξ,_,ξ,m,u,v,t1,ξ,hT2,u0,uv,vm,?_⟩;have hC3:=s1 _ _ hC;have pc3:=vj (λa b=>Ak Am H2 H3 a b s1.ts) pc;have rt:rPair K H3 (srt [a,b]) (.ref t1):=Dt hT;refine⟨_,ξ,_,ξ,_,_,rt,.inl ⟨c,ys,ξ,vd hC3,pc3⟩,_,ξ,?_⟩;refine iteN (ok.take_new ht) ?_;have hys:ys.length<=12:=by
   rw[<- AT pc,AB,BV];exact wQ h12
  refine⟨_,ξ,.inl ⟨ξ,_,vd hC3⟩,_,ξ,c,ys,_,ξ,ξ,hC3,BK δ,?_⟩;refine⟨_,_,_,ξ,(sm.trans s1).put hc _,Ab,?_⟩
  .have e:as.take (i+1)=as.take i++[[a,b]]:=by rw[DA,ht];rfl
   rw[e,BI,NX];have ts:TSm H3 (upd H3 c (.lst (ys++[.ref t1]))):=vi hC3;exact vg (vj (λa b=>Ak Am H3 _ a b ts) pc3) (vh (Ak Am H3 _ _ _ ts rt))
 .rintro σ H2 ⟨hv,tv,ys,rfl,sm,hC,pc⟩
  rw[<- lx,CD] at pc;refine⟨_,ξ,c,_,ξ,.inl ⟨vd hC,λj hj=>?_⟩⟩;refine q j _ (sm.trans (vk hj _)) ⟨j,ys,ξ,ve Ab,?_⟩;exact vj (λa b=>Ak Am H2 _ a b (TSm.new hj)) pc
def Xr:FnScope zl7 zl7 (Af MJ):=fscp ψ
def JC(F:Fun K "__init__" "Web.__init__" MJ f fd)(T:Txt K mg C)
  (GA:Cal P w K mg base 1 fA dE "refuse_amounts" zl5 Qd)
  (GC:Cal P w K mg base 2 fC fdC "checked_ties" zl23 (AGK K)) :
  FnOk P w K mg base CX0 3 f fd zl7 (JW K C):=by
 refine F.ok Xr (λbt A outer s H vs Q E hr h=>?_);obtain⟨p,dx,l,m,xs,as,rfl,hP,hS,pa,ok,h12,h1,h10,q⟩:=h;have lx:=AT pa;refine⟨_,Ad (Ce (Ay GA (hr.mono ζ) rfl (Aa (pv 1) (Aa (Az Av rfl T.len CC (Aa (pv 2) Ac)) Ac))))
  (Ad (Dy (pv 0) (pv 1) rfl)
  (Ah (Dy (pv 0) (Ay GC hr rfl (Aa (pv 1) (Aa (pv 2) Ac))) rfl))),?_⟩
 refine⟨_,ξ,_,ξ,l,_,ξ,.inl hS,m,_,ξ,h1,h10,vt,δ,?_⟩;refine⟨_,ξ,_,ξ,p,C,dx,[],ξ,hP,T.cl,T.nA,ζ,?_⟩;have ts:TSm H (upd H p (.ins C dx (putF "amount" (.int m) []))):=λb u hb t=>by
  rw[Ag ?_]
  .exact hb
  .rintro rfl
   rw[hP] at hb;cases hb;obtain⟨ys,e| ⟨o,e⟩⟩:=t
   .cases e
   .cases e
 have sl:∀{a:Addr}{zs:List V},SqL K H a zs->SqL K (upd H p (.ins C dx (putF "amount" (.int m) []))) a zs:=λ{a zs} h=>by
  rcases h with(h| ⟨o,h⟩)| h
  .exact .inl (.inl (by rw[Ag (Cu h hP (by intro z;cases z))];exact h))
  .exact .inl (.inr ⟨o,by rw[Ag (Cu h hP (by intro z;cases z))];exact h⟩)
  .exact .inr h
 have pa':A9 (rSeq K (upd H p (.ins C dx (putF "amount" (.int m) [])))) as xs:=vj (λt x h=>by
  rcases h with⟨q,zs,rfl,hq,pz⟩| h
  .exact .inl ⟨q,zs,ξ,sl hq,pz⟩
  .exact .inr (Ak Am _ _ _ _ ts h)) pa
 refine⟨_,ξ,_,ξ,m,l,xs,as,ξ,sl hS,pa',ok,h12,λj H' sm rj=>?_⟩;have pV:=sm _ _ Ab;refine⟨_,ξ,p,C,dx,_,ξ,pV,T.cl,T.nJ,(by show 1<1000;decide),?_⟩;refine q _ (λb o e hb=>?_) ⟨dx,j,Ab,?_⟩
 .rw[Ag hb]
  exact sm _ _ (by rw[Ag hb];exact e)
 .refine Ak (Ak Am) _ _ _ _ (λb u hb t=>?_) rj
  rw[Ag ?_]
  .exact hb
  .rintro rfl
   rw[pV] at hb;cases hb;obtain⟨ys,e| ⟨o,e⟩⟩:=t
   .cases e
   .cases e
def scSize:FnScope zl0 zl0 (Af ADo):=fscp ψ
def AEq(F:Fun K "size" "Web.size" ADo f fd)(T:Txt K mg C):FnOk P w K mg base CX0 1 f fd zl0 (Jb K C):=by
 refine F.ok scSize (λbt A outer s H vs Q E hr h=>?_);obtain⟨p,m,as,rfl,⟨dx,j,hP,hj⟩,q⟩:=h;refine⟨_,Ah (Ar (Bk (pv 0) rfl)),?_⟩;exact⟨_,ξ,p,C,dx,_,_,ξ,hP,T.cl,T.nA,Ga _ _,q⟩
def AHV:FnScope zl0 zl0 (Af ABm):=fscp ψ
def AEh(F:Fun K "ties" "Web.ties" ABm f fd)(T:Txt K mg C):FnOk P w K mg base CX0 1 f fd zl0 (RW K C):=by
 refine F.ok AHV (λbt A outer s H vs Q E hr h=>?_);obtain⟨p,m,as,rfl,⟨dx,j,hP,j',xs,ej,hj,pj⟩,q⟩:=h;cases ej;refine⟨_,Ah (Ar (BP Ec rfl T.list EF (Aa (Bk (pv 0) rfl) Ac))),?_⟩;refine⟨_,ξ,p,C,dx,_,_,ξ,hP,T.cl,T.nJ,KR _ _,j,xs,ξ,.inr hj,λl hl=>?_⟩;refine q l _ (vk hl _) hl ⟨l,xs,ξ,vd Ab,?_⟩;exact vj (λa b=>Ak Am H _ a b (TSm.new hl)) pj
def AIo:FnScope zl8 zl8 (Af sAt):=fscp ψ
def AHu(F:Fun K "at" "Web.at" sAt f fd)(T:Txt K mg C):FnOk P w K mg base CX0 1 f fd zl8 (AId K C):=by
 refine F.ok AIo (λbt A outer s H vs Q E hr h=>?_);obtain⟨p,m,x,as,rfl,⟨dx,j,hP,j',xs,ej,hj,pj⟩,h12,q⟩:=h;cases ej;refine⟨_,Ah (Ar (Bu (Af sAt) ["number","tie"] ["point"] [1] rfl rfl ψ ⟨⟨ξ,ψ⟩,trivial⟩ (VR rfl T.enum (Aa (Bk (pv 0) rfl) Ac))
  (λ_ _ _=>Gv (K:=K) (n:=2) rfl rfl (Bt (BL (i:=0)) (Bt (BL (i:=1)) Er)))
  (λ_ _ _=>Cm (Aq (Ib (K:=K) rfl) (pv 2) (pv 1) rfl))
  (λ_ _ _=>pv 0))),?_⟩
 refine⟨_,ξ,p,C,dx,_,_,ξ,hP,T.cl,T.nJ,KR _ _,j,ξ,⟨_,hj⟩,λD hD=>?_⟩;have lx:=AT pj;refine Nm (xs:=xs) (λi τ H2=>∃n t:Option V,τ=[n,t,u8 (.int x)]/\Same H H2/\H2 D=u8 (.lst ((hits x (as.take i)).map V.int))) ⟨u9,u9,ξ,vk hD _,Ab⟩
  (by rintro i τ H2 _ ⟨_,_,_,sm,_⟩;exact sm.ts.seq hj) ?_ ?_
 .rintro i y τ H2 T1 hy nh ⟨n,t,rfl,sm,sg⟩
  obtain⟨tie,ht,rt⟩:=Paired.get pj hy;obtain⟨q1,rfl,hq1⟩:=Bq rt;have s1:Same H2 (upd H2 T1 (.tup [.int i,.ref q1])):=vk nh _;refine⟨T1,_,ξ,ve Ab,ξ,_,_,ξ,_,_,ξ,ξ,?_⟩;refine⟨_,ξ,_,ξ,q1,_,ξ,.inr (s1.ts.seq (sm.ts.seq hq1)),ξ,?_,_,ξ,?_⟩
  .simp[flatV]
  .rw[vA ζ,FW]
   have hD3:=s1 _ _ sg;have ce:=(AG.mp ht).1;refine ite2 (λc=>?_) (λc=>?_)
   .have c':=vE c
    refine⟨_,ξ,_,hD3,?_,_,_,ξ,(sm.trans s1).put hD _,?_⟩
    .have:(hits x (as.take i)).length<=(as.take i).length:=Nq x 0 (as.take i)
     rw[AB];rw[BV] at this;exact BK δ
    .rw[Ab,Qa ht,vB c',BI]
     rfl
   .have c':¬ x∈tie:=λz=>c (vC z)
    refine⟨_,_,ξ,sm.trans s1,?_⟩;rw[hD3,Qa ht,vA c',B5]
 .rintro τ H2 ⟨n,t,rfl,sm,sg⟩
  rw[<- lx,CD] at sg;exact q D H2 sm hD sg
end K34
namespace G
abbrev StO:=List (Option Int)
section
variable (lef tak pas:Nat->StO->Option StO)(ful:StO->Bool)
noncomputable def stepO(t:Nat)(g:Option StO->vI->Bool)(st:StO):vI->Bool
 | []=>g (lef t st) []
 | x::xs=>if x<t then false else if x=t then g (tak t st) xs else g (lef t st) (x::xs)
noncomputable def semO:Nat->Nat->Option StO->vI->Bool
 | _,_,u9,_=>false
 | 0,t,u8 r,s=>match pas t r with
  | none=>false
  | some st=>ful st&&decide (s=[])
 | d+1,t,u8 r,s=>match pas t r with
  | none=>false
  | some st=>stepO lef tak t (semO d (t+1)) st s
end
def Zi{t:Nat}{lef tak:Nat->StO->Option StO}{g:Option StO->vI->Bool}{st:StO}(o:Ok n aE)(tn:t<n)(hl:Lead aE (t+1) kl (g (lef t st)))(hr:Lead aE (t+1) kr (g (tak t st))) :
  Ok n (aE++[(t,kl,kr)])/\Lead (aE++[(t,kl,kr)]) t (aE.length+2) (stepO lef tak t g st):=by
 have o2:Ok n (aE++[(t,kl,kr)]):=ADR o tn (Ii hl.kn hl.up) (Ii hr.kn hr.up);have e:=AFl aE (t,kl,kr);have kn:=ABg aE (t,kl,kr);refine⟨o2,kn,.inr ?_,λs=>?_⟩
 .unfold tieOf
  rw[e];exact AI _
 .cases s with
  | nil =>
   rw[DW o2 kn fv,e,Cz o _ hl.kn,hl.eq];rfl
  | cons x xs =>
   rw[Bm o2 kn fv,e,Cz o _ hl.kn,Cz o _ hr.kn,hl.eq,hr.eq];rfl
noncomputable def tiedS(st:StO)(a b:Nat):StO:=match st.getD a u9,st.getD b u9 with
 | some i,u8 j=>(((st.set a u9).set b u9).set i.toNat (u8 j)).set j.toNat (u8 i)
 | _,_=>st
structure VldS(z:Nat)(st:StO):Prop where
 len:st=[]\/st.length=z
 pts:∀p i,st.getD p u9=u8 i->0<=i/\i<z
def Dl(l:StO)(p q:Nat)(v:Option Int)(h:q≠p):(l.set p v).getD q u9=l.getD q u9:=by
 rw[AD,AD,KS (BU h)]
def Dg(l:StO)(p:Nat)(v:Option Int):(l.set p v).getD p u9=if p<l.length then v else u9:=by
 rw[AD];by_cases c:p<l.length
 .rw[Kb c,vB c]
  rfl
 .rw[DZ (by rw[EO];exact vo c),vA c]
  rfl
def VldS.set{st:StO}(h:VldS z st)(p:Nat)(v:Option Int)(hv:∀i,v=u8 i->0<=i/\i<z):VldS z (st.set p v):=by
 refine⟨?_,λq i e=>?_⟩
 .rcases h.len with e| e
  .left;rw[e];rfl
  .right;rw[EO];exact e
 .by_cases c:q=p
  .subst c
   rw[Dg] at e;split at e
   .exact hv i e
   .cases e
  .rw[Dl _ _ _ _ c] at e
   exact h.pts q i e
set_option tactic.hygienic true in
theorem VldS.tied{st:StO}{a b:Nat}(h:VldS z st):VldS z (tiedS st a b):=by
 unfold tiedS;split
 .rename_i i j ei ej
  exact((((h.set a u9 (λ_ z=>by cases z)).set b u9 (λ_ z=>by cases z)).set _ _ (λk e=>by cases e;exact h.pts b _ ej)).set _ _ (λk e=>by cases e;exact h.pts a _ ei))
 .exact h
end G
namespace K34
open PySem L2 G
noncomputable def onB(bs:vH)(p x:Nat):Bool:=decide ((p:Int)∈bs.getD x [])
def AAg(hK:X.K=K)(hc:X.calm=true):CallR X (.builtin "max") (λxs H Q=>∃(p:Addr) (ns:vG),xs=[.ref p]/\SqL K H p (ns.map V.int)/\0<ns.length/\∀m,m∈ns->(∀a∈ns,a<=m)->Q (.int m) H):=by subst hK;exact max_list hc
def ABw(hK:X.K=K):OpR X (Hk .Add) (rAddL K):=by subst hK;exact Yk
noncomputable def Lp(bs:vH)(p:Nat):Nat:=match (hits (p:Int) bs).getLast? with
 | none=>0
 | some x=>(x+1).toNat
def AFS{bs:vH}{p:Nat}{x:Int}(h:x∈hits (p:Int) bs):0<=x/\x<bs.length:=by
 obtain⟨i,t,e,_,rfl⟩:=L2.Ik.mp h;have:=(AG.mp e).1;lia
def AGe{bs:vH}{p:Nat}{m:Int}(h1:m∈(-1:Int)::hits (p:Int) bs)(h2:∀a∈(-1:Int)::hits (p:Int) bs,a<=m):m=(Lp bs p:Int)-1:=by
 unfold Lp;cases e:(hits (p:Int) bs).getLast? with
 | none =>
  have e':=OO.mp e;rw[e'] at h1;have:m=-1:=by simpa using h1
  rw[this];rfl
 | some x =>
  obtain⟨ne,ex⟩:=OP.mp e|> λ⟨ys,h⟩=>(⟨by rw[h];simp,by simp[h]⟩:∃ne:hits (p:Int) bs≠[],(hits (p:Int) bs).getLast ne=x)
  have xm:x∈hits (p:Int) bs:=by rw[<- ex];exact List.getLast_mem ne
  have x0:=(AFS xm).1;have:=h2 x (AJ _ xm);have mx:m=x:=by
   rcases AY.mp h1 with rfl| h1
   ·lia
   .have:=Rh ne (Je _ 0 bs) m h1
    lia
  dsimp only;lia
def AGY{bs:vH}{p x:Nat}(xl:x<bs.length)(h:onB bs p x=true):x<Lp bs p:=by
 have hm:=vE h;rw[AD,AK xl] at hm;have xm:(x:Int)∈hits (p:Int) bs:=L2.Ik.mpr ⟨x,_,AK xl,hm,δ⟩;unfold Lp;cases e:(hits (p:Int) bs).getLast? with
 | none=>rw[OO.mp e] at xm;cases xm
 | some y =>
  obtain⟨ne,ey⟩:=OP.mp e|> λ⟨ys,h⟩=>(⟨by rw[h];simp,by simp[h]⟩:∃ne:hits (p:Int) bs≠[],(hits (p:Int) bs).getLast ne=y)
  have:=Rh ne (Je _ 0 bs) x xm;dsimp only;lia
noncomputable def nI(ks:vI):List V:=ks.map λ(k:Nat)=>V.int (k:Int)
def Jr(ks:vI):(nI ks).length=ks.length:=by unfold nI;rw[AB]
def AEU{ks:vI}{x:V}(h:(nI ks)[j]?=u8 x):∃k:Nat,ks[j]?=u8 k/\x=.int (k:Int):=by
 unfold nI at h;rw[AV] at h;cases g:ks[j]? with
 | none=>rw[g] at h;cases h
 | some k=>rw[g] at h;cases h;exact⟨k,ξ,ξ⟩
noncomputable def behP(bs:vH)(z t:Nat):vI:=(AX z).filter λp=>decide (Lp bs p=t)
def ADP(K:As)(C:Addr):Sp:=λvs H Q _=>∃(p:Addr) (t z:Nat) (bs:vH),vs=[.ref p,.int t]/\WebAt K C H p z bs/\z<=10/\bs.length<=12/\∀(l:Addr) (H':Hp),Same H H'->H l=none->H' l=u8 (.lst (nI (behP bs z t)))->Q (.ref l) H'
def AHE:FnScope zl9 zl9 (Af Kf):=fscp ψ
def AFf(F:Fun K "points_behind" "points_behind" Kf f fd)(T:Txt K mg C)(GS:FnOk P w K mg base CX0 1 fS e8 zl0 (Jb K C))(bS:Binds K e8 zl0 [])(mS:Meth K C "size" fS)
  (GA:FnOk P w K mg base CX0 1 fA dE zl8 (AId K C)) (bA:Binds K dE zl8 []) (mA:Meth K C "at" fA):FnOk P w K mg base CX0 2 f fd zl9 (ADP K C):=by
 refine F.ok AHE (λbt A outer s H vs Q E hr h=>?_);obtain⟨p,t,z,bs,rfl,hW,z10,b12,q⟩:=h;obtain⟨dx,j,hp,_⟩:=id hW;refine⟨_,Ah (Ar (Bu (Af Kf) ["point"] ["number","web"] [1,0] rfl rfl ψ ⟨⟨ξ,ψ⟩,⟨ξ,ψ⟩,trivial⟩ (DK rfl T.range (Aa (BZ (pv 0) T.cl mS GS hr bS .nil pass0) Ac))
   (λ_ _ _=>BL (i:=0))
   (λ_ _ _=>Cm (Aq EY (Az (AAg (K:=K) rfl rfl) rfl T.max ZY (Aa (Aw (ABw (K:=K) rfl) (DG (Aa (ZJ Qm Ae) Ac)) (Ci (pv 2) T.cl mA GA hr bA .nil pass0 (Aa (pv 0) Ac))) Ac)) (Aw Ez (pv 1) Ae)))
   (λ_ _ _=>pv 0))),?_⟩
 refine⟨_,ξ,p,dx,_,ξ,hp,ξ,p,z,bs,ξ,hW,_,ξ,δ,δ,λZ hZ=>?_⟩;refine Cj (lo:=0) (n:=(z:Int).toNat) (λj τ H2=>∃o:Option V,τ=[o,u8 (.int t),u8 (.ref p)]/\Same H H2/\H2 Z=u8 (.lst (nI ((AX j).filter λp=>decide (Lp bs p=t))))) ⟨u9,ξ,vk hZ _,Ab⟩ ?_ ?_
 .rintro j τ H2 hj ⟨o,rfl,s2,eZ⟩
  have ej:(0:Int)+j=(j:Int):=wq;rw[ej];refine⟨1,ξ,ζ,λM hM=>?_⟩;have s3:=s2.trans (vk hM (.lst [.int (-1)]));refine⟨_,ξ,p,dx,_,ξ,s3 _ _ hp,ξ,_,ξ,p,z,j,bs,ξ,hW.same s3,b12,λl H4 s4 hl el=>?_⟩;have bh:(hits (j:Int) bs).length<=bs.length:=Nq _ 0 bs;have eM4:=s4 _ _ Ab;refine⟨M,l,_,_,ξ,ξ,vd eM4,vd el,D7 (BK (by rw[AB];show 1+_<=1000;lia)),λN hN=>?_⟩;have s5:=vk hN (.lst (V.int (-1)::(hits (j:Int) bs).map V.int));refine⟨N,(-1:Int)::hits (j:Int) bs,ξ,vd Ab,θ,λm hm hx=>?_⟩;have e:=AGe hm hx;have s6:=(s3.trans s4).trans s5;have uX:=s5 _ _ (s4 _ _ (vk hM _ _ _ eZ));refine⟨_,ξ,_,_,ξ,ξ,ξ,_,ξ,?_⟩;have lz:((AX j).filter λp=>decide (Lp bs p=t)).length<=j:=BQ (CY ..) (by rw[B6];exact AI _);refine ite2 (λc=>?_) (λc=>?_)
  .have c':Lp bs j=t:=by
    have:=vE c;injection this with this
    lia
   refine⟨_,ξ,_,uX,BK (by rw[Jr];lia),_,ξ,s6.put hZ _,?_⟩
   .rw[Ab,G2,CI,LV (by simpa using c')]
    unfold nI;rw[BI];rfl
  .have c':¬ Lp bs j=t:=λz=>c (vC (by rw[e,z]))
   refine⟨_,ξ,s6,?_⟩;rw[G2,CI,JY (by simpa using c'),J5,B5];exact uX
 .rintro τ H2 ⟨o,rfl,s2,eZ⟩
  rw[B9] at eZ;exact q Z H2 s2 hZ eZ
end K34
namespace G
abbrev Fs:=Nat->vT
def SymF(f:Fs):Prop:=∀x y,f x=u8 y->f y=u8 x
def stayF(f:Fs)(p:Nat):Prop:=f p=u9\/f p=u8 p
noncomputable def tieF(f:Fs)(a b i j:Nat):Fs:=λx=>if x=j then u8 i else if x=i then u8 j else if x=a\/x=b then u9 else f x
def acc(z:Nat):Fs->List (Nat×Nat)->Prop
 | _,[]=>False
 | f,e::E=>∃i j,f e.1=u8 i/\f e.2=u8 j/\((i=e.2/\E=[]/\∀p,p<z->p≠e.1->p≠e.2->stayF f p)\/(i≠e.2/\acc z (tieF f e.1 e.2 i j) E))
section
variable{f:Fs}{a b c d k l:Nat}
def SymF.tie(h:SymF f)(ha:f a=u8 i)(hb:f b=u8 j)(ab:a≠b)(ib:i≠b):SymF (tieF f a b i j):=by
 intro x y e;have h1:=h _ _ ha;have h2:=h _ _ hb;have h3:=h x y;unfold tieF at *
 grind (splits:=60)
def Vn(h:SymF f)(ha:f a=u8 i)(hb:f b=u8 j)(ab:a≠b)(ib:i≠b)(hc:tieF f a b i j c=u8 k):∃k',f c=u8 k':=by
 have h1:=h _ _ ha;have h2:=h _ _ hb;unfold tieF at hc
 grind (splits:=60)
def Uk(h:SymF f)(ha:f a=u8 i)(hb:f b=u8 j)(hc:f c=u8 k)(ab:a≠b)(h1:tieF f a b i j c=u8 k') :
  (c=i/\k=a/\k'=j)\/(c=j/\k=b/\k'=i)\/(c≠i/\c≠j/\c≠a/\c≠b/\k'=k/\k≠i/\k≠j/\k≠a/\k≠b):=by
 have e1:=h _ _ ha;have e2:=h _ _ hb;have e3:=h _ _ hc;unfold tieF at h1;by_cases c1:c=j
 .rw[vB c1] at h1
  rw[c1,e2] at hc;exact .inr (.inl ⟨c1,(AM hc).symm,(AM h1).symm⟩)
 rw[vA c1] at h1;by_cases c2:c=i
 .rw[vB c2] at h1
  rw[c2,e1] at hc;exact .inl ⟨c2,(AM hc).symm,(AM h1).symm⟩
 rw[vA c2] at h1;by_cases c3:c=a\/c=b
 .rw[vB c3] at h1;cases h1
 rw[vA c3,hc] at h1;have inj:∀{x y:Nat},f x=u8 y->k=y->c=x:=λ{x y} e q=>by
  rw[q,h _ _ e] at e3;exact(AM e3).symm
 exact .inr (.inr ⟨c2,c1,λe=>c3 (.inl e),λe=>c3 (.inr e),(AM h1).symm,λe=>c3 (.inl (inj ha e)),λe=>c3 (.inr (inj hb e)),λe=>c2 (inj e1 e),λe=>c1 (inj e2 e)⟩)
def ADq(h:SymF f)(ha:f a=u8 i)(hb:f b=u8 j)(hc:f c=u8 k)(hd:f d=u8 l)(ab:a≠b)(cd:c≠d)(ib:i≠b)(kd:k≠d){j':Nat}
  (h1:tieF f a b i j c=u8 k') (h2:tieF f a b i j d=u8 l') (h3:tieF f c d k l a=u8 i') (h4:tieF f c d k l b=u8 j') :
  (k'=d↔i'=b)/\(k'≠d->tieF (tieF f a b i j) c d k' l'=tieF (tieF f c d k l) a b i' j'):=by
 have aj:a≠j:=λe=>ib (by have:=h _ _ hb;rw[<- e,ha] at this;exact AM this);have q1:=Uk h ha hb hc ab h1;have q2:=Uk h ha hb hd ab h2;clear h h1 h2 hc hd;unfold tieF at h3 h4;rcases q1 with⟨rfl,rfl,rfl⟩| ⟨rfl,rfl,rfl⟩| ⟨c1,c2,c3,c4,rfl,c5,c6,c7,c8⟩
 all_goals rcases q2 with⟨rfl,rfl,rfl⟩| ⟨rfl,rfl,rfl⟩| ⟨d1,d2,d3,d4,rfl,d5,d6,d7,d8⟩
 .exact vF rfl cd
 .rw[vA ab,vB rfl] at h3
  cases h3;exact⟨⟨λ_=>rfl,λ_=>rfl⟩,λn=>vF rfl n⟩
 .rw[vA (BU d7),vB rfl] at h3
  rw[vA (BU d8),vA (BU ab),vA (λe=>e.elim (BU ib) (BU d4)),hb] at h4;cases h3;cases h4;refine⟨⟨λe=>vF e.symm d2,λe=>vF e d8⟩,λn=>funext λx=>?_⟩;clear ha hb;unfold tieF
  grind
 .rw[vB rfl] at h3
  cases h3;exact⟨⟨λ_=>rfl,λ_=>rfl⟩,λn=>vF rfl n⟩
 .exact vF rfl cd
 .rw[vA (BU d7),vA ab,vA (λe=>e.elim aj (BU d3)),ha] at h3
  rw[vA (BU d8),vB rfl] at h4;cases h3;cases h4;refine⟨⟨λe=>vF e.symm d1,λe=>vF e ib⟩,λn=>funext λx=>?_⟩;clear ha hb;unfold tieF
  grind
 .rw[vB rfl] at h3
  rw[vA (BU ab),vA (BU c8),vA (λe=>e.elim (BU c4) (BU ib)),hb] at h4;cases h3;cases h4;refine⟨⟨λe=>vF e kd,λe=>vF e c8⟩,λn=>funext λx=>?_⟩;clear ha hb;unfold tieF
  grind
 .rw[vA ab,vA (BU c7),vA (λe=>e.elim (BU c3) aj),ha] at h3
  rw[vB rfl] at h4;cases h3;cases h4;refine⟨⟨λe=>vF e kd,λe=>vF e ib⟩,λn=>funext λx=>?_⟩;clear ha hb;unfold tieF
  grind
 .rw[vA (BU d7),vA (BU c7),vA (λe=>e.elim (BU c3) (BU d3)),ha] at h3
  rw[vA (BU d8),vA (BU c8),vA (λe=>e.elim (BU c4) (BU d4)),hb] at h4;cases h3;cases h4;refine⟨⟨λe=>vF e kd,λe=>vF e ib⟩,λn=>funext λx=>?_⟩;clear ha hb;unfold tieF
  grind
def ACR(h:SymF f)(ha:f a=u8 i)(hb:f b=u8 j)(hc:f c=u8 k)(hd:f d=u8 l)(ab:a≠b)(cd:c≠d)(ib:i≠b)(kd:k≠d)
  (h1:tieF f a b i j c=u8 k') (h2:tieF f a b i j d=u8 l'):∃i' j',tieF f c d k l a=u8 i'/\tieF f c d k l b=u8 j':=by
 have e1:=h _ _ ha;have e2:=h _ _ hb;have e3:=h _ _ hc;have e4:=h _ _ hd;unfold tieF at *
 grind (splits:=60)
def ADi(h:SymF f)(ha:f a=u8 i)(hb:f b=u8 j)(hc:f c=u8 d)(ab:a≠b)(cd:c≠d)(ib:i≠b)
  (h1:tieF f a b i j c=u8 k') (h2:tieF f a b i j d=u8 l'):k'=d/\i≠c/\i≠d/\¬ stayF (tieF f a b i j) i:=by
 have e1:=h _ _ ha;have e2:=h _ _ hb;have e3:=h _ _ hc;unfold stayF tieF at *
 grind (splits:=60)
def ADr(h:SymF f)(ha:f a=u8 i)(hb:f b=u8 j)(hc:f c=u8 k)(hd:f d=u8 l)(ab:a≠b)(cd:c≠d)(ib:i≠b)(kd:k≠d)
  (h1:tieF f a b i j c=u8 d) (h2:tieF f a b i j d=u8 l') (h3:tieF f c d k l a=u8 b) (h4:tieF f c d k l b=u8 i') {p:Nat} (pa:p≠a) (pb:p≠b)
  (hs:p≠c->p≠d->stayF (tieF f a b i j) p):stayF (tieF f c d k l) p:=by
 have e1:=h _ _ ha;have e2:=h _ _ hb;have e3:=h _ _ hc;have e4:=h _ _ hd;unfold stayF tieF at *
 grind (splits:=60)
def RngF(z:Nat)(f:Fs):Prop:=∀x y,f x=u8 y->x<z
def RngF.tie(r:RngF z f)(h:SymF f)(ha:f a=u8 i)(hb:f b=u8 j):RngF z (tieF f a b i j):=by
 intro x y e;have h1:=r _ _ (h _ _ ha);have h2:=r _ _ (h _ _ hb);have h3:=r x y;unfold tieF at *
 grind
def acc_swap(h:SymF f)(r:RngF z f)(ab:a≠b)(cd:c≠d){E:List (Nat×Nat)}:acc z f ((a,b)::(c,d)::E)->acc z f ((c,d)::(a,b)::E):=by
 rintro⟨i,j,ha,hb,⟨_,e,_⟩| ⟨ib,k',l',h1,h2,hh⟩⟩
 .cases e
 obtain⟨k,hc⟩:=Vn h ha hb ab ib h1;obtain⟨l,hd⟩:=Vn h ha hb ab ib h2;have kd:k≠d:=by
  intro e;subst e;obtain⟨e1,n1,n2,n3⟩:=ADi h ha hb hc ab cd ib h1 h2;rcases hh with⟨_,_,hs⟩| ⟨ne,_⟩
  .exact n3 (hs i (r _ _ (h _ _ ha)) n1 n2)
  .exact ne e1
 obtain⟨i',j',h3,h4⟩:=ACR h ha hb hc hd ab cd ib kd h1 h2;obtain⟨uL,eq1⟩:=ADq h ha hb hc hd ab cd ib kd h1 h2 h3 h4;refine⟨k,l,hc,hd,.inr ⟨kd,i',j',h3,h4,?_⟩⟩;rcases hh with⟨e,eE,hs⟩| ⟨ne,ac⟩
 .have e':=uL.mp e
  refine .inl ⟨e',eE,λp pz pa pb=>?_⟩;rw[show k'=d from e] at h1;rw[show i'=b from e'] at h3;exact ADr h ha hb hc hd ab cd ib kd h1 h2 h3 h4 pa pb λpc pd=>hs p pz pc pd
 .refine .inr ⟨λe=>ne (uL.mpr e),?_⟩
  rw[<- eq1 ne];exact ac
def Va{E:List (Nat×Nat)}(p:E.Perm E'):∀{f:Fs},SymF f->RngF z f->(∀e∈E,e.1≠e.2)->acc z f E->acc z f E':=by
 induction p with
 | nil=>intro f _ _ _ h;exact h
 | cons x p ih =>
  rintro f h r ne ⟨i,j,ha,hb,⟨e1,e2,hs⟩| ⟨n1,ac⟩⟩
  .refine⟨i,j,ha,hb,.inl ⟨e1,?_,hs⟩⟩
   subst e2;exact List.nil_perm.mp p
  .have nx:=ne x (AF ..)
   exact⟨i,j,ha,hb,.inr ⟨n1,ih (h.tie ha hb nx n1) (r.tie h ha hb) (λe he=>ne e (AJ _ he)) ac⟩⟩
 | swap x y l =>
  intro f h r ne;exact acc_swap h r (ne y (AF ..)) (ne x (AJ _ (AF ..)))
 | trans p q tG u5 =>
  intro f h r ne ac;exact u5 h r (λe he=>ne e (p.mem_iff.mpr he)) (tG h r ne ac)
theorem acc_open:∀{E:List (Nat×Nat)}{f:Fs},SymF f->RngF z f->(∀e∈E,e.1≠e.2)->∀{p:Nat},(∀e∈E,e.1≠p/\e.2≠p)->¬ stayF f p->¬ acc z f E
 | [],_,_,_,_,_,_,_=>id
 | e::E,f,h,r,ne,p,np,op=>by
  rintro⟨i,j,ha,hb,⟨e1,e2,hs⟩| ⟨n1,ac⟩⟩
  .obtain⟨n1,n2⟩:=np e (AF ..)
   have pz:p<z:=by
    unfold stayF at op;cases hp:f p with
    | none=>exact vF (.inl hp) op
    | some q=>exact r _ _ hp
   exact op (hs p pz (BU n1) (BU n2))
  .have nx:=ne e (AF ..)
   obtain⟨n3,n4⟩:=np e (AF ..);refine acc_open (h.tie ha hb nx n1) (r.tie h ha hb) (λx hx=>ne x (AJ _ hx)) (λx hx=>np x (AJ _ hx)) ?_ ac;have e1:=h _ _ ha;have e2:=h _ _ hb;unfold stayF tieF at *
   grind (splits:=60)
end
noncomputable def oI(o:vT):Option Int:=o.map λn=>(n:Int)
section
variable{P:Nat->Prop}{st:StO}{f:Fs}
def getD4{st:StO}{a b x:Nat}{v w:Option Int}(ha:a<st.length)(hb:b<st.length)(hi:i<st.length)(hj:j<st.length):((((st.set a u9).set b u9).set i v).set j w).getD x u9=if x=j then w else if x=i then v else if x=a\/x=b then u9 else st.getD x u9:=by
 by_cases c1:x=j
 .rw[vB c1,c1,Dg,vB (by simp only[EO];exact hj)]
 rw[vA c1,Dl _ _ _ _ c1];by_cases c2:x=i
 .rw[vB c2,c2,Dg,vB (by simp only[EO];exact hi)]
 rw[vA c2,Dl _ _ _ _ c2];by_cases c3:x=b
 .rw[vB (.inr c3),c3,Dg]
  split<;>rfl
 rw[Dl _ _ _ _ c3];by_cases c4:x=a
 .rw[vB (.inl c4),c4,Dg]
  split<;>rfl
 rw[Dl _ _ _ _ c4,vA λe=>e.elim c4 c3]
end
section
variable{ea eb L:Nat->Nat}
def above{t d x:Nat}{xs:vI}(pw:(x::xs).Pairwise (· < ·))(h:∀y∈x::xs,t<=y/\y<t+(d+1))(c:¬ x=t):∀y∈x::xs,t+1<=y/\y<t+1+d:=λy hy=>by
 have h1:=h x (AF ..);have h2:=h y hy;rcases AY.mp hy with e| e
 ·lia
 .have:=(B0.mp pw).1 y e
  lia
end
noncomputable def degE(E:List (Nat×Nat))(p:Nat):Nat:=(E.filter λe=>decide (e.1=p\/e.2=p)).length
def AAX(e:Nat×Nat)(E:List (Nat×Nat))(p:Nat):degE (e::E) p=(if e.1=p\/e.2=p then 1 else 0)+degE E p:=by
 unfold degE;rw[C6];by_cases c:e.1=p\/e.2=p
 .rw[vB (vC c),vB c,C5];exact yV
 .rw[vA (by simpa using c),vA c];lia
def AAq{E:List (Nat×Nat)}(h:E.Perm E')(p:Nat):degE E p=degE E' p:=(h.filter _).length_eq
noncomputable def stayR(rd:Bool)(st:StO)(p:Nat):Bool:=decide (st.getD p u9=u9\/(rd=false/\st.getD p u9=u8 (p:Int)))
noncomputable def passR1(rd:Bool)(st:StO)(p:Nat):Option StO:=if st=[] then u8 st else if stayR rd st p=true then u8 (st.set p u9) else u9
noncomputable def passR(rd:Bool):StO->vI->Option StO
 | st,[]=>u8 st
 | st,p::ps=>(passR1 rd st p).bind λs=>passR rd s ps
noncomputable def JF(rd:Bool)(st:StO)(a b:Nat):Option StO:=if((AX st.length).filter λp=>decide (p≠a/\p≠b)).all (stayR rd st)=true then u8 [] else u9
noncomputable def takeR(rd:Bool)(st:StO)(a b:Nat):Option StO :=
 if st=[]\/st.getD a u9=u9\/st.getD b u9=u9 then u9
 else if st.getD a u9=u8 (b:Int) then JF rd st a b else u8 (tiedS st a b)
def stayG(rd:Bool)(f:Fs)(p:Nat):Prop:=f p=u9\/(rd=false/\f p=u8 p)
def accR(rd:Bool)(z:Nat):Fs->List (Nat×Nat)->Prop
 | _,[]=>False
 | f,e::E=>∃i j,f e.1=u8 i/\f e.2=u8 j/\((i=e.2/\E=[]/\∀p,p<z->p≠e.1->p≠e.2->stayG rd f p)\/(i≠e.2/\accR rd z (tieF f e.1 e.2 i j) E))
def ZX{f:Fs}{p:Nat}:stayG false f p↔stayF f p:=by unfold stayG stayF;simp
theorem Rb{z:Nat}:∀{E:List (Nat×Nat)}{f:Fs},accR false z f E↔acc z f E
 | [],f=>ZZ
 | e::E,f=>by
  unfold accR acc;simp only[ZX,Rb (E:=E)]
theorem Mx{z:Nat}:∀{E:List (Nat×Nat)}{f:Fs},SymF f->(∀e∈E,e.1≠e.2)->(accR true z f E↔acc z f E/\∀p,p<z->f p=u8 p->degE E p≠0)
 | [],f,_,_=>⟨λh=>h.elim,λh=>h.1.elim⟩
 | e::E,f,sy,ed=>by
  have ab:=ed e (AF ..);have dc:=λp=>AAX e E p;have dp:∀p,e.1=p\/e.2=p->degE (e::E) p≠0:=λp h=>by rw[dc,vB h];lia
  have dn:∀p,¬ (e.1=p\/e.2=p)->degE (e::E) p=degE E p:=λp h=>by rw[dc,vA h,F8]
  constructor
  .rintro⟨i,j,h1,h2,⟨h3,rfl,h4⟩| ⟨h3,h4⟩⟩
   .refine⟨⟨i,j,h1,h2,.inl ⟨h3,ξ,λp pz n1 n2=>.inl ((h4 p pz n1 n2).resolve_right λh=>Pe h.1)⟩⟩,λp pz hp=>?_⟩
    by_cases c:e.1=p\/e.2=p
    .exact dp p c
    .rcases h4 p pz (λd=>c (.inl d.symm)) (λd=>c (.inr d.symm)) with h| h
     .rw[hp] at h;cases h
     .exact Pe h.1
   .obtain⟨g1,g2⟩:=(Mx (sy.tie h1 h2 ab h3) λr hr=>ed r (AJ _ hr)).mp h4
    refine⟨⟨i,j,h1,h2,.inr ⟨h3,g1⟩⟩,λp pz hp=>?_⟩;by_cases c:e.1=p\/e.2=p
    .exact dp p c
    .rw[dn p c]
     refine g2 p pz ?_;have n1:p≠j:=λd=>c (.inr (by have:=sy _ _ h2;rw[<- d,hp] at this;exact(AM this).symm));have n2:p≠i:=λd=>c (.inl (by have:=sy _ _ h1;rw[<- d,hp] at this;exact(AM this).symm));unfold tieF;rw[vA n1,vA n2,vA λd=>c (d.elim (λd=>.inl d.symm) λd=>.inr d.symm)];exact hp
  .rintro⟨⟨i,j,h1,h2,⟨h3,rfl,h4⟩| ⟨h3,h4⟩⟩,tc⟩
   .refine⟨i,j,h1,h2,.inl ⟨h3,ξ,λp pz n1 n2=>(h4 p pz n1 n2).elim .inl λh=>?_⟩⟩
    refine vF (dn p λc=>c.elim (λd=>n1 d.symm) λd=>n2 d.symm) λd=>tc p pz h (by rw[d];rfl)
   .refine⟨i,j,h1,h2,.inr ⟨h3,(Mx (sy.tie h1 h2 ab h3) λr hr=>ed r (AJ _ hr)).mpr ⟨h4,λp pz hp=>?_⟩⟩⟩
    have ne:∀{x:Nat},f e.1=u8 x->f e.2=u8 x->False:=λ{x} e1 e2=>by
     have a1:=sy _ _ e1;have a2:=sy _ _ e2;rw[a1] at a2;exact ab (AM a2)
    unfold tieF at hp;by_cases c1:p=j
    .rw[vB c1] at hp
     have:=AM hp;exact(ne h1 (by rw[h2,this,c1])).elim
    .rw[vA c1] at hp
     by_cases c2:p=i
     .rw[vB c2] at hp
      have:=AM hp;exact vF this.symm c1
     .rw[vA c2] at hp
      by_cases c3:p=e.1\/p=e.2
      .rw[vB c3] at hp;cases hp
      .rw[vA c3] at hp
       have:=tc p pz hp
       rwa [dn p λc=>c3 (c.elim (λd=>.inl d.symm) λd=>.inr d.symm)] at this
def AAS{E:List (Nat×Nat)}{f:Fs}(sy:SymF f)(rg:RngF z f)(ed:∀e∈E,e.1≠e.2){p:Nat}(hp:∀e∈E,e.1≠p/\e.2≠p)(ns:¬ stayG rd f p):¬ accR rd z f E:=λh=>by
 cases rd with
 | false=>exact acc_open sy rg ed hp (λc=>ns (ZX.mpr c)) (Rb.mp h)
 | true =>
  obtain⟨h1,h2⟩:=(Mx sy ed).mp h;have d0:degE E p=0:=by
   unfold degE;rw[CU,HG];intro e he;rw[decide_eq_true_iff];exact λc=>c.elim (hp e he).1 (hp e he).2
  by_cases c:f p=u8 p
  .exact h2 p (rg _ _ c) c d0
  .exact acc_open sy rg ed hp (λd=>d.elim (λd=>ns (.inl d)) c) h1
structure RlR(rd:Bool)(z:Nat)(P:Nat->Prop)(st:StO)(f:Fs):Prop where
 len:st.length=z
 at_:∀x,x<z->¬ P x->st.getD x u9=oI (f x)
 ps:∀x,x<z->P x->st.getD x u9=u9/\stayG rd f x
 sym:SymF f
 rng:RngF z f
section
variable{P:Nat->Prop}{st:StO}{f:Fs}
def RlR.congr{P':Nat->Prop}(h:RlR rd z P st f)(e:∀x,x<z->(P x↔P' x)):RlR rd z P' st f:=⟨h.len,λx hx n=>h.at_ x hx λp=>n ((e x hx).mp p),λx hx p=>h.ps x hx ((e x hx).mpr p),h.sym,h.rng⟩
def RlR.stay(h:RlR rd z P st f){x:Nat}(hx:x<z):stayR rd st x=true↔stayG rd f x:=by
 unfold stayR;rw[decide_eq_true_iff];by_cases p:P x
 .obtain⟨h1,h2⟩:=h.ps x hx p
  exact⟨λ_=>h2,λ_=>.inl h1⟩
 .rw[h.at_ x hx p]
  unfold stayG oI;cases f x with
  | none=>simp
  | some y =>
   simp;intro _;lia
def RlR.ne(h:RlR rd z P st f){x:Nat}(hx:x<z):¬ st=[]:=λe=>by
 have:=h.len;rw[e] at this;exact vF hx (by rw[<- this];exact PD _)
def RlR.pass(h:RlR rd z P st f){p:Nat}(hp:p<z):(passR1 rd st p=u9/\¬ stayG rd f p)\/(∃a6,passR1 rd st p=u8 a6/\RlR rd z (λq=>P q\/q=p) a6 f):=by
 unfold passR1;rw[vA (h.ne hp)];by_cases c:stayR rd st p=true
 .rw[vB c]
  refine .inr ⟨_,ξ,by rw[EO];exact h.len,λx hx n=>?_,λx hx pp=>?_,h.sym,h.rng⟩
  .rw[Dl _ _ _ _ λe=>n (.inr e)]
   exact h.at_ x hx λq=>n (.inl q)
  .by_cases e:x=p
   .subst e
    rw[Dg,vB (by rw[h.len];exact hx)];exact⟨ξ,(h.stay hx).mp c⟩
   .rw[Dl _ _ _ _ e]
    exact h.ps x hx (pp.resolve_right e)
 .rw[vA c]
  exact .inl ⟨ξ,λs=>c ((h.stay hp).mpr s)⟩
theorem RlR.passes:∀(ps:vI) {P:Nat->Prop}{st:StO},RlR rd z P st f->(∀p∈ps,p<z)->(passR rd st ps=u9/\∃p∈ps,¬ stayG rd f p)\/(∃a6,passR rd st ps=u8 a6/\RlR rd z (λq=>P q\/q∈ps) a6 f)
 | [],P,st,h,_=>.inr ⟨st,ξ,h.congr λx _=>⟨.inl,λe=>e.resolve_right K1⟩⟩
 | p::ps,P,st,h,hp=>by
  show((passR1 rd st p).bind (λs=>passR rd s ps)=u9/\_)\/(∃a6,(passR1 rd st p).bind (λs=>passR rd s ps)=u8 a6/\_);rcases h.pass (hp p (AF ..)) with⟨e,n⟩| ⟨s1,e,h1⟩
  .rw[e]
   exact .inl ⟨ξ,p,AF ..,n⟩
  .rw[e]
   rcases RlR.passes ps h1 λq hq=>hp q (AJ _ hq) with⟨e2,q,hq,n⟩| ⟨s2,e2,h2⟩
   .exact .inl ⟨e2,q,AJ _ hq,n⟩
   .refine .inr ⟨s2,e2,h2.congr λx _=>?_⟩
    rw[AY];exact or_assoc
def RlR.tie(h:RlR rd z P st f){a b:Nat}(az:a<z)(bz:b<z)(na:¬ P a)(nb:¬ P b)(ab:a≠b)(ha:f a=u8 i)(hb:f b=u8 j)(ib:i≠b):RlR rd z P (tiedS st a b) (tieF f a b i j):=by
 have iz:=h.rng _ _ (h.sym _ _ ha);have jz:=h.rng _ _ (h.sym _ _ hb);have e1:st.getD a u9=u8 (i:Int):=by rw[h.at_ a az na,ha];rfl
 have e2:st.getD b u9=u8 (j:Int):=by rw[h.at_ b bz nb,hb];rfl
 have et:tiedS st a b=(((st.set a u9).set b u9).set i (u8 (j:Int))).set j (u8 (i:Int)):=by
  unfold tiedS;rw[e1,e2];rfl
 have np:∀{x y:Nat},¬ P x->f x=u8 y->¬ P y:=λ{x y} n e p=>by
  rcases (h.ps y (h.rng _ _ (h.sym _ _ e)) p).2 with s| ⟨_,s⟩
  .rw[h.sym _ _ e] at s;cases s
  .rw[h.sym _ _ e] at s
   exact n (AM s ▸ p)
 have ni:=np na ha;have nj:=np nb hb;have l:=h.len;refine⟨by rw[et];simp only[EO];exact l,λx hx n=>?_,λx hx p=>?_,h.sym.tie ha hb ab ib,h.rng.tie h.sym ha hb⟩
 .rw[et,getD4 (dl az l) (dl bz l) (dl iz l) (dl jz l)]
  unfold tieF;rw[h.at_ x hx n];split
  .rfl
  .split
   .rfl
   .split<;>rfl
 .have x1:x≠j:=λe=>nj (e ▸ p)
  have x2:x≠i:=λe=>ni (e ▸ p);have x3:x≠a:=λe=>na (e ▸ p);have x4:x≠b:=λe=>nb (e ▸ p);obtain⟨h1,h2⟩:=h.ps x hx p;rw[et,getD4 (dl az l) (dl bz l) (dl iz l) (dl jz l),vA x1,vA x2,vA (λe=>e.elim x3 x4)];refine⟨h1,?_⟩;unfold stayG tieF;rw[vA x1,vA x2,vA (λe=>e.elim x3 x4)];exact h2
end
section
variable{ea eb L:Nat->Nat}
noncomputable abbrev semR(rd:Bool)(z:Nat)(ea eb L:Nat->Nat):Nat->Nat->Option StO->vI->Bool:=semO (λ_ s=>u8 s) (λt s=>takeR rd s (ea t) (eb t)) (λt s=>passR rd s ((AX z).filter λp=>decide (L p=t))) (λs=>decide (s=[]))
theorem Jj:∀ps:vI,passR rd [] ps=u8 []
 | []=>rfl
 | _::ps=>Jj ps
def Hh(d t:Nat)(s:vI):semR rd z ea eb L d t u9 s=false:=by cases d<;>rfl
theorem JZ:∀(d t:Nat) (sl:vI),sl.Pairwise (· < ·)->(∀x∈sl,t<=x/\x<t+d)->(semR rd z ea eb L d t (u8 []) sl=true↔sl=[])
 | 0,t,sl,pw,h=>by
  have e:sl=[]:=by
   cases sl with
   | nil=>rfl
   | cons x xs=>have:=h x (AF ..);lia
  subst e;simp[semR,semO,Jj]
 | d+1,t,sl,pw,h=>by
  have e:semR rd z ea eb L (d+1) t (u8 []) sl=stepO (λ_ s=>u8 s) (λt s=>takeR rd s (ea t) (eb t)) t (semR rd z ea eb L d (t+1)) [] sl:=by simp[semR,semO,Jj]
  rw[e];cases sl with
  | nil=>exact JZ d (t+1) [] .nil λx hx=>by cases hx
  | cons x xs =>
   have hx:=h x (AF ..);show(if x<t then false else if x=t then semR rd z ea eb L d (t+1) (takeR rd [] (ea t) (eb t)) xs else semR rd z ea eb L d (t+1) (u8 []) (x::xs))=true↔_;rw[vA (ar516 hx)];by_cases c:x=t
   .rw[vB c,show takeR rd [] (ea t) (eb t)=u9 from vB (.inl rfl),Hh]
    exact⟨λh=>(by cases h),λh=>(by cases h)⟩
   .rw[vA c]
    exact JZ d (t+1) (x::xs) pw (above pw h c)
def Ur(z1:1<=z)(hz:∀x,x<n->ea x<z/\eb x<z/\ea x≠eb x/\x<L (ea x)/\x<L (eb x)):∀(d t:Nat) (st:StO) (f:Fs) (sl:vI),t+d=n->RlR rd z (λp=>L p<t) st f->sl.Pairwise (· < ·)->(∀x∈sl,t<=x/\x<t+d) ->
  (semR rd z ea eb L d t (u8 st) sl=true↔accR rd z f (sl.map λx=>(ea x,eb x))):=by
 intro d
 induction d with
 | zero =>
  intro t st f sl e R pw hs;have sn:sl=[]:=by
   cases sl with
   | nil=>rfl
   | cons x xs=>have:=hs x AF;lia
  subst sn;refine⟨λh=>?_,λh=>h.elim⟩;rcases R.passes ((AX z).filter λp=>decide (L p=t)) (λp hp=>AU.mp (BG.mp hp).1) with⟨e1,_⟩| ⟨s',e1,R'⟩
  .simp[semR,semO,e1] at h
  .simp only[semR,semO,e1,ES,decide_eq_true_iff] at h
   exact vF h.1 (R'.ne z1)
 | succ d ih =>
  intro t st f sl e R pw hs;have edge:∀x∈sl.map (λx=>(ea x,eb x)),x.1≠x.2:=λx hx=>by
   obtain⟨y,hy,rfl⟩:=A1.mp hx;exact(hz y (by have:=hs y hy;exact ar517 e this)).2.2.1
  rcases R.passes ((AX z).filter λp=>decide (L p=t)) (λp hp=>AU.mp (BG.mp hp).1) with⟨e1,p,hp,np⟩| ⟨s',e1,R0⟩
  .have lp:=vE (BG.mp hp).2
   refine⟨λh=>by simp[semR,semO,e1] at h,λh=>?_⟩;refine vF h (AAS R.sym R.rng edge (λx hx=>?_) np);obtain⟨y,hy,rfl⟩:=A1.mp hx;obtain⟨h1,h2,h3,h4,h5⟩:=hz y (by have:=hs y hy;exact ar517 e this);have:=hs y hy;exact⟨λc=>by rw[show ea y=p from c] at h4;exact ar518 h4 lp this,λc=>by rw[show eb y=p from c] at h5;exact ar518 h5 lp this⟩
  have R':RlR rd z (λp=>L p<t+1) s' f:=R0.congr λx hx=>by
   rw[BG,AU,decide_eq_true_iff];lia
  have e2:semR rd z ea eb L (d+1) t (u8 st) sl=stepO (λ_ s=>u8 s) (λt s=>takeR rd s (ea t) (eb t)) t (semR rd z ea eb L d (t+1)) s' sl:=by simp only[semR,semO,e1]
  rw[e2];cases sl with
  | nil=>exact ih (t+1) s' f [] (xI e) R' .nil λx hx=>by cases hx
  | cons x xs =>
   have hx:=hs x (AF ..);show(if x<t then false else if x=t then semR rd z ea eb L d (t+1) (takeR rd s' (ea t) (eb t)) xs else semR rd z ea eb L d (t+1) (u8 s') (x::xs))=true↔_;rw[vA (ar516 hx)];by_cases c:x=t
   .subst c
    rw[vB rfl];obtain⟨az,bz,ab,la,lb⟩:=hz x (yk e);have pw':=(B0.mp pw).2;have lT:∀y∈xs,x+1<=y/\y<x+1+d:=λy hy=>by
     have h1:=(B0.mp pw).1 y hy;have h2:=hs y (AJ _ hy);lia
    have ga:=R'.at_ _ az (xG la);have gb:=R'.at_ _ bz (xG lb);show _↔∃i j,f (ea x)=u8 i/\f (eb x)=u8 j/\_;unfold takeR;cases fa:f (ea x) with
    | none =>
     rw[fa] at ga;rw[vB (.inr (.inl ga)),Hh];exact⟨λh=>(by cases h),λ⟨i,j,h,_⟩=>(by cases h)⟩
    | some i =>
     cases fb:f (eb x) with
     | none =>
      rw[fb] at gb;rw[vB (.inr (.inr gb)),Hh];exact⟨λh=>(by cases h),λ⟨i,j,_,h,_⟩=>(by cases h)⟩
     | some j =>
      rw[fa] at ga;rw[fb] at gb;have n0:¬ (s'=[]\/s'.getD (ea x) u9=u9\/s'.getD (eb x) u9=u9):=by
       rintro(h| h| h)
       .exact R'.ne z1 h
       .rw[ga] at h;cases h
       .rw[gb] at h;cases h
      rw[vA n0,ga];by_cases cl:i=eb x
      .rw[vB (show oI (u8 i)=u8 (eb x:Int) by rw[cl];rfl)]
       have all:((AX s'.length).filter λp=>decide (p≠ea x/\p≠eb x)).all (stayR rd s')=true↔∀p,p<z->p≠ea x->p≠eb x->stayG rd f p:=by
        rw[E8,R'.len];constructor
        .intro h p pz n1 n2
         exact(R'.stay pz).mp (h p (BG.mpr ⟨AU.mpr pz,vC ⟨n1,n2⟩⟩))
        .intro h p hp
         obtain⟨h1,h2⟩:=BG.mp hp;have pz:=AU.mp h1;obtain⟨n1,n2⟩:=vE h2;exact(R'.stay pz).mpr (h p pz n1 n2)
       unfold JF;by_cases ca:((AX s'.length).filter λp=>decide (p≠ea x/\p≠eb x)).all (stayR rd s')=true
       .rw[vB ca,JZ d (x+1) xs pw' lT]
        refine⟨λh=>⟨i,j,ξ,ξ,.inl ⟨cl,by rw[h];rfl,all.mp ca⟩⟩,?_⟩;rintro⟨i',j',h1,h2,⟨_,h3,_⟩| ⟨h3,_⟩⟩
        .exact List.map_eq_nil_iff.mp h3
        .exact vF (AM h1 ▸ cl) h3
       .rw[vA ca,Hh]
        refine⟨λh=>(by cases h),?_⟩;rintro⟨i',j',h1,h2,⟨_,_,h3⟩| ⟨h3,_⟩⟩
        .exact vF (all.mpr h3) ca
        .exact vF (AM h1 ▸ cl) h3
      .rw[vA (show ¬ oI (u8 i)=u8 (eb x:Int) from λh=>cl (by unfold oI at h;simp at h;exact vx h))]
       have RT:=R'.tie az bz (xG la) (xG lb) ab fa fb cl;rw[ih (x+1) _ _ xs (xI e) RT pw' lT];refine⟨λh=>⟨i,j,ξ,ξ,.inr ⟨cl,h⟩⟩,?_⟩;rintro⟨i',j',h1,h2,⟨h3,_⟩| ⟨_,h3⟩⟩
       .exact vF (AM h1 ▸ h3) cl
       .cases h1
        cases h2;exact h3
   .rw[vA c]
    exact ih (t+1) s' f (x::xs) (xI e) R' pw λy hy=>by have:=above pw hs c y hy;exact this
end
end G
namespace K34
open PySem L2 G
structure Gro(K:As)(mg:vM)(Gc:Addr):Prop where
 cl:Cls K Gc
 mgG:mg "Growth" = u8 (.ref Gc)
 nW:NoAttr K Gc "web"
 nU:NoAttr K Gc "rule"
 nA:NoAttr K Gc "amount"
 nB:NoAttr K Gc "behind"
 nR:NoAttr K Gc "rows"
 nK:NoAttr K Gc "known"
noncomputable def gf(W r:Addr)(n:Int)(Bh R D:Addr):List (Str×V):=putF "known" (.ref D) (putF "rows" (.ref R) (putF "behind" (.ref Bh) (putF "amount" (.int n) (putF "rule" (.ref r) (putF "web" (.ref W) [])))))
section
variable (W r Bh R D:Addr)(n:Int)
def Nt:(gf W r n Bh R D).lookup ("known" : Str)=u8 (.ref D):=by unfold gf;rw[Aj,vB rfl]
def Rz:(gf W r n Bh R D).lookup ("rows" : Str)=u8 (.ref R):=by unfold gf;rw[Aj,vA ψ,Aj,vB rfl]
def AAR:(gf W r n Bh R D).lookup ("behind" : Str)=u8 (.ref Bh):=by unfold gf;rw[Aj,vA ψ,Aj,vA ψ,Aj,vB rfl]
def QW:(gf W r n Bh R D).lookup ("amount" : Str)=u8 (.int n):=by unfold gf;rw[Aj,vA ψ,Aj,vA ψ,Aj,vA ψ,Aj,vB rfl]
def LK:(gf W r n Bh R D).lookup ("rule" : Str)=u8 (.ref r):=by unfold gf;rw[Aj,vA ψ,Aj,vA ψ,Aj,vA ψ,Aj,vA ψ,Aj,vB rfl]
def Qx:(gf W r n Bh R D).lookup ("web" : Str)=u8 (.ref W):=by unfold gf;rw[Aj,vA ψ,Aj,vA ψ,Aj,vA ψ,Aj,vA ψ,Aj,vA ψ,Aj,vB rfl]
def AJE{m:Str}(h1:¬ m = "known")(h2:¬ m = "rows")(h3:¬ m = "behind")(h4:¬ m = "amount")(h5:¬ m = "rule")(h6:¬ m = "web"):(gf W r n Bh R D).lookup m=u9:=by
 unfold gf;rw[Aj,vA h1,Aj,vA h2,Aj,vA h3,Aj,vA h4,Aj,vA h5,Aj,vA h6]
 all_goals rfl
end
structure Wr where
 ps:StO->Nat->Option StO
 tk:StO->Nat->Nat->Option StO
 fu:StO->Bool
 pre:StO->Nat->Nat->Prop
 vld:Nat->StO->Prop
 fl:List (Str×V)
 nP:fl.lookup ("passed" : Str)=u9
 nL:fl.lookup ("left" : Str)=u9
 nT:fl.lookup ("taken" : Str)=u9
 nU:fl.lookup ("fulfilled" : Str)=u9
 nB:fl.lookup ("begun" : Str)=u9
noncomputable def passU(u:Wr):StO->vI->Option StO
 | st,[]=>u8 st
 | st,p::ps=>(u.ps st p).bind λs=>passU u s ps
theorem QX(u:Wr):∀(ps qs:vI) (st:StO),passU u st (ps++qs)=(passU u st ps).bind λs=>passU u s qs
 | [],qs,st=>rfl
 | p::ps,qs,st=>by
  show(u.ps st p).bind _=((u.ps st p).bind _).bind _;cases u.ps st p with
  | none=>rfl
  | some s=>exact QX u ps qs s
structure Gr(u:Wr)(K:As)(C Dc Gc:Addr)(g W r Bh R D:Addr)(z:Nat)(bs:vH)(H:Hp):Prop where
 ins:∃dx,H g=u8 (.ins Gc dx (gf W r bs.length Bh R D))
 web:WebAt K C H W z bs
 rul:∃dx,H r=u8 (.ins Dc dx u.fl)
 beh:∃ys,H Bh=u8 (.lst ys)/\Bh≠R/\A9 (λt v=>∃l,v=.ref l/\l≠R/\H l=u8 (.lst (nI (behP bs z t)))) (AX (bs.length+1)) ys
section
variable{u:Wr}{Dc g W r Bh R:Addr}{bs:vH}{φ:Heap->Prop}
def tsRD(e:∀b o,b≠R->b≠D->H b=u8 o->H' b=u8 o)(hR:H R=u8 (.lst xs))(hD:H D=u8 (.ext φ)):TSm H H':=λb u hb t=>by
 have ne:∀{x:Addr}{o:HO},H x=u8 o->(∀ys,o≠.tup ys)->(∀q ys,o≠.frz q (.tup ys))->b≠x:=λ{x o} hx h1 h2 zz=>by
  rw[zz,hx] at hb;cases hb;obtain⟨ys,e| ⟨q,e⟩⟩:=t
  .exact h1 ys e
  .exact h2 q ys e
 exact e b u (ne hR (by intro _ z;cases z) (by intro _ _ z;cases z)) (ne hD (by intro _ z;cases z) (by intro _ _ z;cases z)) hb
def Gr.keep(h:Gr u K C Dc Gc g W r Bh R D z bs H)(e:∀b o,b≠R->b≠D->H b=u8 o->H' b=u8 o)(hR:H R=u8 (.lst xs))(hD:H D=u8 (.ext φ)):Gr u K C Dc Gc g W r Bh R D z bs H':=by
 have ts:=tsRD e hR hD;have ni:∀{x c dx:Addr}{fs:List (Str×V)},H x=u8 (.ins c dx fs)->H' x=u8 (.ins c dx fs):=λ{x c dx fs} hx=>e _ _ (Cu hx hR (by intro z;cases z)) (Cu hx hD (by intro z;cases z)) hx;have nl:∀{x:Addr}{l:List V},x≠R->H x=u8 (.lst l)->H' x=u8 (.lst l):=λ{x l} hn hx=>e _ _ hn (Cu hx hD (by intro z;cases z)) hx;obtain⟨d1,i1⟩:=h.ins;obtain⟨d2,j,i2,i3⟩:=h.web;obtain⟨d3,i4⟩:=h.rul;obtain⟨ys,b1,b2,b3⟩:=h.beh;exact⟨⟨d1,ni i1⟩,⟨d2,j,ni i2,Ak (Ak Am) _ _ _ _ ts i3⟩,⟨d3,ni i4⟩,⟨ys,nl b2 b1,b2,vj (by rintro t v ⟨l,c1,c2,c3⟩;exact⟨l,c1,c2,nl c2 c3⟩) b3⟩⟩
def Gr.same(h:Gr u K C Dc Gc g W r Bh R D z bs H)(e:Same H H'):Gr u K C Dc Gc g W r Bh R D z bs H':=by
 obtain⟨d1,i1⟩:=h.ins;obtain⟨d3,i4⟩:=h.rul;obtain⟨ys,b1,b2,b3⟩:=h.beh;exact⟨⟨d1,e _ _ i1⟩,h.web.same e,⟨d3,e _ _ i4⟩,⟨ys,e _ _ b1,b2,vj (by rintro t v ⟨l,c1,c2,c3⟩;exact⟨l,c1,c2,e _ _ c3⟩) b3⟩⟩
end
def StAt(K:As)(H:Hp)(b:Addr)(st:StO):Prop:=SqT K H b (st.map oV)
def RS(u:Wr)(K:As)(z:Nat)(H:Hp)(v:V):Option StO->Prop
 | none=>v=.non
 | some st=>∃b,v=.ref b/\StAt K H b st/\u.vld z st
def Ud(u:Wr)(K:As)(D:Addr):Sp:=λvs H Q _=>∃(p:V) (b dx a:Addr) (q z:Nat) (st:StO),vs=[.ref a,p,.ref b,.int q]/\H a=u8 (.ins D dx u.fl)/\StAt K H b st/\u.vld z st/\q<z/\z<=10 /\
 ∀(v':V) (H':Hp),Same H H'->RS u K z H' v' (u.ps st q)->Q v' H'
def Wh(u:Wr)(K:As)(C Dc Gc:Addr):Sp:=λvs H Q _=>∃(g W r Bh R D:Addr) (z t:Nat) (bs:vH) (v:V) (o:Option StO),vs=[.ref g,.int t,v]/\Gr u K C Dc Gc g W r Bh R D z bs H/\z<=10/\t<=bs.length/\RS u K z H v o /\
 ∀(v':V) (H':Hp),Same H H'->RS u K z H' v' (o.bind λr=>passU u r (behP bs z t))->Q v' H'
section
variable{u:Wr}
def Sx:FnScope ["self","number","reached","state","point"] zl24 (Af ABv):=fscp ψ
def RX(F:Fun K "past_points" "Growth.past_points" ABv f fd)(cD:Cls K D)(O:Gro K mg Gc)(GP:FnOk P w K mg base CX0 3 fP lL zl14 (Ud u K D))(bP:Binds K lL zl14 [])(mP:Meth K D "passed" fP) :
  FnOk P w K mg base CX0 4 f fd zl24 (Wh u K C D Gc):=by
 refine F.ok Sx (λbt A outer s H vs Q E hr h=>?_);obtain⟨g,W,r,Bh,R,Dk,z,t,bs,v,o,rfl,gr,z10,tb,rs,q⟩:=h;refine⟨_,Ad (Ao (i:=3) Sx.nd (pv 2))
  (Ad (Dj DJ rfl (CT (Ax Cg (Bk (pv 0) rfl) (pv 1))) (Bg (i:=4) Sx.nd)
   (Ah (Bl (Hx (AEn (pv 3))) (Ah (Ao (i:=3) Sx.nd (Ci (Bk (pv 0) rfl) cD mP GP hr bP .nil pass0 (Aa (Bk (pv 0) rfl) (Aa (pv 3) (Aa (pv 4) Ac)))))) BJ)))
  (Ah (Ar (pv 3)))),?_⟩
 obtain⟨dg,hg⟩:=gr.ins;obtain⟨dr,fe⟩:=gr.rul;obtain⟨ys,hB,_,pB⟩:=gr.beh;have lB:=AT pB;rw[B6] at lB;have tl:t<ys.length:=by lia
 obtain⟨t',kC,l,el,_,hl⟩:=Paired.get pB (AK tl);have et:t'=t:=by
  have:=(AG.mp kC).2;rw[List.getElem_range] at this;exact this.symm
 subst et;have uM:atI ys (t':Int)=u8 (.ref l):=by
  rw[<- el];exact Bv (AK tl)
 refine⟨_,ξ,?_⟩;refine⟨_,ξ,g,Gc,dg,_,_,ξ,hg,O.cl,O.nB,AAR _ _ _ _ _ _,_,ξ,Bh,ys,_,_,ξ,ξ,vd hB,uM,l,ξ,⟨_,vd hl⟩,?_⟩;refine Ej (K:=K) (a:=l) (xs:=nI (behP bs z t')) (λi σ H2=>∃(v':V) (o4:Option V),σ=[u8 (.ref g),u8 (.int t'),u8 v,u8 v',o4]/\Same H H2/\RS u K z H2 v' (o.bind λr=>passU u r ((behP bs z t').take i)))
  ⟨v,u9,ξ,vf _,by
   have e:(o.bind λr=>passU u r ((behP bs z t').take 0))=o:=by cases o<;>rfl
   rw[e];exact rs⟩ (by rintro i σ H2 _ ⟨_,_,_,s2,_⟩;exact s2.seq (vd hl)) ?_ ?_
 .rintro i x σ H2 hx ⟨v',o4,rfl,s2,rs2⟩
  obtain⟨pt,hp,rfl⟩:=AEU hx;have pz:=AU.mp (BG.mp (By hp)).1;have step:(o.bind λr=>passU u r ((behP bs z t').take (i+1)))=(o.bind λr=>passU u r ((behP bs z t').take i)).bind λs=>u.ps s pt:=by
   cases o with
   | none=>rfl
   | some r =>
    rw[DA,hp];show passU u r (_++[pt])=_;rw[QX u]
    congr 1
    funext s
    show(u.ps s pt).bind (λs=>u8 s)=_;cases u.ps s pt<;>rfl
  cases e:(o.bind λr=>passU u r ((behP bs z t').take i)) with
  | none =>
   rw[e] at rs2 step;cases rs2;refine⟨_,ξ,_,ξ,iteF ⟨.non,_,ξ,s2,?_⟩⟩;rw[step];exact rfl
  | some st =>
   rw[e] at rs2 step;obtain⟨b,rfl,hb,sl⟩:=rs2;refine⟨_,ξ,_,ξ,iteT ?_⟩;refine⟨_,ξ,g,Gc,dg,_,_,ξ,s2 _ _ hg,O.cl,O.nU,LK _ _ _ _ _ _,r,dr,_,ξ,s2 _ _ fe,u.nP,_,ξ,g,Gc,dg,_,_,ξ,s2 _ _ hg,O.cl,O.nW,Qx _ _ _ _ _ _,_,ξ,_,ξ,.ref W,b,dr,r,pt,z,st,ξ,s2 _ _ fe,hb,sl,pz,z10,λv3 H3 s3 rs3=>?_⟩;refine⟨_,_,ξ,s2.trans s3,?_⟩;rw[step];exact rs3
 .rintro σ H2 ⟨v',o4,rfl,s2,rs2⟩
  rw[Jr,CD] at rs2;exact⟨_,ξ,q v' H2 s2 rs2⟩
end
noncomputable def ea(bs:vH)(t:Nat):Nat:=((bs.getD t []).getD 0 0).toNat
noncomputable def eb(bs:vH)(t:Nat):Nat:=((bs.getD t []).getD 1 0).toNat
def OkB(z:Nat)(bs:vH):Prop:=∀t∈bs,∃x y:Nat,t=[(x:Int),(y:Int)]/\x<z/\y<z
noncomputable def lefU(_:Nat)(st:StO):Option StO:=u8 st
noncomputable def takU(u:Wr)(bs:vH)(t:Nat)(st:StO):Option StO:=u.tk st (ea bs t) (eb bs t)
noncomputable abbrev semC(u:Wr)(bs:vH)(z d t:Nat):Option StO->vI->Bool:=semO lefU (takU u bs) (λt r=>passU u r (behP bs z t)) u.fu d t
def Good(u:Wr)(bs:vH)(z:Nat)(G:Nat->Option StO->Prop):Prop:=∀(t:Nat) (o:Option StO) (st:StO),t<bs.length->G t o->(o.bind λr=>passU u r (behP bs z t))=u8 st->u.pre st (ea bs t) (eb bs t)/\G (t+1) (u8 st)/\G (t+1) (takU u bs t st)
abbrev keyC(t:Nat)(st:StO):OKey:=(u8 (t:Int),st)
def Ua{t:Nat}{st a6:StO}(h:keyC t st=keyC t' a6):t=t'/\st=a6:=by
 injection h with h1 h2
 injection h1 with h1
 exact⟨vx h1,h2⟩
def Known(u:Wr)(bs:vH)(z:Nat)(aE:List Row)(aT:List (OKey×V)):Prop:=∀(t:Nat) (st:StO) (v:V),valV aT (keyC t st)=u8 v->∃k:Nat,v=.int k/\t<bs.length/\Lead aE t k (stepO lefU (takU u bs) t (semC u bs z (bs.length-1-t) (t+1)) st)
def Known.app{u:Wr}{bs:vH}{aE more:List Row}{aT:List (OKey×V)}(o:Ok bs.length aE)(h:Known u bs z aE aT):Known u bs z (aE++more) aT:=λt st v hv=>let ⟨k,e,tl,ld⟩:=h t st v hv;⟨k,e,tl,ld.app o⟩
def Wd{x:Addr}{t:Nat}{st:StO}(hx:H x=u8 (.tup [.int (t:Int),.ref b]))(hb:StAt K H b st):OAt K H (keyC t st) x:=⟨b,hx,hb⟩
structure Rw(u:Wr)(P:AL)(w:AR)(K:As)(R D:Addr)(bs:vH)(z:Nat)(H:Hp)(aE:List Row)(aT:List (OKey×V)):Prop where
 at_:∃xs,H R=u8 (.lst xs)/\A9 (K34s.rRow K H) aE xs
 dn:DO K P w H D aT
 ok:Ok bs.length aE
 kn:Known u bs z aE aT
 len:aT.length<=aE.length
def Old(t:Nat)(aT b4:List (OKey×V)):Prop:=∀(t':Nat) (st:StO),t'<t->valV b4 (keyC t' st)=valV aT (keyC t' st)
def ADG{u:Wr}{bs:vH}{d t:Nat}{o:Option StO}(h:(o.bind λr=>passU u r (behP bs z t))=u9)(s:vI):semC u bs z d t o s=false:=by
 cases o with
 | none=>cases d<;>rfl
 | some r =>
  have h':passU u r (behP bs z t)=u9:=h;cases d with
  | zero=>show(match passU u r (behP bs z t) with| none=>false| some st=>_)=false;rw[h']
  | succ d=>show(match passU u r (behP bs z t) with| none=>false| some st=>_)=false;rw[h']
def ZC{u:Wr}{bs:vH}{t:Nat}{o:Option StO}{st:StO}(h:(o.bind λr=>passU u r (behP bs z t))=u8 st)(s:vI):semC u bs z 0 t o s=(u.fu st&&decide (s=[])):=by
 cases o with
 | none=>cases h
 | some r =>
  have h':passU u r (behP bs z t)=u8 st:=h;show(match passU u r (behP bs z t) with| none=>false| some st=>u.fu st&&decide (s=[]))=_;rw[h']
def ABz{u:Wr}{bs:vH}{d t:Nat}{o:Option StO}{st:StO}(h:(o.bind λr=>passU u r (behP bs z t))=u8 st):semC u bs z (d+1) t o=stepO lefU (takU u bs) t (semC u bs z d (t+1)) st:=by
 funext s
 cases o with
 | none=>cases h
 | some r =>
  have h':passU u r (behP bs z t)=u8 st:=h;show(match passU u r (behP bs z t) with| none=>false| some st=>stepO lefU (takU u bs) t (semC u bs z d (t+1)) st s)=_;rw[h']
def Xy:Sp:=λvs H Q _=>∃(r p b x:V),vs=[r,p,b,x]/\Q b H
def ABb(u:Wr)(K:As):Sp:=λvs H Q _=>∃(r p:V) (b:Addr) (st:StO),vs=[r,p,.ref b]/\StAt K H b st/\Q (.bl (u.fu st)) H
def Sd(u:Wr)(K:As)(C D:Addr):Sp:=λvs H Q _=>∃(a p b dx:Addr) (t z:Nat) (bs:vH) (st:StO),vs=[.ref a,.ref p,.ref b,.int t]/\H a=u8 (.ins D dx u.fl)/\WebAt K C H p z bs/\OkB z bs/\StAt K H b st/\u.vld z st/\u.pre st (ea bs t) (eb bs t)/\t<bs.length/\z<=10 /\
 ∀(v':V) (H':Hp),Same H H'->RS u K z H' v' (takU u bs t st)->Q v' H'
def Mv(u:Wr)(P:AL)(w:AR)(K:As)(C Dc Gc:Addr)(d:Nat):Sp:=λvs H Q _=>∃(g W r Bh R D:Addr) (z t:Nat) (bs:vH) (v:V) (o:Option StO) (aE:List Row) (aT:List (OKey×V)) (G:Nat->Option StO->Prop),vs=[.ref g,.int t,v]/\t+d=bs.length/\Gr u K C Dc Gc g W r Bh R D z bs H/\1<=z/\z<=10/\bs.length<=12/\OkB z bs/\Good u bs z G/\G t o/\RS u K z H v o/\Rw u P w K R D bs z H aE aT/\aE.length+2 ^ d<=4100 /\
 ∀(k:Nat) (more:List Row) (b4:List (OKey×V)) (H':Hp),(∀b o,b≠R->b≠D->H b=u8 o->H' b=u8 o)->Rw u P w K R D bs z H' (aE++more) b4->Lead (aE++more) t k (semC u bs z d t o)->Old t aT b4->Cnt t more->more.length+1<=2 ^ d->Q (.int k) H'
section
variable{u:Wr}{R:Addr}{bs:vH}{aE:List Row}{aT:List (OKey×V)}
def Rw.same(h:Rw u P w K R D bs z H aE aT)(e:Same H H'):Rw u P w K R D bs z H' aE aT:=by
 obtain⟨xs,h1,h2⟩:=h.at_;exact⟨⟨xs,e _ _ h1,vj (λ_ _ r=>K34s.Bd _ _ _ _ e.ts r) h2⟩,h.dn.keep (λo=>e _ o) e.ts,h.ok,h.kn,h.len⟩
end
section
variable{u:Wr}
def Ge:FnScope ["self","number","reached","state","without","having"] zl24 (Af Lb):=fscp ψ
def Mw(d:Nat)(F:Fun K "knot_at" "Growth.knot_at" Lb f fd)(T:Txt K mg C)(cD:Cls K D)(O:Gro K mg Gc)
  (GP:FnOk P w K mg base CX0 4 fP lL zl24 (Wh u K C D Gc)) (bP:Binds K lL zl24 []) (mP:Meth K Gc "past_points" fP)
  (GL:FnOk P w K mg base CX0 1 fL nv zl13 Xy) (bL:Binds K nv zl13 []) (mL:Meth K D "left" fL)
  (GT:FnOk P w K mg base CX0 3 fT df zl13 (Sd u K C D)) (bT:Binds K df zl13 []) (mT:Meth K D "taken" fT)
  (GU:FnOk P w K mg base CX0 1 fU q5 zl12 (ABb u K)) (bU:Binds K q5 zl12 []) (mU:Meth K D "fulfilled" fU) (kT:∀vs H Q E,d≠0->Mv u P w K C D Gc (d-1) vs H Q E->sp vs H Q E) (GK:FnOk P w K mg base CX0 (d+4) f fd zl24 sp) (bK:Binds K fd zl24 []) (mK:Meth K Gc "knot_at" f) :
  FnOk P w K mg base CX0 (d+5) f fd zl24 (Mv u P w K C D Gc d):=by
 refine F.ok Ge (λbt A outer s H vs Q E hr h=>?_);obtain⟨g,W,r,Bh,R,Dk,z,t,bs,v,o,aE,aT,G,rfl,td,gr,z1,z10,b8,okb,gd,go,rs,rw0,r6,q⟩:=h;have bo:Room 1 _:=hr.mono δ;have eK:Room 2 _:=hr.mono δ;have om:Room 3 _:=hr.mono δ;have sO:Room 4 _:=hr.mono fv;refine⟨_,Ad (Ao (i:=3) Ge.nd (Ci (pv 0) O.cl mP GP sO bP .nil pass0 (Aa (pv 1) (Aa (pv 2) Ac))))
  (Ad (Bl (Hx (Qs (pv 3))) (Ah (Ar Ae)) BJ)
  (Ad (Bl (Aq EY (pv 1) (Bk (pv 0) rfl)) (Ah (Ar (Tn (Hw (Ci (Bk (pv 0) rfl) cD mU GU bo bU .nil pass0 (Aa (Bk (pv 0) rfl) (Aa (pv 3) Ac)))) Ae Ae))) BJ)
  (Kz (Bl (Hx (ABU (CK hr) (Bs (Aa (pv 1) (Aa (pv 3) Ac))) (Bk (pv 0) rfl)) rfl)
   (Ad (Ao (i:=4) Ge.nd (Ci (pv 0) O.cl mK GK hr bK .nil pass0 (Aa (Aw CQ (pv 1) Ae) (Aa (Ci (Bk (pv 0) rfl) cD mL GL bo bL .nil pass0 (Aa (Bk (pv 0) rfl) (Aa (pv 3) (Aa (pv 1) Ac)))) Ac))))
   (Ad (Ao (i:=5) Ge.nd (Ci (pv 0) O.cl mK GK hr bK .nil pass0 (Aa (Aw CQ (pv 1) Ae) (Aa (Ci (Bk (pv 0) rfl) cD mT GT om bT .nil pass0 (Aa (Bk (pv 0) rfl) (Aa (pv 3) (Aa (pv 1) Ac)))) Ac))))
   (Ad (Ce (Ho DF Fk Fm DY (Bk (pv 0) rfl) (Aa (Bs (Aa (pv 1) (Aa (pv 4) (Aa (pv 5) Ac)))) Ac)))
   (Ah (AFY (CK hr) (Bk (pv 0) rfl) (Bs (Aa (pv 1) (Aa (pv 3) Ac))) (Aw CQ (Az Av rfl T.len CC (Aa (Bk (pv 0) rfl) Ac)) Ae) rfl))))) BJ)
  (Ah (Ar (AFR (CK hr) (Bk (pv 0) rfl) (Bs (Aa (pv 1) (Aa (pv 3) Ac))) (λ_ _=>rfl))))))),?_⟩
 obtain⟨dg,hg⟩:=gr.ins;obtain⟨dr,fe⟩:=gr.rul;have p2:1<=2 ^ d:=TB;refine⟨_,ξ,g,dg,_,ξ,hg,ξ,_,ξ,_,ξ,g,W,r,Bh,R,Dk,z,t,bs,v,o,ξ,gr,z10,δ,rs,λv' H1 s1 rs1=>?_⟩;have gr1:=gr.same s1;have rw1:=rw0.same s1;have hg1:=s1 _ _ hg;have uF:=s1 _ _ fe;cases e:(o.bind λr=>passU u r (behP bs z t)) with
 | none =>
  rw[e] at rs1;cases rs1;refine⟨_,ξ,_,ξ,iteT ?_⟩;exact q 0 [] aT H1 (λb o _ _ e=>s1 _ _ e) (by rw[B5];exact rw1) (Qj (ADG e)) (λ_ _ _=>rfl) cnt_nil (by simpa using p2)
 | some st =>
  rw[e] at rs1;obtain⟨b,rfl,hb,sl⟩:=rs1;refine⟨_,ξ,_,ξ,iteF ?_⟩;refine⟨_,ξ,_,ξ,g,Gc,dg,_,_,ξ,hg1,O.cl,O.nA,QW _ _ _ _ _ _,ξ,_,ξ,?_⟩;by_cases d0:d=0
  .subst d0
   refine iteP (by rw[show t=bs.length by lia]) ?_;refine⟨_,ξ,g,Gc,dg,_,_,ξ,hg1,O.cl,O.nU,LK _ _ _ _ _ _,r,dr,_,ξ,uF,u.nU,_,ξ,g,Gc,dg,_,_,ξ,hg1,O.cl,O.nW,Qx _ _ _ _ _ _,_,ξ,_,_,b,st,ξ,hb,_,ξ,?_⟩;refine ite2 (λc=>?_) (λc=>?_)
   .exact q 1 [] aT H1 (λb o _ _ e=>s1 _ _ e) (by rw[B5];exact rw1) (ABZ λs=>by rw[ZC e,c,Bool.true_and]) (λ_ _ _=>rfl) cnt_nil (by simpa using p2)
   .exact q 0 [] aT H1 (λb o _ _ e=>s1 _ _ e) (by rw[B5];exact rw1) (Qj λs=>by rw[ZC e,(Bool.not_eq_true _).mp c,V9]) (λ_ _ _=>rfl) cnt_nil (by simpa using p2)
  .obtain⟨d',rfl⟩:∃d',d=d'+1:=⟨d-1,δ⟩
   have tn:t<bs.length:=yk td;refine iteN (λz=>by injection z with z;lia) ?_;have pd:2 ^ (d'+1)=2 ^ d'+2 ^ d':=by rw[MY];exact xS
   have pd1:1<=2 ^ d':=TB;refine⟨λσ' H'=>∃(o4 o5:Option V) (k:Nat) (more:List Row) (b4:List (OKey×V)),σ'=[u8 (.ref g),u8 (.int t),u8 v,u8 (.ref b),o4,o5]/\(∀b o,b≠R->b≠Dk->H b=u8 o->H' b=u8 o)/\Gr u K C D Gc g W r Bh R Dk z bs H'/\Rw u P w K R Dk bs z H' (aE++more) b4/\valV b4 (keyC t st)=u8 (.int k)/\Lead (aE++more) t k (semC u bs z (d'+1) t o)/\Old t aT b4/\Cnt t more/\more.length+1<=2 ^ (d'+1)/\StAt K H' b st,?_,?_⟩
   .refine⟨_,ξ,_,ξ,(by show 2<=sizeLine;decide),λx hx=>?_⟩
    have sx:=vk hx (.tup [.int (t:Int),.ref b]);have l6:=sx _ _ hg1;have ux:=rw1.same sx;have gr2:=gr1.same sx;have qE:StAt K (upd H1 x (.tup [.int (t:Int),.ref b])) b st:=sx.ts.seq hb;refine⟨_,ξ,g,Gc,dg,_,_,ξ,l6,O.cl,O.nK,Nt _ _ _ _ _ _,Dk,valV aT (keyC t st),ξ,⟨aT,keyC t st,x,ux.dn,ξ,Wd Ab qE,ξ⟩,_,ξ,?_⟩;have s2:=s1.trans sx;cases ev:valV aT (keyC t st) with
    | some v0 =>
     obtain⟨k,rfl,_,ld⟩:=rw0.kn t st v0 ev;refine iteF ⟨_,_,k,[],aT,ξ,λb o _ _ e=>s2 _ _ e,gr2,by rw[B5];exact ux,ev,?_,λ_ _ _=>rfl,cnt_nil,by simp;exact p2,qE⟩;rw[B5,ABz e,show d'=bs.length-1-t by lia];exact ld
    | none =>
     refine iteT ?_;have rH:=sx _ _ uF;have e1:((t:Int)+1)=((t+1:Nat):Int):=by lia
     refine⟨_,ξ,g,dg,_,ξ,l6,ξ,_,ξ,_,_,ξ,ξ,_,ξ,g,Gc,dg,_,_,ξ,l6,O.cl,O.nU,LK _ _ _ _ _ _,r,dr,_,ξ,rH,u.nL,_,ξ,g,Gc,dg,_,_,ξ,l6,O.cl,O.nW,Qx _ _ _ _ _ _,_,ξ,_,ξ,_,_,_,_,ξ,?_⟩;refine kT _ _ _ _ yR ⟨g,W,r,Bh,R,Dk,z,t+1,bs,.ref b,u8 st,aE,aT,G,congrArg (λi=>[V.ref g,V.int i,V.ref b]) e1,yS td,gr2,z1,z10,b8,okb,gd,(gd t o st tn go e).2.1,⟨b,ξ,qE,sl⟩,ux,by rw[CF];lia,λk1 a7 kvs1 H3 kp3 sE uB uw cnt1 ml1=>?_⟩;rw[CF] at uB ml1;obtain⟨xs2,mE,_⟩:=id ux.at_;obtain⟨_,_,ax2,rZ,_⟩:=id ux.dn;have rf:=gr2.keep kp3 mE rZ;have ts3:=tsRD kp3 mE rZ;obtain⟨dg3,hg3⟩:=rf.ins;obtain⟨dr3,uN⟩:=rf.rul;have sU:StAt K H3 b st:=ts3.seq qE;refine⟨_,ξ,g,dg3,_,ξ,hg3,ξ,_,ξ,_,_,ξ,ξ,_,ξ,g,Gc,dg3,_,_,ξ,hg3,O.cl,O.nU,LK _ _ _ _ _ _,r,dr3,_,ξ,uN,u.nT,_,ξ,g,Gc,dg3,_,_,ξ,hg3,O.cl,O.nW,Qx _ _ _ _ _ _,_,ξ,_,ξ,r,W,b,dr3,t,z,bs,st,ξ,uN,rf.web,okb,sU,sl,(gd t o st tn go e).1,tn,z10,λv4 H4 s4 rs4=>?_⟩;have oo:=sE.same s4;have gr4:=rf.same s4;refine kT _ _ _ _ yR ⟨g,W,r,Bh,R,Dk,z,t+1,bs,v4,takU u bs t st,aE++a7,kvs1,G,congrArg (λi=>[V.ref g,V.int i,v4]) e1,yS td,gr4,z1,z10,b8,okb,gd,(gd t o st tn go e).2.2,rs4,oo,by rw[CF,A2];lia,λk2 a8 rF H5 kp5 rD rP ku cnt2 ml2=>?_⟩;rw[CF] at rP ml2;obtain⟨xs4,g9,_⟩:=id oo.at_;obtain⟨_,_,ax4,u4,_⟩:=id oo.dn;have gr5:=gr4.keep kp5 g9 u4;have ts5:=tsRD kp5 g9 u4;obtain⟨dg5,hg5⟩:=gr5.ins;have hb5:StAt K H5 b st:=ts5.seq (s4.ts.seq sU);obtain⟨iO,gu,sJ⟩:=id rD.at_;obtain⟨_,_,ax5,rK,_⟩:=id rD.dn;have lx5:=AT sJ;refine⟨_,ξ,g,Gc,dg5,_,_,ξ,hg5,O.cl,O.nR,Rz _ _ _ _ _ _,.inl ⟨ξ,_,vd gu⟩,_,ξ,_,ξ,_,ξ,(by show 3<=sizeLine;decide),λy hy=>?_⟩;have sy:=vk hy (.tup [.int (t:Int),.int (k1:Int),.int (k2:Int)]);have l5:iO.length<=4100:=by
      rw[<- lx5];simp only[A2];lia
     refine⟨R,_,_,ξ,ξ,sy _ _ gu,smallN (xM l5),?_⟩;obtain⟨ok6,ld6⟩:=Zi (lef:=lefU) (tak:=takU u bs) (g:=semC u bs z d' (t+1)) (st:=st) rD.ok tn (uB.app sE.ok) rP;have RD:=Cu gu rK (by intro z;cases z);have gR:=Cu hg5 gu (by intro z;cases z);have um:=sy _ _ gu;have tl6:=vi (o:=.lst (iO++[.ref y])) um;have k6:∀c o,c≠R->H5 c=u8 o->(upd (upd H5 y (.tup [.int (t:Int),.int (k1:Int),.int (k2:Int)])) R (.lst (iO++[.ref y]))) c=u8 o:=λc o h e=>by rw[Ag h];exact sy _ _ e
     have tR:=gr5.keep (H':=upd (upd H5 y (.tup [.int (t:Int),.int (k1:Int),.int (k2:Int)])) R (.lst (iO++[.ref y]))) (λc o h _ e=>k6 c o h e) gu rK;have dn6:=rD.dn.keep (H':=upd (upd H5 y (.tup [.int (t:Int),.int (k1:Int),.int (k2:Int)])) R (.lst (iO++[.ref y]))) (λo=>k6 _ o (BU RD)) (sy.ts.trans tl6);have uZ:StAt K (upd (upd H5 y (.tup [.int (t:Int),.int (k1:Int),.int (k2:Int)])) R (.lst (iO++[.ref y]))) b st:=(sy.ts.trans tl6).seq hb5;have gX:(upd (upd H5 y (.tup [.int (t:Int),.int (k1:Int),.int (k2:Int)])) R (.lst (iO++[.ref y]))) R=u8 (.lst (iO++[.ref y])):=Ab;have px6:A9 (K34s.rRow K (upd (upd H5 y (.tup [.int (t:Int),.int (k1:Int),.int (k2:Int)])) R (.lst (iO++[.ref y])))) (aE++a7++a8++[(t,k1,k2)]) (iO++[.ref y]):=by
      refine vg (vj (λ_ _ c=>K34s.Bd _ _ _ _ (sy.ts.trans tl6) c) sJ) (vh ⟨y,ξ,ve ?_⟩);rw[Ag (Cu Ab um (by intro z;cases z))];exact Ab
     generalize upd (upd H5 y (.tup [.int (t:Int),.int (k1:Int),.int (k2:Int)])) R (.lst (iO++[.ref y]))=H6 at k6 tR dn6 uZ gX px6;obtain⟨dg6,hg6⟩:=tR.ins;obtain⟨_,_,ax6,nX,_⟩:=id dn6;have new:valV rF (keyC t st)=u9:=by rw[ku t st wR,uw t st wR,ev]
     have kl2:=rD.len;refine⟨_,ξ,g,Gc,dg6,_,_,ξ,hg6,O.cl,O.nR,Rz _ _ _ _ _ _,R,_,ξ,.inl (vd gX),_,_,ξ,ξ,_,ξ,g,Gc,dg6,_,_,ξ,hg6,O.cl,O.nK,Nt _ _ _ _ _ _,_,ξ,_,ξ,(by show 2<=sizeLine;decide),λu hu=>?_⟩;have su:=vk hu (.tup [.int (t:Int),.ref b]);refine⟨Dk,rF,keyC t st,u,ξ,ξ,dn6.keep (λo=>su _ o) su.ts,Wd Ab (su.ts.seq uZ),new,smallN (by rw[lx5] at kl2;lia),λH9 rJ dn9=>?_⟩;have kl:(((iO++[V.ref y]).length:Nat):Int)+1=(((aE++a7++a8).length+2:Nat):Int):=by
      rw[A2,DC,<- lx5];lia
     rw[show(λ(i j:Int)=>V.int (i+j)) (((iO++[V.ref y]).length:Nat):Int) 1=V.int (((aE++a7++a8).length+2:Nat):Int) from congrArg V.int kl] at dn9;have k9:∀c o,c≠Dk->H6 c=u8 o->H9 c=u8 o:=λc o h e=>by rw[rJ c h];exact su _ _ e
     have eas:aE++(a7++a8++[(t,k1,k2)])=aE++a7++a8++[(t,k1,k2)]:=by simp only[CH]
     have ts9:=tsRD (R:=R) (D:=Dk) (λc o _ h e=>k9 c o h e) gX nX;refine⟨_,_,(aE++a7++a8).length+2,a7++a8++[(t,k1,k2)],putK rF (keyC t st) (.int (((aE++a7++a8).length+2:Nat):Int)),ξ,λc o h1 h2 e=>?_,?_,?_,?_,?_,?_,ACz cnt1 cnt2,?_,ts9.seq uZ⟩
     .exact k9 _ _ h2 (k6 _ _ h1 (kp5 _ _ h1 h2 (s4 _ _ (kp3 _ _ h1 h2 (s2 _ _ e)))))
     .exact tR.keep (λc o _ h e=>k9 c o h e) gX nX
     .rw[eas]
      refine⟨⟨_,k9 _ _ RD gX,vj (λ_ _ c=>K34s.Bd _ _ _ _ ts9 c) px6⟩,dn9,ok6,λt' a6 v' ny=>?_,?_⟩
      .rw[Em] at ny
       by_cases c:keyC t' a6=keyC t st
       .rw[vB c] at ny
        cases ny;obtain⟨rfl,rfl⟩:=Ua c;refine⟨_,ξ,tn,?_⟩;rw[show bs.length-1-t'=d' by lia];exact ld6
       .rw[vA c] at ny
        exact(rD.kn.app rD.ok) t' a6 v' ny
      .rw[JQ _ new,A2,DC,A2,DC]
       exact xN kl2
     .rw[Em,vB rfl]
     .rw[eas,ABz e]
      exact ld6
     .intro t' a6 lt
      rw[Em,vA (λc=>by have:=(Ua c).1;exact wj lt this),ku t' a6 (wb lt),uw t' a6 (wb lt)]
     .simp only[A2,DC]
      lia
   .rintro σ H6 ⟨o4,o5,k,more,b4,rfl,kp,tR,rw6,val,ld,bv,cnt,ml,uZ⟩
    obtain⟨dg6,hg6⟩:=tR.ins;refine⟨_,ξ,g,Gc,dg6,_,_,ξ,hg6,O.cl,O.nK,Nt _ _ _ _ _ _,_,ξ,_,ξ,(by show 2<=sizeLine;decide),λy hy=>?_⟩;have sy:=vk hy (.tup [.int (t:Int),.ref b]);exact⟨Dk,.int k,ξ,⟨b4,keyC t st,y,rw6.dn.keep (λo=>sy _ o) sy.ts,ξ,Wd Ab (sy.ts.seq uZ),val⟩,q k more b4 _ (λc o h1 h2 e=>sy _ _ (kp c o h1 h2 e)) (rw6.same sy) ld bv cnt ml⟩
end
def YZ(u:Wr)(P:AL)(w:AR)(K:As)(C Dc Gc:Addr):Sp:=λvs H Q _=>∃(g dx W r dr:Addr) (z:Nat) (bs:vH),vs=[.ref g,.ref W,.ref r]/\H g=u8 (.ins Gc dx [])/\W≠g/\r≠g/\WebAt K C H W z bs/\H r=u8 (.ins Dc dr u.fl)/\z<=10/\bs.length<=12 /\
 ∀(Bh R D:Addr) (H':Hp),(∀b o,H b=u8 o->b≠g->H' b=u8 o)->Gr u K C Dc Gc g W r Bh R D z bs H'->Rw u P w K R D bs z H' [] []->H R=none->H D=none->Q .non H'
section
variable{u:Wr}
def AFx:FnScope zl10 zl10 (Af RZ):=fscp ψ
def Lz(F:Fun K "__init__" "Growth.__init__" RZ f fd)(T:Txt K mg C)(O:Gro K mg Gc)
  (GT:FnOk P w K mg base CX0 1 fT df zl0 (RW K C)) (bT:Binds K df zl0 []) (mT:Meth K C "ties" fT)
  (GB:Cal P w K mg base 2 fB oP "points_behind" zl9 (ADP K C)) :
  FnOk P w K mg base CX0 3 f fd zl10 (YZ u P w K C D Gc):=by
 refine F.ok AFx (λbt A outer s H vs Q E hr h=>?_);obtain⟨g,dx,W,r,dr,z,bs,rfl,hg,Wg,rg,hW,fe,z10,b8,q⟩:=h;have bo:Room 1 _:=hr.mono ζ;refine⟨_,Ad (Dy (pv 0) (pv 1) rfl)
  (Ad (Dy (pv 0) (pv 2) rfl)
  (Ad (Dy (pv 0) (Az Av rfl T.len CC (Aa (BZ (pv 1) T.cl mT GT bo bT .nil pass0) Ac)) rfl)
  (Ad (Dy (pv 0) (Bu (Af RZ) ["number"] ["web"] [1] rfl rfl ψ ⟨⟨ξ,ψ⟩,trivial⟩ (DK rfl T.range (Aa (Aw CQ (Bk (pv 0) rfl) Ae) Ac))
   (λ_ _ _=>BL (i:=0)) (λ_ _ _=>Cv)
   (λ_ _ _=>Ay GB hr rfl (Aa (pv 1) (Aa (pv 0) Ac)))) rfl)
  (Ad (Dy (pv 0) (DG Ac) rfl)
  (Ah (Dy (pv 0) ADX rfl)))))),?_⟩
 have tsI:∀{H0:Hp}{fs gs:List (Str×V)},H0 g=u8 (.ins Gc dx fs)->TSm H0 (upd H0 g (.ins Gc dx gs)):=λ{H0 fs gs} hP b u hb t=>by
  rw[Ag ?_]
  .exact hb
  .rintro rfl
   rw[hP] at hb;cases hb;obtain⟨ys,e| ⟨o,e⟩⟩:=t
   .cases e
   .cases e
 refine⟨_,ξ,_,ξ,g,Gc,dx,[],ξ,hg,O.cl,O.nW,ζ,?_⟩;refine⟨_,ξ,_,ξ,g,Gc,dx,_,ξ,Ab,O.cl,O.nU,(by show 1<1000;decide),?_⟩;rw[HW];have k1:∀b o,b≠g->H b=u8 o->(upd H g (.ins Gc dx (putF "rule" (.ref r) (putF "web" (.ref W) [])))) b=u8 o:=λb o h e=>by rw[Ag h];exact e
 have ts1:=tsI (gs:=putF "rule" (.ref r) (putF "web" (.ref W) [])) hg;have g1:(upd H g (.ins Gc dx (putF "rule" (.ref r) (putF "web" (.ref W) [])))) g=u8 (.ins Gc dx (putF "rule" (.ref r) (putF "web" (.ref W) []))):=Ab;generalize upd H g (.ins Gc dx (putF "rule" (.ref r) (putF "web" (.ref W) [])))=H1 at k1 ts1 g1;have pM:WebAt K C H1 W z bs:=by
  obtain⟨d,j,a1,a2⟩:=hW;exact⟨d,j,k1 _ _ Wg a1,Ak (Ak Am) _ _ _ _ ts1 a2⟩
 obtain⟨dw,jw,hw1,_⟩:=id pM;refine⟨_,ξ,W,dw,_,ξ,hw1,ξ,W,z,bs,ξ,pM,λl H2 s2 hl hL=>?_⟩;obtain⟨l',ts,el,hX,px⟩:=hL;cases el;have lt:=(AT px).symm;refine⟨l,_,ξ,.inl hX,_,ξ,g,Gc,dx,_,ξ,s2 _ _ g1,O.cl,O.nA,(by show 2<1000;decide),?_⟩;have g2:=s2 _ _ g1;rw[lt];have k3:∀b o,b≠g->H b=u8 o->(upd H2 g (.ins Gc dx (putF "amount" (.int (bs.length:Nat)) (putF "rule" (.ref r) (putF "web" (.ref W) []))))) b=u8 o:=λb o h e=>by rw[Ag h];exact s2 _ _ (k1 b o h e)
 have ts3:=ts1.trans (s2.ts.trans (tsI (gs:=putF "amount" (.int (bs.length:Nat)) (putF "rule" (.ref r) (putF "web" (.ref W) []))) g2));have g3:(upd H2 g (.ins Gc dx (putF "amount" (.int (bs.length:Nat)) (putF "rule" (.ref r) (putF "web" (.ref W) []))))) g=u8 (.ins Gc dx (putF "amount" (.int (bs.length:Nat)) (putF "rule" (.ref r) (putF "web" (.ref W) [])))):=Ab;generalize upd H2 g (.ins Gc dx (putF "amount" (.int (bs.length:Nat)) (putF "rule" (.ref r) (putF "web" (.ref W) []))))=H3 at k3 ts3 g3;have hW3:WebAt K C H3 W z bs:=by
  obtain⟨d,j,a1,a2⟩:=hW;exact⟨d,j,k3 _ _ Wg a1,Ak (Ak Am) _ _ _ _ ts3 a2⟩
 refine⟨_,ξ,g,Gc,dx,_,_,ξ,g3,O.cl,O.nA,(by rw[Aj,vB rfl]),_,_,ξ,ξ,_,ξ,δ,δ,λBh hBh=>?_⟩;refine Cj (lo:=0) (n:=(((bs.length:Nat):Int)+1).toNat) (λj τ H4=>∃(o:Option V) (ys:List V),τ=[o,u8 (.ref W)]/\Same H3 H4/\H4 Bh=u8 (.lst ys)/\A9 (λt v=>∃l,v=.ref l/\l≠Bh/\H4 l=u8 (.lst (nI (behP bs z t)))) (AX j) ys) ⟨u9,[],ξ,vk hBh _,Ab,.nil⟩ ?_ ?_
 .rintro j τ H4 hj ⟨o,ys,rfl,s4,eB,pB⟩
  have ej:(0:Int)+j=(j:Int):=wq;rw[ej];have ly:=AT pB;rw[B6] at ly;refine yesN ⟨_,ξ,_,ξ,W,j,z,bs,ξ,hW3.same s4,z10,b8,λm H5 s5 hm em=>?_⟩;have GB.m:m≠Bh:=λz=>by rw[z,eB] at hm;cases hm
  refine⟨_,s5 _ _ eB,BK δ,_,_,ξ,(s4.trans s5).put hBh _,Ab,?_⟩
  .rw[G2]
   refine vg (vj (by rintro t v ⟨l,e1,e2,e3⟩;exact⟨l,e1,e2,by rw[Ag e2];exact s5 _ _ e3⟩) pB) (vh ⟨m,ξ,GB.m,by rw[Ag GB.m];exact em⟩)
 rintro τ H4 ⟨o,ys,rfl,s4,eB,pB⟩;rw[show(((bs.length:Nat):Int)+1).toNat=bs.length+1 by lia] at pB;have g4:=s4 _ _ g3;have gB:Bh≠g:=λz=>by rw[z,g4] at eB;cases eB
 refine⟨_,ξ,g,Gc,dx,_,ξ,g4,O.cl,O.nB,(by show 3<1000;decide),?_⟩;have nBH:H Bh=u9:=by
  cases e:H Bh with
  | none=>rfl
  | some o=>have:=k3 _ _ gB e;rw[hBh] at this;cases this
 refine⟨Bz _,λR hR=>?_⟩;have gR:R≠g:=λz=>by rw[z,Ab] at hR;cases hR
 have hR4:H4 R=u9:=by rw[Ag gR] at hR;exact hR
 have BR:=Ai eB hR4;refine⟨_,ξ,g,Gc,dx,_,ξ,by rw[Ag (BU gR)];exact Ab,O.cl,O.nR,(by show 4<1000;decide),?_⟩;refine λDk hD dn0=>?_;have gD:Dk≠g:=λz=>by rw[z,Ab] at hD;cases hD
 have RD:Dk≠R:=λz=>by rw[z,Ag gR,Ab] at hD;cases hD
 have hD4:H4 Dk=u9:=by rw[Ag gD,Ag RD,Ag gD] at hD;exact hD
 refine⟨_,ξ,g,Gc,dx,_,ξ,by rw[Ag (BU gD)];exact Ab,O.cl,O.nK,(by show 5<1000;decide),?_⟩;have fin:∀b o,b≠g->H4 b=u8 o->(upd (upd (upd (upd (upd H4 g (.ins Gc dx (putF "behind" (.ref Bh) (putF "amount" (.int (bs.length:Nat)) (putF "rule" (.ref r) (putF "web" (.ref W) [])))))) R (.lst [])) g (.ins Gc dx (putF "rows" (.ref R) (putF "behind" (.ref Bh) (putF "amount" (.int (bs.length:Nat)) (putF "rule" (.ref r) (putF "web" (.ref W) []))))))) Dk (dO P w Dk [])) g (.ins Gc dx (gf W r (bs.length:Nat) Bh R Dk))) b=u8 o:=λb o h e=>by
  rw[Ag h,Ag (Ai e hD4),Ag h,Ag (Ai e hR4),Ag h];exact e
 have fT:TSm H4 (upd (upd (upd (upd (upd H4 g (.ins Gc dx (putF "behind" (.ref Bh) (putF "amount" (.int (bs.length:Nat)) (putF "rule" (.ref r) (putF "web" (.ref W) [])))))) R (.lst [])) g (.ins Gc dx (putF "rows" (.ref R) (putF "behind" (.ref Bh) (putF "amount" (.int (bs.length:Nat)) (putF "rule" (.ref r) (putF "web" (.ref W) []))))))) Dk (dO P w Dk [])) g (.ins Gc dx (gf W r (bs.length:Nat) Bh R Dk))):=λb u hb t=>fin b u (λz=>by
  rw[z,g4] at hb;cases hb;obtain⟨ys,e| ⟨o,e⟩⟩:=t
  .cases e
  .cases e) hb
 have bv:∀x,x≠g->H4 x=none->H x=u9:=λx h n=>by
  cases e:H x with
  | none=>rfl
  | some o=>have:=s4 _ _ (k3 _ _ h e);rw[n] at this;cases this
 refine q Bh R Dk _ (λb o e h=>fin b o h (s4 _ _ (k3 b o h e))) ⟨⟨dx,Ab⟩,?_,⟨dr,fin _ _ rg (s4 _ _ (k3 _ _ rg fe))⟩,⟨ys,fin _ _ gB eB,BR,vj (by rintro t v ⟨l,e1,e2,e3⟩;exact⟨l,e1,Ai e3 hR4,fin _ _ (λz=>by rw[z,g4] at e3;cases e3) e3⟩) pB⟩⟩ ?_ (bv R gR hR4) (bv Dk gD hD4)
 .obtain⟨d,j,a1,a2⟩:=hW3.same s4
  exact⟨d,j,fin _ _ Wg a1,Ak (Ak Am) _ _ _ _ fT a2⟩
 .refine⟨⟨[],by rw[Ag gR,Ag (BU RD),Ag gR,Ab],.nil⟩,dn0.keep (λo e=>by rw[Ag gD];exact e) (tsI (fs:=_) (by rw[Ag (BU gD)];exact Ab)),λi r h=>(by simp at h),λt st v hv=>(by cases hv),AI _⟩
end
section
variable{u:Wr}
theorem HB{fP fL fT fU:Addr}{lL nv df q5:BA}(F:Fun K "knot_at" "Growth.knot_at" Lb f fd)(T:Txt K mg C)(cD:Cls K D)(O:Gro K mg Gc)
  (GP:FnOk P w K mg base CX0 4 fP lL zl24 (Wh u K C D Gc)) (bP:Binds K lL zl24 []) (mP:Meth K Gc "past_points" fP)
  (GL:FnOk P w K mg base CX0 1 fL nv zl13 Xy) (bL:Binds K nv zl13 []) (mL:Meth K D "left" fL)
  (GT:FnOk P w K mg base CX0 3 fT df zl13 (Sd u K C D)) (bT:Binds K df zl13 []) (mT:Meth K D "taken" fT)
  (GU:FnOk P w K mg base CX0 1 fU q5 zl12 (ABb u K)) (bU:Binds K q5 zl12 []) (mU:Meth K D "fulfilled" fU)
  (bK:Binds K fd zl24 []) (mK:Meth K Gc "knot_at" f):∀d,FnOk P w K mg base CX0 (d+5) f fd zl24 (Mv u P w K C D Gc d)
 | 0=>Mw 0 F T cD O GP bP mP GL bL mL GT bT mT GU bU mU (sp:=λ_ _ _ _=>False) (λ_ _ _ _ h=>vF rfl h) (F.ok Ge (λbt A outer s H vs Q E hr h=>EH h) (λvs H Q E h=>EH h)) bK mK
 | d+1=>Mw (d+1) F T cD O GP bP mP GL bL mL GT bT mT GU bU mU (sp:=Mv u P w K C D Gc d) (λ_ _ _ _ _ h=>h) (HB F T cD O GP bP mP GL bL mL GT bT mT GU bU mU bK mK d) bK mK
end
end K34
namespace L2
open PySem
def rO:Rep (Option Int):=λ_ c v=>v=oV c
def ACZ{a b:Option Int}(h:oV a=oV b):a=b:=by
 cases a<;>cases b<;>first| rfl| (cases h;done)| (injection h with h;rw[h])
def Ql:Dat X 0 rO where
 eq:=λaI s σ H A a b x y u v I hu ha hb ru rv=>by
  cases ha;cases hb;cases a with
  | none =>
   cases ru;cases b with
   | none =>
    cases rv;rw[vC rfl];exact LD .none
   | some j =>
    obtain⟨t,rfl⟩:=rv;rw[vD (by intro z;cases z)];exact M6 j t
  | some i =>
   obtain⟨t,rfl⟩:=ru;cases b with
   | none =>
    cases rv;rw[vD (by intro z;cases z)];exact M7 i t
   | some j =>
    obtain⟨t',rfl⟩:=rv;have e:=LH (A:=A) (s:=s) i t j t';rw[MD] at e;rw[show decide ((u8 i:Option Int)=u8 j)=decide (i=j) from decide_eq_decide.mpr ⟨AM,λz=>by rw[z]⟩];exact e
 fn:=λaI s σ H a b x I ha hb=>ACZ (ha.symm.trans hb)
theorem Ml{H:Hp}:∀(st:List (Option Int)),A9 (rO H) st (st.map oV)
 | []=>.nil
 | c::st=>.cons rfl (Ml st)
end L2
namespace K34
open PySem L2 G
structure Dn(K:As)(mg:vM)(a:Addr):Prop where
 mgD:mg "DONE" = u8 (.ref a)
 at_:∀H,SqT K H a []
def Xf{st:StO}(h:StAt K H b st):rTup K rO H st (.ref b):=⟨b,_,ξ,h,Ml st⟩
def Ju{st:StO}{p:Nat}(h:p<st.length):atI (st.map oV) (p:Int)=u8 (oV (st.getD p u9)):=Bv (by rw[AV,AD,AK h];rfl)
def AFp(c:Option Int):flatV (oV c)=true:=by cases c<;>rfl
def AHY(c:Option Int)(p:Nat):inV (oV c) [V.non,V.int (p:Int)]=decide (c=u9\/c=u8 (p:Int)):=by
 cases c with
 | none=>rfl
 | some i =>
  show(eqV .non (.int i)||(eqV (.int (p:Int)) (.int i)||false))=_;have e1:eqV .non (.int i)=false:=rfl;have e2:eqV (.int (p:Int)) (.int i)=decide ((p:Int)=i):=by
   first
    | rfl
    | (unfold eqV;rw[MD])
  rw[e1,e2,W5,On];refine decide_eq_decide.mpr ⟨λh=>.inr (by rw[h]),λh=>?_⟩;rcases h with h| h
  .cases h
  .injection h with h
   exact h.symm
structure NoF(fl:List (Str×V)):Prop where
 nP:fl.lookup ("passed" : Str)=u9
 nL:fl.lookup ("left" : Str)=u9
 nT:fl.lookup ("taken" : Str)=u9
 nU:fl.lookup ("fulfilled" : Str)=u9
 nB:fl.lookup ("begun" : Str)=u9
 nM:fl.lookup ("may_stay" : Str)=u9
 nC:fl.lookup ("closed" : Str)=u9
 nR:fl.lookup ("refuse_web" : Str)=u9
noncomputable def uS(rd:Bool)(fl:List (Str×V))(h:NoF fl):Wr:=⟨passR1 rd,takeR rd,λst=>decide (st=[]),λ_ _ _=>True,VldS,fl,h.nP,h.nL,h.nT,h.nU,h.nB⟩
def Ry(rd:Bool)(K:As):Sp:=λvs H Q _=>∃(a:V) (b:Addr) (p:Nat) (st:StO),vs=[a,.ref b,.int p]/\StAt K H b st/\p<st.length/\∀H',Same H H'->Q (.bl (stayR rd st p)) H'
section
variable{hf:NoF fl}
def AHC:FnScope zl11 zl11 (Af Za):=fscp ψ
def ZF(F:Fun K "may_stay" "Strands.may_stay" Za f fd):FnOk P w K mg base CX0 1 f fd zl11 (Ry false K):=by
 refine F.ok AHC (λbt A outer s H vs Q E hr h=>?_);obtain⟨a,b,p,st,rfl,hb,pl,q⟩:=h;refine⟨_,Ah (Ar (Fp QD (Ax Bc (pv 1) (pv 2)) (Bs (Aa IW (Aa (pv 2) Ac))) rfl)),?_⟩;refine⟨_,ξ,_,ξ,b,_,_,_,ξ,ξ,hb,Ju pl,_,ξ,(by show 2<=sizeLine;decide),λt ht=>?_⟩;refine⟨t,_,ξ,.inr (ve Ab),AFp _,ξ,?_⟩;rw[vA ζ,AHY];have e:stayR false st p=decide (st.getD p u9=u9\/st.getD p u9=u8 (p:Int)):=decide_eq_decide.mpr (or_congr_right ⟨λh=>h.2,λh=>⟨ξ,h⟩⟩);rw[<- e];exact q _ (vk ht _)
def AEd:FnScope zl11 zl11 (Af WQ):=fscp ψ
def ACk(F:Fun K "may_stay" "Rounds.may_stay" WQ f fd):FnOk P w K mg base CX0 1 f fd zl11 (Ry true K):=by
 refine F.ok AEd (λbt A outer s H vs Q E hr h=>?_);obtain⟨a,b,p,st,rfl,hb,pl,q⟩:=h;refine⟨_,Ah (Ar (AGl (Qs (Ax Bc (pv 1) (pv 2))))),?_⟩;refine⟨_,ξ,_,ξ,b,_,_,_,ξ,ξ,hb,Ju pl,?_⟩;have e:stayR true st p=decide (oV (st.getD p u9)=.non):=decide_eq_decide.mpr ⟨λh=>by rw[h.resolve_right λh=>Pe h.1];rfl,λh=>.inl (ACZ (b:=u9) h)⟩;show Q (.bl (decide (oV (st.getD p u9)=.non))) H;rw[<- e];exact q _ (vf _)
def AIe:FnScope zl12 zl12 (Af ADQ):=fscp ψ
def WL(F:Fun K "fulfilled" "Strands.fulfilled" ADQ f fd)(N:Dn K mg da):FnOk P w K mg base CX0 1 f fd zl12 (ABb (uS rd fl hf) K):=by
 refine F.ok AIe (λbt A outer s H vs Q E hr h=>?_);obtain⟨r,p,b,st,rfl,hb,q⟩:=h;refine⟨_,Ah (Ar (Fp (Wa Ql (CK hr)) (pv 2) (Fo (v:=.ref da) rfl N.mgD rfl))),?_⟩;exact⟨_,ξ,st,[],Xf hb,⟨da,[],ξ,N.at_ _,.nil⟩,q⟩
def AGm:FnScope zl13 zl13 (Af Vd):=fscp ψ
def RQ(F:Fun K "left" "Rule.left" Vd f fd):FnOk P w K mg base CX0 1 f fd zl13 Xy:=by
 refine F.ok AGm (λbt A outer s H vs Q E hr h=>?_);obtain⟨r,p,b,x,rfl,q⟩:=h;exact⟨_,Ah (Ar (pv 2)),⟨_,ξ,q⟩⟩
def ADN:FnScope zl14 zl14 (Af Gs):=fscp ψ
def Jd(F:Fun K "passed" "Strands.passed" Gs f fd)(T:Txt K mg C)(cD:Cls K D)(N:Dn K mg da)(GA:FnOk P w K mg base CX0 1 fA dE zl11 (Ry rd K))(bA:Binds K dE zl11 [])(mA:Meth K D "may_stay" fA) :
  FnOk P w K mg base CX0 3 f fd zl14 (Ud (uS rd fl hf) K D):=by
 refine F.ok ADN (λbt A outer s H vs Q E hr h=>?_);obtain⟨p,b,dx,a,qp,z,st,rfl,ha,hb,vl,qz,z10,q⟩:=h;have bo:Room 1 _:=hr.mono ζ;refine⟨_,Ad (Bl (Aq (Wa Ql (CK hr)) (pv 2) (Fo (v:=.ref da) rfl N.mgD rfl)) (Ah (Ar (pv 2))) BJ)
  (Ad (Bl (Hw (Ci (pv 0) cD mA GA bo bA .nil pass0 (Aa (pv 2) (Aa (pv 3) Ac))))
   (Ah (Ar (BP Bp rfl T.tuple DE (Aa (Bu (Af Gs) ["other","end"] ["point"] [3] rfl rfl ψ ⟨⟨ξ,ψ⟩,trivial⟩ (VR rfl T.enum (Aa (pv 2) Ac))
    (λ_ _ _=>Gv (K:=K) (n:=2) rfl rfl (Bt (BL (i:=0)) (Bt (BL (i:=1)) Er)))
    (λ_ _ _=>Cv)
    (λ_ _ _=>Tn (Aq EY (pv 0) (pv 2)) IW (pv 1))) Ac)))) BJ)
  (Ah (Ar IW))),?_⟩
 refine⟨_,ξ,st,[],Xf hb,⟨da,[],ξ,N.at_ _,.nil⟩,_,ξ,?_⟩;by_cases c0:st=[]
 .refine iteP c0 ⟨_,ξ,q _ _ (vf _) ?_⟩
  show RS (uS rd fl hf) K z H (.ref b) (passR1 rd st qp);unfold passR1;rw[vB c0];exact⟨b,ξ,hb,vl⟩
 refine iteN c0 ?_;have ln:=VldS.len vl|>.resolve_left c0
 have ql:qp<st.length:=dl qz ln;refine⟨_,ξ,a,dx,_,ξ,ha,hf.nM,_,ξ,_,ξ,.ref a,b,qp,st,ξ,hb,ql,λH1 s1=>⟨_,ξ,?_⟩⟩;have js:StAt K H1 b st:=s1.ts.seq hb;refine ite2 (λc=>?_) (λc=>?_)
 .have e:passR1 rd st qp=u8 (st.set qp u9):=by unfold passR1;rw[vA c0,vB c]
  have q:∀(v':V) (H':Hp),Same H H'->RS (uS rd fl hf) K z H' v' (passR1 rd st qp)->Q v' H':=q;rw[e] at q;refine⟨_,ξ,b,ξ,⟨_,js⟩,λZ hZ=>?_⟩;refine Nm (xs:=st.map oV) (λi τ H2=>∃n t:Option V,τ=[n,t,u8 (.int qp)]/\Same H1 H2/\H2 Z=u8 (.lst (((st.set qp u9).take i).map oV))) ⟨u9,u9,ξ,vk hZ _,Ab⟩ (by rintro i τ H2 _ ⟨_,_,_,sm,_⟩;exact sm.ts.seq js) ?_ ?_
  .rintro i y τ H2 T1 hy nh ⟨n,t,rfl,sm,eZ⟩
   obtain⟨v,hv,rfl⟩:∃v,st[i]?=u8 v/\y=oV v:=by
    rw[AV] at hy;cases g:st[i]? with
    | none=>rw[g] at hy;cases hy
    | some v=>rw[g] at hy;cases hy;exact⟨v,ξ,ξ⟩
   have il:=(AG.mp hv).1;have s2:Same H2 (upd H2 T1 (.tup [.int i,oV v])):=vk nh _;refine⟨T1,_,ξ,ve Ab,ξ,_,_,ξ,_,_,ξ,ξ,yesD ?_⟩;have fin:∀u:Option Int,(st.set qp u9)[i]?=u8 u->∃n t:Option V,[u8 (.int (i:Int)),u8 (oV v),u8 (.int (qp:Int))]=[n,t,u8 (V.int qp)]/\Same H1 (upd (upd H2 T1 (.tup [.int i,oV v])) Z (.lst (((st.set qp u9).take i).map oV++[oV u])))/\(upd (upd H2 T1 (.tup [.int i,oV v])) Z (.lst (((st.set qp u9).take i).map oV++[oV u]))) Z=u8 (.lst (((st.set qp u9).take (i+1)).map oV)):=λu hu=>by
    refine⟨_,_,ξ,(sm.trans s2).put hZ _,?_⟩
    .rw[Ab,DA,hu,BI]
     rfl
   have sl:(((st.set qp u9).take i).map oV).length<sizeLine:=BK (by rw[AB,BV];lia);refine⟨_,ξ,_,ξ,ξ,_,ξ,?_⟩;refine ite2 (λe=>?_) (λe=>?_)
   .have e':i=qp:=by have:=vE e;injection this with this;exact vx this
    subst e';exact⟨_,s2 _ _ eZ,sl,fin u9 (Kb il)⟩
   .have e':i≠qp:=λz=>e (vC (by rw[z]))
    exact⟨_,ξ,_,s2 _ _ eZ,sl,fin v (by rw[KS (BU e')];exact hv)⟩
  .rintro τ H2 ⟨n,t,rfl,sm,eZ⟩
   rw[AB,show st.length=(st.set qp u9).length by rw[EO],CD] at eZ;refine⟨Z,_,ξ,.inl ⟨vd eZ,λt ht=>?_⟩⟩;exact q _ _ (s1.trans (sm.trans (vk ht _))) ⟨t,ξ,ve Ab,VldS.set vl qp u9 (λi z=>by cases z)⟩
 .have e:passR1 rd st qp=u9:=by unfold passR1;rw[vA c0,vA c]
  have q:∀(v':V) (H':Hp),Same H H'->RS (uS rd fl hf) K z H' v' (passR1 rd st qp)->Q v' H':=q;rw[e] at q;exact q _ _ s1 rfl
end
def Ru{k:Nat}(h:k<n):ixN n (k:Int)=u8 k:=by
 unfold ixN;simp;lia
def WY(K:As):Sp:=λvs H Q _=>∃(b tq:Addr) (x y i j:Nat) (st:StO),vs=[.ref b,.ref tq]/\StAt K H b st/\SqT K H tq [.int (x:Int),.int (y:Int)]/\x<st.length/\y<st.length/\i<st.length/\j<st.length/\st.length<=11/\st.getD x u9=u8 (i:Int)/\st.getD y u9=u8 (j:Int) /\
 ∀(b':Addr) (H':Hp),Same H H'->StAt K H' b' (tiedS st x y)->Q (.ref b') H'
section
variable{hf:NoF fl}
def SX:FnScope ["state","tie","ends","one","other"] zl25 (Af ABt):=fscp ψ
def AFr(F:Fun K "strands_tied" "strands_tied" ABt f fd)(T:Txt K mg C):FnOk P w K mg base CX0 1 f fd zl25 (WY K):=by
 refine F.ok SX (λbt A outer s H vs Q E hr h=>?_);obtain⟨b,tq,x,y,i,j,st,rfl,hb,ht,xl,yl,il,jl,s11,ex,ey,q⟩:=h;refine⟨_,Ad (Ao (i:=2) SX.nd (BP Ec rfl T.list EF (Aa (pv 0) Ac)))
  (Ad (Ao (i:=3) SX.nd (Ax Bc (pv 0) (Ax Bc (pv 1) Ae)))
  (Ad (Ao (i:=4) SX.nd (Ax Bc (pv 0) (Ax Bc (pv 1) Ae)))
  (Ad (Jw IW (Ss (pv 2) (Ax Bc (pv 1) Ae) set_list))
  (Ad (Jw IW (Ss (pv 2) (Ax Bc (pv 1) Ae) set_list))
  (Ad (Jw (pv 4) (Ss (pv 2) (pv 3) set_list))
  (Ad (Jw (pv 3) (Ss (pv 2) (pv 4) set_list))
  (Ah (Ar (BP Bp rfl T.tuple DE (Aa (pv 2) Ac)))))))))),?_⟩
 have gx:=Ju xl;have gy:=Ju yl;rw[ex] at gx;rw[ey] at gy;refine⟨_,ξ,b,_,ξ,.inr hb,λL hL=>?_⟩;have s1:=vk hL (.lst (st.map oV));have js:StAt K (upd H L (.lst (st.map oV))) b st:=s1.ts.seq hb;have r4:=s1.ts.seq ht;refine⟨_,ξ,_,ξ,tq,_,_,_,ξ,ξ,r4,at0,b,_,_,_,ξ,ξ,js,gx,?_⟩;refine⟨_,ξ,_,ξ,tq,_,_,_,ξ,ξ,r4,at1,b,_,_,_,ξ,ξ,js,gy,?_⟩;have ml:(st.map oV).length=st.length:=AB ..;refine⟨_,ξ,_,ξ,tq,_,_,_,ξ,ξ,r4,at0,L,_,_,x,ξ,ξ,Ab,Ru (by rw[ml];exact xl),?_⟩;have ht2:=(vi (o:=.lst ((st.map oV).set x .non)) (Ab (H:=H) (a:=L) (o:=.lst (st.map oV)))).seq r4;rw[HW];rw[HW] at ht2;refine⟨_,ξ,_,ξ,tq,_,_,_,ξ,ξ,ht2,at1,L,_,_,y,ξ,ξ,Ab,Ru (by rw[EO,ml];exact yl),?_⟩;rw[HW];refine⟨_,ξ,_,ξ,_,ξ,L,_,_,i,ξ,ξ,Ab,Ru (by simp only[EO];rw[ml];exact il),?_⟩;rw[HW];refine⟨_,ξ,_,ξ,_,ξ,L,_,_,j,ξ,ξ,Ab,Ru (by simp only[EO];rw[ml];exact jl),?_⟩;rw[HW];refine⟨_,ξ,L,_,ξ,.inl ⟨vd Ab,λt ht=>?_⟩⟩;refine q t _ (λc o e=>?_) ?_
 .rw[Ag (Ai (show(upd H L _) c=u8 o by rw[Ag (Ai e hL)];exact e) ht),Ag (Ai e hL)]
  exact e
 .refine ve ?_
  rw[Ab];unfold tiedS;rw[ex,ey];dsimp only;rw[B9,B9,Pf,Pf,Pf,Pf];rfl
end
noncomputable def Dp(st:StO)(x y j:Nat):vI:=(AX j).filter λp=>decide (p≠x/\p≠y)
def Uu(rd:Bool)(fl:List (Str×V))(hf:NoF fl)(K:As)(D:Addr):Sp:=λvs H Q _=>∃(a b tq dx:Addr) (x y z:Nat) (st:StO),vs=[.ref a,.ref b,.ref tq]/\H a=u8 (.ins D dx fl)/\StAt K H b st/\SqT K H tq [.int (x:Int),.int (y:Int)]/\st.length<=11 /\
 ∀(v':V) (H':Hp),Same H H'->RS (uS rd fl hf) K z H' v' (JF rd st x y)->Q v' H'
section
variable{hf:NoF fl}
def Uc:FnScope ["self","state","tie","others"] zl26 (Af Fi):=fscp ψ
def Jm(F:Fun K "closed" "Strands.closed" Fi f fd)(T:Txt K mg C)(cD:Cls K D)(ck:mg "all" = u9)(N:Dn K mg da)(GA:FnOk P w K mg base CX0 1 fA dE zl11 (Ry rd K))(bA:Binds K dE zl11 [])(mA:Meth K D "may_stay" fA) :
  FnOk P w K mg base CX0 2 f fd zl26 (Uu rd fl hf K D):=by
 refine F.ok Uc (λbt A outer s H vs Q E hr h=>?_);obtain⟨a,b,tq,dx,x,y,z,st,rfl,ha,hb,ht,s11,q⟩:=h;refine⟨_,Ad (Yj (i:=3) (Af Fi) ["point"] ["tie"] [2] Uc.nd rfl (MM rfl) rfl rfl ψ ⟨⟨ξ,ψ⟩,trivial⟩ (DK rfl T.range (Aa (Az Av rfl T.len CC (Aa (pv 1) Ac)) Ac))
   (λ_ _ _=>BL (i:=0))
   (λ_ _ _=>Cm (Aq (Hj (K:=K) rfl) (pv 0) (pv 1) rfl)) (λ_ _ _=>pv 0))
  (Ad (Bl (Hw (Az (Ls rfl) rfl ck Z0 (Aa (Bu (Af Fi) ["point"] ["self","state"] [0,1] rfl rfl ψ ⟨⟨ξ,ψ⟩,⟨ξ,ψ⟩,trivial⟩ (CT (pv 3))
    (λ_ _ _=>BL (i:=0)) (λ_ _ _=>Cv)
    (λ_ _ _=>Ci (pv 1) cD mA GA hr bA .nil pass0 (Aa (pv 2) (Aa (pv 0) Ac)))) Ac))) (Ah (Ar (Fo (v:=.ref da) rfl N.mgD rfl))) BJ)
  (Ah (Ar IW))),?_⟩
 have ml:(st.map oV).length=st.length:=AB ..;refine⟨_,ξ,b,_,ξ,.inr hb,_,ξ,δ,by rw[ml];lia,λZ hZ=>?_⟩;refine Cj (lo:=0) (n:=((((st.map oV).length:Nat):Int)).toNat) (λj τ H2=>∃o:Option V,τ=[o,u8 (.ref tq)]/\Same H H2/\H2 Z=u8 (.lst (nI (Dp st x y j)))) ⟨u9,ξ,vk hZ _,Ab⟩ ?_ ?_
 .rintro j τ H2 hj ⟨o,rfl,s2,eZ⟩
  have ej:(0:Int)+j=(j:Int):=wq;rw[ej];have jl:j<st.length:=by rw[ml] at hj;lia
  have lo:(Dp st x y j).length<=j:=BQ (CY ..) (by rw[B6];exact AI _);refine⟨_,ξ,_,ξ,tq,_,ξ,.inr (s2.ts.seq ht),ξ,ξ,_,ξ,?_⟩;have e:inV (V.int (j:Int)) [V.int (x:Int),V.int (y:Int)]=decide ((j:Int)∈[(x:Int),(y:Int)]):=FW (j:Int) [(x:Int),(y:Int)];rw[vB rfl,e];by_cases c:j≠x/\j≠y
  .rw[vD (by intro z;simp at z;lia)]
   refine iteT ⟨_,ξ,_,eZ,BK (by rw[Jr];lia),_,ξ,s2.put hZ _,?_⟩
   .rw[Ab]
    unfold Dp;rw[G2,CI,LV (by simpa using c)];unfold nI;rw[BI];rfl
  .rw[vC (by simp;lia)]
   refine iteF ⟨_,ξ,s2,?_⟩;unfold Dp;rw[G2,CI,JY (by simpa using c),J5,B5];exact eZ
 .rintro τ H2 ⟨o,rfl,s2,eZ⟩
  rw[ml,B9] at eZ;have ol:∀p∈Dp st x y st.length,p<st.length:=λp hp=>AU.mp (BG.mp hp).1;have lo:(Dp st x y st.length).length<=st.length:=BQ (CY ..) (by rw[B6];exact AI _);refine⟨_,ξ,Z,ξ,⟨_,vd eZ⟩,λY hY=>?_⟩;refine Bw (K:=K) (a:=Z) (xs:=nI (Dp st x y st.length)) (λj τ H3=>∃o:Option V,τ=[o,u8 (.ref a),u8 (.ref b)]/\Same H2 H3/\H3 Y=u8 (.lst ((((Dp st x y st.length).take j).map (stayR rd st)).map V.bl))) ⟨u9,ξ,vk hY _,Ab⟩ (by rintro j τ H3 _ ⟨_,_,s3,_⟩;exact s3.seq (vd eZ)) ?_ ?_
  .rintro j v τ H3 hv ⟨o,rfl,s3,eY⟩
   obtain⟨p,hp,rfl⟩:=AEU hv;have jl:=(AG.mp hp).1;have uY:=s2.trans s3;refine yesN ⟨_,ξ,a,dx,_,ξ,uY _ _ ha,hf.nM,_,ξ,_,ξ,.ref a,b,p,st,ξ,uY.ts.seq hb,ol p (By hp),λH4 s4=>?_⟩;refine⟨_,s4 _ _ eY,BK (by rw[AB,AB,BV];lia),_,ξ,(s3.trans s4).put hY _,?_⟩
   .rw[Ab,DA,hp,BI,BI]
    rfl
  .rintro τ H3 ⟨o,rfl,s3,eY⟩
   rw[Jr,CD] at eY;have uY:=s2.trans s3;refine⟨Y,_,ξ,vd eY,_,ξ,?_⟩;have e:(((Dp st x y st.length).map (stayR rd st)).all id)=(Dp st x y st.length).all (stayR rd st):=by rw[Y9];rfl
   rw[e];refine ite2 (λc=>?_) (λc=>?_)
   .refine q _ _ uY ?_
    unfold JF;rw[vB (by exact c)];exact⟨da,ξ,N.at_ _,⟨.inl rfl,λp i z=>by cases z⟩⟩
   .refine q _ _ uY ?_
    unfold JF;rw[vA (by exact c)];exact rfl
def Yg:FnScope ["self","web","state","number","tie"] zl13 (Af Lx):=fscp ψ
def Mu(F:Fun K "taken" "Strands.taken" Lx f fd)(T:Txt K mg C)(cD:Cls K D)(N:Dn K mg da)(GA:FnOk P w K mg base CX0 2 fA dE zl26 (Uu rd fl hf K D))(bA:Binds K dE zl26 [])(mA:Meth K D "closed" fA)
  (GT:FnOk P w K mg base CX0 1 fT df zl0 (RW K C)) (bT:Binds K df zl0 []) (mT:Meth K C "ties" fT)
  (GS:Cal P w K mg base 1 fS e8 "strands_tied" zl25 (WY K)) :
  FnOk P w K mg base CX0 3 f fd zl13 (Sd (uS rd fl hf) K C D):=by
 refine F.ok Yg (λbt A outer s H vs Q E hr h=>?_);obtain⟨a,p,b,dx,t,z,bs,st,rfl,ha,hW,okb,hb,vl,_,tl,z10,q⟩:=h;have vl:VldS z st:=vl;have eK:Room 2 _:=hr.mono ζ;have bo:Room 1 _:=hr.mono ζ;refine⟨_,Ad (Ao (i:=4) Yg.nd (Ax Cg (BZ (pv 1) T.cl mT GT bo bT .nil pass0) (pv 3)))
  (Ad (Bl (vW (Hl (Aq (Wa Ql (CK hr)) (pv 2) (Fo (v:=.ref da) rfl N.mgD rfl))
    (Hl (Hx (Qs (Ax Bc (pv 2) (Ax Bc (pv 4) Ae)))) (Fv (Hx (Qs (Ax Bc (pv 2) (Ax Bc (pv 4) Ae)))))))) (Ah (Ar IW)) BJ)
  (Ad (Bl (Aq EY (Ax Bc (pv 2) (Ax Bc (pv 4) Ae)) (Ax Bc (pv 4) Ae)) (Ah (Ar (Ci (pv 0) cD mA GA eK bA .nil pass0 (Aa (pv 2) (Aa (pv 4) Ac))))) BJ)
  (Ah (Ar (Ay GS bo rfl (Aa (pv 2) (Aa (pv 4) Ac))))))),?_⟩
 obtain⟨dw,jw,hp,_⟩:=id hW;refine⟨_,ξ,p,dw,_,ξ,hp,ξ,p,z,bs,ξ,hW,λl H1 s1 hl hL=>?_⟩;obtain⟨l',xs,el,hX,px⟩:=hL;cases el;have lx:=AT px;have xl:t<xs.length:=wP tl lx;obtain⟨tie,ht,rt⟩:=Paired.get px (AK xl);obtain⟨tq,etq,htq⟩:=Bq rt;obtain⟨x,y,rfl,xz,yz⟩:=okb tie (By ht);have uM:atI xs (t:Int)=u8 (.ref tq):=by
  rw[<- etq];exact Bv (AK xl)
 have gt:bs.getD t []=[(x:Int),(y:Int)]:=by rw[AD,ht];rfl
 have eX:ea bs t=x:=by unfold ea;rw[gt];rfl
 have eY:eb bs t=y:=by unfold eb;rw[gt];rfl
 have ir:SqT K H1 tq [.int (x:Int),.int (y:Int)]:=htq;have js:StAt K H1 b st:=s1.ts.seq hb;have q':∀(v':V) (H':Hp),Same H1 H'->RS (uS rd fl hf) K z H' v' (takeR rd st x y)->Q v' H':=λv' H' s' r'=>q v' H' (s1.trans s') (by show RS (uS rd fl hf) K z H' v' (takeR rd st (ea bs t) (eb bs t));rw[eX,eY];exact r');refine⟨_,ξ,l,xs,_,_,ξ,ξ,hX,uM,?_⟩;refine⟨_,ξ,st,[],Xf js,⟨da,[],ξ,N.at_ _,.nil⟩,_,ξ,?_⟩;by_cases c0:st=[]
 .refine iteP c0 (iteT (q' _ _ (vf _) ?_))
  unfold takeR;rw[vB (.inl c0)];exact rfl
 refine iteN c0 ?_;have ln:=vl.len.resolve_left c0;have gx:=Ju (st:=st) (p:=x) (dl xz ln);have gy:=Ju (st:=st) (p:=y) (dl yz ln);refine⟨_,ξ,_,ξ,tq,_,_,_,ξ,ξ,ir,at0,b,_,_,_,ξ,ξ,js,gx,_,ξ,?_⟩;cases ex:st.getD x u9 with
 | none =>
  refine iteT (iteT (q' _ _ (vf _) ?_));unfold takeR;rw[vB (.inr (.inl ex))];exact rfl
 | some i =>
  rw[ex] at gx;refine iteF ?_;refine⟨_,ξ,_,ξ,tq,_,_,_,ξ,ξ,ir,at1,b,_,_,_,ξ,ξ,js,gy,_,ξ,?_⟩;cases ey:st.getD y u9 with
  | none =>
   refine iteT (q' _ _ (vf _) ?_);unfold takeR;rw[vB (.inr (.inr ey))];exact rfl
  | some j =>
   rw[ey] at gy;have hi:=vl.pts x i ex;have hj:=vl.pts y j ey;have nt:¬ (st=[]\/st.getD x u9=u9\/st.getD y u9=u9):=λh=>by
    rcases h with h| h| h
    .exact c0 h
    .rw[ex] at h;cases h
    .rw[ey] at h;cases h
   refine iteF ?_;refine⟨_,ξ,_,ξ,tq,_,_,_,ξ,ξ,ir,at0,b,_,_,_,ξ,ξ,js,gx,_,ξ,tq,_,_,_,ξ,ξ,ir,at1,ξ,_,ξ,?_⟩;by_cases c2:i=(y:Int)
   .refine iteP (by rw[c2];rfl) ?_
    refine⟨_,ξ,a,dx,_,ξ,s1 _ _ ha,hf.nC,_,ξ,_,ξ,a,b,tq,dx,x,y,z,st,ξ,s1 _ _ ha,js,ir,ar524 ln z10,λv' H' s' r'=>q' v' H' s' ?_⟩;unfold takeR;rw[vA nt,vB (by rw[ex,c2])];exact r'
   .refine iteN (λz=>c2 (by injection z)) ?_
    refine⟨_,ξ,_,ξ,b,tq,x,y,i.toNat,j.toNat,st,ξ,js,ir,dl xz ln,dl yz ln,Tm hi ln,Tm hj ln,ar524 ln z10,by rw[ex,De hi.1],by rw[ey,De hj.1],λb' H' s' lv=>q' _ H' s' ?_⟩;unfold takeR;rw[vA nt,vA (by rw[ex];intro z;exact c2 (AM z))];exact⟨b',ξ,lv,vl.tied⟩
end
noncomputable def rngS(z:Nat):StO:=(AX z).map λ(p:Nat)=>u8 (p:Int)
def Ds(z:Nat):(rngS z).length=z:=by unfold rngS;rw[AB,B6]
def JN{p:Nat}(h:p<z):(rngS z).getD p u9=u8 (p:Int):=by
 unfold rngS;rw[AD,AV,EX h];rfl
def Ul(z:Nat):VldS z (rngS z):=⟨.inr (Ds z),λp i e=>by
 by_cases c:p<z
 .rw[JN c] at e
  cases e;exact xF c
 .rw[AD,DZ (by rw[Ds];exact vo c)] at e
  cases e⟩
abbrev Kd:=Option (Addr×Nat×Nat)
abbrev Kr:=Bool×Kd
def wf(et:Addr):List (Str×V):=putF "ends" (.ref et) []
def JL(et:Addr){m:Str}(h:¬ m = "ends"):(wf et).lookup m=u9:=by
 unfold wf;rw[Aj,vA h];rfl
def Ko(et:Addr):(wf et).lookup ("ends" : Str)=u8 (.ref et):=by
 unfold wf;rw[Aj,vB rfl]
noncomputable def flK:Kd->List (Str×V)
 | none=>[]
 | some (e,_)=>wf e
theorem noK:∀κ:Kd,NoF (flK κ)
 | none=>⟨ξ,ξ,ξ,ξ,ξ,ξ,ξ,ξ⟩
 | some (e,_)=>⟨JL e ψ,JL e ψ,JL e ψ,JL e ψ,JL e ψ,JL e ψ,JL e ψ,JL e ψ⟩
abbrev uK(κ:Kr):Wr:=uS κ.1 (flK κ.2) (noK κ.2)
def heK(K:As)(H:Hp):Kd->Prop
 | none=>True
 | some (e,a,b)=>SqT K H e [.int (a:Int),.int (b:Int)]
theorem Ji(t:TSm H H'):∀{κ:Kd},heK K H κ->heK K H' κ
 | none,_=>trivial
 | some _,h=>t.seq h
def okK(z:Nat):Kd->Prop
 | none=>True
 | some (_,a,b)=>a<z/\b<z/\a≠b
noncomputable def bgK(z:Nat):Kd->StO
 | none=>rngS z
 | some (_,a,b)=>tiedS (rngS z) a b
noncomputable def idF(z:Nat):Fs:=λp=>if p<z then u8 p else u9
noncomputable def fnK(z:Nat):Kd->Fs
 | none=>idF z
 | some (_,a,b)=>tieF (idF z) a b a b
def Ey{p:Nat}(h:p<z):idF z p=u8 p:=vB h
set_option tactic.hygienic true in
theorem ACl{p q:Nat}(h:idF z p=u8 q):p<z/\q=p:=by
 unfold idF at h;split at h
 .rename_i c
  exact⟨c,(AM h).symm⟩
 .cases h
def idF_sym(z:Nat):SymF (idF z):=λx y h=>by
 obtain⟨h1,h2⟩:=ACl h;rw[h2];exact Ey h1
def Kp(z:Nat):RngF z (idF z):=λx y h=>(ACl h).1
def AGb(z:Nat){P:Nat->Prop}(n:∀p,¬ P p):RlR rd z P (rngS z) (idF z):=⟨Ds z,λx hx _=>by rw[JN hx,Ey hx];rfl,λx _ p=>(n x p).elim,idF_sym z,Kp z⟩
theorem AIV{P:Nat->Prop}(n:∀p,¬ P p):∀{κ:Kd},okK z κ->RlR rd z P (bgK z κ) (fnK z κ)
 | none,_=>AGb z n
 | some (_,a,b),⟨ha,hb,ab⟩=>(AGb z n).tie ha hb (n a) (n b) ab (Ey ha) (Ey hb) ab
theorem AGj:∀{κ:Kd},VldS z (bgK z κ)
 | none=>Ul z
 | some _=>(Ul z).tied
noncomputable def edK:Kd->List (Nat×Nat)
 | none=>[]
 | some (_,a,b)=>[(a,b)]
theorem AHM:∀{κ:Kd},okK z κ->∀(E:List (Nat×Nat)),accR rd z (fnK z κ) E↔accR rd z (idF z) (edK κ++E)
 | none,_,E=>ZZ
 | some (_,a,b),⟨ha,hb,ab⟩,E=>by
  constructor
  .exact λh=>⟨a,b,Ey ha,Ey hb,.inr ⟨ab,h⟩⟩
  .rintro⟨i,j,h1,h2,h⟩
   cases (Ey ha).symm.trans h1;cases (Ey hb).symm.trans h2;rcases h with⟨e,_⟩| ⟨_,h⟩
   .exact vF e ab
   .exact h
def Ys(K:As)(D:Addr):Sp:=λvs H Q _=>∃(p dx:Addr) (a b:Nat),vs=[.ref p,.int (a:Int),.int (b:Int)]/\H p=u8 (.ins D dx []) /\
 ∀(e:Addr) (H':Hp),(∀b o,H b=u8 o->b≠p->H' b=u8 o)->heK K H' (u8 (e,a,b))->H' p=u8 (.ins D dx (wf e))->Q .non H'
def ADU(K:As)(C D:Addr):Sp:=λvs H Q _=>∃(r p dx et:Addr) (z a b:Nat) (bs:vH),vs=[.ref r,.ref p]/\H r=u8 (.ins D dx (wf et))/\SqT K H et [.int (a:Int),.int (b:Int)]/\WebAt K C H p z bs/\a<z/\b<z/\a≠b/\Q .non H
def TY(κ:Kd)(K:As)(C D:Addr):Sp:=λvs H Q _=>∃(r p dx:Addr) (z:Nat) (bs:vH),vs=[.ref r,.ref p]/\H r=u8 (.ins D dx (flK κ))/\heK K H κ/\okK z κ/\WebAt K C H p z bs/\z<=10 /\
 ∀(b':Addr) (H':Hp),Same H H'->StAt K H' b' (bgK z κ)->Q (.ref b') H'
def AEP(z:Nat):(below (z:Int).toNat).map V.int=(rngS z).map oV:=by
 rw[B9];unfold rngS below;simp only[ED];rfl
def AFW:FnScope zl15 zl15 (Af Ws):=fscp ψ
def ADy(F:Fun K "__init__" "Ways.__init__" Ws f fd)(cD:Cls K D)(nE:NoAttr K D "ends"):FnOk P w K mg base CX0 1 f fd zl15 (Ys K D):=by
 refine F.ok AFW (λbt A outer s H vs Q E hr h=>?_);obtain⟨p,dx,a,b,rfl,hp,q⟩:=h;refine⟨_,Ah (Dy (pv 0) (Bs (Aa (pv 1) (Aa (pv 2) Ac))) rfl),?_⟩;refine⟨_,ξ,_,ξ,(by show 2<=sizeLine;decide),λe he=>?_⟩;have s1:=vk he (.tup [V.int (a:Int),V.int (b:Int)]);refine⟨_,ξ,p,D,dx,[],ξ,s1 _ _ hp,cD,nE,(by show 0<1000;decide),?_⟩;refine q e _ (λb o h n=>?_) (ve ?_) Ab
 .rw[Ag n]
  exact s1 _ _ h
 .rw[Ag (λe'=>?_)]
  .exact Ab
  .rw[e',hp] at he
   cases he
def scRefW:FnScope ["self","web","end"] zl16 (Af RL):=fscp ψ
def AEp(F:Fun K "refuse_web" "Ways.refuse_web" RL f fd)(T:Txt K mg C)(cD:Cls K D)(nE:NoAttr K D "ends")(GS:FnOk P w K mg base CX0 1 fS e8 zl0 (Jb K C))(bS:Binds K e8 zl0 [])(mS:Meth K C "size" fS) :
  FnOk P w K mg base CX0 2 f fd zl16 (ADU K C D):=by
 refine F.ok scRefW (λbt A outer s H vs Q E hr h=>?_);obtain⟨r,p,dx,et,z,a,b,bs,rfl,h0,ht,hW,az,bz,ab,q⟩:=h;obtain⟨dw,jw,hp,_⟩:=id hW;refine⟨_,Ad (Dj DJ rfl (ABy (Bk (pv 0) rfl)) (Bg (i:=2) scRefW.nd)
   (Ah (Bl (vW (Hl (Aq Hv (pv 2) Ae) (Fv (Aq Yw (pv 2) (BZ (pv 1) T.cl mS GS hr bS .nil pass0))))) Br BJ)))
  (Ah (Bl (Aq EY (Ax Bc (Bk (pv 0) rfl) Ae) (Ax Bc (Bk (pv 0) rfl) Ae)) Br BJ)),?_⟩
 refine⟨_,ξ,r,D,dx,_,_,ξ,h0,cD,nE,Ko et,et,ξ,⟨_,ht⟩,?_⟩;refine ZD (K:=K) (a:=et) (xs:=[.int (a:Int),.int (b:Int)]) (λi σ H2=>∃o:Option V,H2=H/\σ=[u8 (.ref r),u8 (.ref p),o]) ⟨u9,ξ,ξ⟩ (λi σ H2 _ ⟨_,e,_⟩=>by rw[e];exact ht) ?_ ?_
 .rintro i x σ H2 hx ⟨o,rfl,rfl⟩
  obtain⟨c,rfl,cz⟩:∃c:Nat,x=.int (c:Int)/\c<z:=by
   match i,hx with
   | 0,hx=>cases hx;exact⟨a,ξ,az⟩
   | 1,hx=>cases hx;exact⟨b,ξ,bz⟩
   | i+2,hx=>cases hx
  refine⟨_,ξ,_,_,ξ,ξ,_,ξ,iteN wm ?_⟩;exact⟨_,ξ,_,ξ,p,dw,_,ξ,hp,ξ,p,z,bs,ξ,hW,_,_,ξ,ξ,_,ξ,iteN δ ⟨_,ξ,ξ⟩⟩
 .rintro σ H2 ⟨o,rfl,rfl⟩
  exact⟨_,ξ,r,D,dx,_,_,ξ,h0,cD,nE,Ko et,et,_,_,_,ξ,ξ,ht,at0,_,ξ,r,D,dx,_,_,ξ,h0,cD,nE,Ko et,et,_,_,_,ξ,ξ,ht,at1,ξ,_,ξ,iteN (λz=>ab (by injection z with z;exact vx z)) q⟩
def AFV:FnScope zl16 zl16 (Af Rp):=fscp ψ
def Vg(F:Fun K "begun" "Strands.begun" Rp f fd)(T:Txt K mg C)(GS:FnOk P w K mg base CX0 1 fS e8 zl0 (Jb K C))(bS:Binds K e8 zl0 [])(mS:Meth K C "size" fS) :
  FnOk P w K mg base CX0 3 f fd zl16 (TY u9 K C D):=by
 refine F.ok AFV (λbt A outer s H vs Q E hr h=>?_);obtain⟨r,p,dx,z,bs,rfl,h0,_,_,hW,z10,q⟩:=h;have bo:Room 1 _:=hr.mono ζ;refine⟨_,Ah (Ar (BP (GJ rfl) rfl T.tuple DE (Aa (BP Ep rfl T.range J1 (Aa (BZ (pv 1) T.cl mS GS bo bS .nil pass0) Ac)) Ac))),?_⟩;obtain⟨dw,jw,hw,_⟩:=id hW;refine⟨_,ξ,p,dw,_,ξ,hw,ξ,p,z,bs,ξ,hW,(z:Int),ξ,λR hR=>⟨R,(z:Int),ξ,Ab,vt,yE z10,λt ht=>?_⟩⟩;refine q t _ ((vk hR _).trans (vk ht _)) (ve ?_);rw[Ab,AEP];rfl
def AEV:FnScope zl16 zl16 (Af TF):=fscp ψ
def ABN(F:Fun K "begun" "Ways.begun" TF f fd)(T:Txt K mg C)(cD:Cls K D)(nE:NoAttr K D "ends")
  (GR:FnOk P w K mg base CX0 2 fR pE zl16 (ADU K C D)) (bR:Binds K pE zl16 []) (mR:Meth K D "refuse_web" fR)
  (GS:FnOk P w K mg base CX0 1 fS e8 zl0 (Jb K C)) (bS:Binds K e8 zl0 []) (mS:Meth K C "size" fS)
  (GT:Cal P w K mg base 1 fT df "strands_tied" zl25 (WY K)) (x:Addr×Nat×Nat) :
  FnOk P w K mg base CX0 3 f fd zl16 (TY (u8 x) K C D):=by
 obtain⟨et,a,b⟩:=x;refine F.ok AEV (λbt A outer s H vs Q E hr h=>?_);obtain⟨r,p,dx,z,bs,rfl,h0,ht,⟨az,bz,ab⟩,hW,z10,q⟩:=h;have ht:SqT K H et [.int (a:Int),.int (b:Int)]:=ht;obtain⟨dw,jw,hp,_⟩:=id hW;have bo:Room 1 _:=hr.mono ζ;have eK:Room 2 _:=hr.mono ζ;refine⟨_,Ad (Ce (Ci (pv 0) cD mR GR eK bR .nil pass0 (Aa (pv 1) Ac)))
  (Ah (Ar (Ay GT bo rfl (Aa (BP (GJ rfl) rfl T.tuple DE (Aa (BP Ep rfl T.range J1 (Aa (BZ (pv 1) T.cl mS GS bo bS .nil pass0) Ac)) Ac)) (Aa (Bk (pv 0) rfl) Ac))))),?_⟩
 refine⟨_,ξ,r,dx,_,ξ,h0,JL et ψ,_,ξ,r,p,dx,et,z,a,b,bs,ξ,h0,ht,hW,az,bz,ab,?_⟩;refine⟨_,ξ,p,dw,_,ξ,hp,ξ,p,z,bs,ξ,hW,_,ξ,λR hR=>?_⟩;have s1:=vk hR (.rng 0 (z:Int));refine⟨R,(z:Int),ξ,Ab,vt,yE z10,λt hT=>?_⟩;have s2:=s1.trans (vk hT (.tup ((below (z:Int).toNat).map V.int)));refine⟨_,ξ,r,D,dx,_,_,ξ,s2 _ _ h0,cD,nE,Ko et,t,et,a,b,a,b,rngS z,ξ,?_,s2.ts.seq ht,by rw[Ds];exact az,by rw[Ds];exact bz,by rw[Ds];exact az,by rw[Ds];exact bz,by rw[Ds];lia,JN az,JN bz,λb' H' s' lv=>q b' H' (s2.trans s') lv⟩;refine ve ?_;rw[Ab,AEP]
noncomputable def edg(bs:vH)(s:vI):List (Nat×Nat):=s.map λx=>(ea bs x,eb bs x)
def Apart(bs:vH):Prop:=∀x,x<bs.length->ea bs x≠eb bs x
def JV(κ:Kr)(K:As)(C Dc S:Addr):Sp:=λvs H Q _=>∃(W r dr:Addr) (z:Nat) (bs:vH),vs=[.ref W,.ref r]/\WebAt K C H W z bs/\H r=u8 (.ins Dc dr (flK κ.2))/\heK K H κ.2/\okK z κ.2/\1<=z/\z<=10/\bs.length<=12/\OkB z bs/\Apart bs /\
 ∀(p:Addr) (aS:List Row) (hd:Nat) (H':Hp),Same H H'->K34s.SvAt K S H' p bs.length aS hd->Canon bs.length aS hd->(∀s:vI,s.Pairwise (· < ·)->(∀x∈s,x<bs.length)->(led aS hd s=true↔accR κ.1 z (idF z) (edK κ.2++edg bs s)))->aS.length<=4000->Q (.ref p) H'
def AFg{bs:vH}(h:OkB z bs){t:Nat}(tn:t<bs.length):ea bs t<z/\eb bs t<z/\t<Lp bs (ea bs t)/\t<Lp bs (eb bs t):=by
 have hbt:=AK tn;obtain⟨x,y,e,xz,yz⟩:=h bs[t] (Fa tn);have gd:bs.getD t []=bs[t]:=by rw[AD,hbt];rfl
 have ex:ea bs t=x:=by unfold ea;rw[gd,e];rfl
 have ey:eb bs t=y:=by unfold eb;rw[gd,e];rfl
 rw[ex,ey];refine⟨xz,yz,AGY tn ?_,AGY tn ?_⟩<;>(unfold onB;rw[gd,e];simp)
def AHR(κ:Kr){bs:vH}:Good (uK κ) bs z (λ_ _=>True):=λt o st tn g e=>⟨trivial,trivial,trivial⟩
theorem Yh(κ:Kr):∀(ps:vI) (st:StO),passU (uK κ) st ps=passR κ.1 st ps
 | [],st=>rfl
 | p::ps,st=>by
  show(passR1 κ.1 st p).bind _=(passR1 κ.1 st p).bind _
  congr 1
  funext s
  exact Yh κ ps s
def AHy{κ:Kr}{bs:vH}(h:OkB z bs)(ap:Apart bs)(z1:1<=z)(ok:okK z κ.2)(s:vI)(pw:s.Pairwise (· < ·))(hs:∀x∈s,x<bs.length):semC (uK κ) bs z bs.length 0 (u8 (bgK z κ.2)) s=true↔accR κ.1 z (idF z) (edK κ.2++edg bs s):=by
 have e:(λt r=>passU (uK κ) r (behP bs z t))=λt st=>passR κ.1 st ((AX z).filter λp=>decide (Lp bs p=t)):=by
  funext t r
  exact Yh κ _ r
 show semO lefU (takU (uK κ) bs) (λt r=>passU (uK κ) r (behP bs z t)) (uK κ).fu bs.length 0 (u8 (bgK z κ.2)) s=true↔_;rw[e,<- AHM ok];exact Ur (z:=z) (n:=bs.length) (ea:=ea bs) (eb:=eb bs) (L:=Lp bs) z1 (λx xn=>by obtain⟨a,b,c,d⟩:=AFg h xn;exact⟨a,b,ap x xn,c,d⟩) bs.length 0 (bgK z κ.2) (fnK z κ.2) s yJ (AIV (λp hp=>vF hp (PD _)) ok) pw λx hx=>⟨Bz _,by have:=hs x hx;lia⟩
def Sh:FnScope ["web","rule","growth","top"] zl27 (Af Xz):=fscp ψ
def Nk{κ:Kr}(F:Fun K "grown" "grown" Xz f fd)(cD:Cls K D)(O:Gro K mg Gc)(M:Mk K Gc fI)
  (GI:FnOk P w K mg base CX0 3 fI k8 zl10 (YZ (uK κ) P w K C D Gc)) (bI:Binds K k8 zl10 [])
  (GK:∀d,FnOk P w K mg base CX0 (d+5) fK f6 zl24 (Mv (uK κ) P w K C D Gc d)) (bK:Binds K f6 zl24 []) (mK:Meth K Gc "knot_at" fK)
  (GB:FnOk P w K mg base CX0 3 fB oP zl16 (TY κ.2 K C D)) (bB:Binds K oP zl16 []) (mB:Meth K D "begun" fB)
  (GG:Cal P w K mg base 3 fG ng "least_graph" zl21 (K34s.Kv K S)) :
  FnOk P w K mg base CX0 18 f fd zl27 (JV κ K C D S):=by
 refine F.ok Sh (λbt A outer s H vs Q E hr h=>?_);obtain⟨W,r,dr,z,bs,rfl,hW,fe,heκ,okκ,z1,z10,b8,okb,ap,q⟩:=h;have eK:Room 2 _:=hr.mono ζ;have om:Room 3 _:=hr.mono ζ;have hrM:Room (3+1) _:=hr.mono ζ;have hrK:Room (bs.length+5) _:=hr.mono δ;refine⟨_,Ad (Ao (i:=2) Sh.nd (Et M GI hrM rfl O.mgG bI .nil pass0 (Aa (pv 0) (Aa (pv 1) Ac))))
  (Ad (Ao (i:=3) Sh.nd (Ci (pv 2) O.cl mK (GK bs.length) hrK bK .nil pass0 (Aa Ae (Aa (Ci (pv 1) cD mB GB om bB .nil pass0 (Aa (pv 0) Ac)) Ac))))
  (Ah (Ar (Ay GG om rfl (Aa (Bk (pv 2) rfl) (Aa (Bk (pv 2) rfl) (Aa (pv 3) Ac))))))),?_⟩
 refine⟨_,ξ,_,ξ,λg dx hg hdx ne=>?_⟩;have l6:(upd H dx (.own g)) g=u9:=by rw[Ag (BU ne)];exact hg
 have s1:=(vk hdx (.own g)).trans (vk l6 (.ins Gc dx []));obtain⟨dw,jw,hw,_⟩:=id hW;refine⟨g,dx,W,r,dr,z,bs,ξ,Ab,Ai hw hg,Ai fe hg,hW.same s1,s1 _ _ fe,z10,b8,λBh R Dk H2 k2 gr rw0 nR0 nD0=>⟨ξ,?_⟩⟩;have s2:Same H H2:=λb o e=>k2 _ _ (s1 _ _ e) (Ai e hg);obtain⟨dg,hg2'⟩:=gr.ins;refine⟨_,ξ,g,dg,_,ξ,hg2',ξ,_,ξ,r,dr,_,ξ,s2 _ _ fe,(noK κ.2).nB,_,ξ,r,W,dr,z,bs,ξ,s2 _ _ fe,Ji s2.ts heκ,okκ,gr.web,z10,λb H3 s3 hb=>?_⟩;have sE:=rw0.same s3;have rf:=gr.same s3;have p2:2 ^ bs.length<=2 ^ 12:=IM ζ b8;refine⟨g,W,r,Bh,R,Dk,z,0,bs,.ref b,u8 (bgK z κ.2),[],[],λ_ _=>True,ξ,yJ,rf,z1,z10,b8,okb,AHR κ,trivial,⟨b,ξ,hb,AGj⟩,sE,by show 0+_<=_;lia,λk more b4 H4 kp oo ld _ cnt ml=>?_⟩;rw[V3] at oo ld;obtain⟨xs3,eR3,_⟩:=id sE.at_;obtain⟨_,_,ax3,sY,_⟩:=id sE.dn;have gr4:=rf.keep kp eR3 sY;obtain⟨dg4,hg4⟩:=gr4.ins;obtain⟨xs4,g9,u7⟩:=id oo.at_;refine⟨_,ξ,g,Gc,dg4,_,_,ξ,hg4,O.cl,O.nA,QW _ _ _ _ _ _,_,ξ,g,Gc,dg4,_,_,ξ,hg4,O.cl,O.nR,Rz _ _ _ _ _ _,_,ξ,R,bs.length,k,more,ξ,K34s.RowsAt.of ⟨R,xs4,ξ,vd g9,u7⟩,oo.ok,b8,δ,YG oo.ok b8 cnt k,ld.kn,λp aS hd H' s' h1 h2 h3 h4=>?_⟩;have none_back:∀{x:Addr},(upd (upd H dx (.own g)) g (.ins Gc dx [])) x=none->H x=u9:=λ{x} n=>by
  cases e:H x with
  | none=>rfl
  | some o=>have:=s1 _ _ e;rw[n] at this;cases this
 refine q p aS hd H' (λb o e=>s' _ _ (kp _ _ (Ai e (none_back nR0)) (Ai e (none_back nD0)) (s3 _ _ (s2 _ _ e)))) h1 h2 (λs pw hs=>?_) h4.1;rw[h3 s,ld.eq s];exact AHy okb ap z1 okκ s pw hs
end K34
variable{κ':K34.Kr}
namespace PySem.SeqAt
open PySem.AutoSeq1 (wpAny_loadPart')
open MeetsSeq
theorem Oc(l:Addr)(items:vP)(n:Nat)(x:Au)(e:Au->Bool)(j:Nat)(hj:j<items.size)(br:e items[j]=true)(k:Nat)(hs1:items.size<=sizeLine) :
  ∀i:Nat,j-i=k->i<=j->(∀m (hm:m<items.size),i<=m->m<j->e items[m]=false)->Meets (Builtin.«list.remove.loop» ⟨[.ref l,x,EZ i],[]⟩)
   (λA R s=>s.heap.get? l=u8 {cls:=.type "list",dict:=u9,data:=.seq items n,slots:=#[]}/\(∀y,y∈items->EqAt A.in1 s y x (e y))/\R (.ok (.ret .none)) {s with heap:=s.heap.update l (CO λxs=>xs.eraseIdxIfInBounds j)}):=by
 induction k with
 | zero =>
  intro i hk hU f7 prog w A R s h;obtain⟨hp,g,d,tk,os⟩:=s;obtain⟨hl,he,h⟩:=h;have hij':i=j:=yr hU hk;subst hij'
  wp_walk using wpAny_loadPart' hl
  have hi:items[((i:Nat):Int).toNat]?=u8 items[i]:=by simp[hj]
  rw[hi];refine Ap (he _ (T8 hj) prog w _ _ ?_);rw[br];have hz':(items.eraseIdxIfInBounds i).size<=sizeLine+1:=BQ (size_erased items _) (OF hs1)
  wp_walk using(MX hl rfl (hz:=hs1) (_hz':=hz')),wpAny_loadPart' hl
  simpa using h
 | succ k ih =>
  intro i hk hU f7 prog w A R s h;obtain⟨hp,g,d,tk,os⟩:=s;obtain⟨hl,he,h⟩:=h;have ce:i<items.size:=v6 hU hj
  wp_walk using wpAny_loadPart' hl
  have hi:items[((i:Nat):Int).toNat]?=u8 items[i]:=by simp[ce]
  have hc:((i:Int)+1)=((i+1:Nat):Int):=by push_cast;rfl
  rw[hi];refine Ap (he _ (T8 ce) prog w _ _ ?_);rw[f7 i ce (AI _) (ym hk)]
  wp_walk
  rw[hc];exact⟨Iy L7 _,D5 T9 (by
   rw[EC L7 _];exact ih (i+1) (yp hk) δ (λm hm h1 h2=>f7 m hm (wc h1) h2) prog w A R _ ⟨hl,he,h⟩)⟩
theorem Oi(l:Addr)(items:vP)(n:Nat)(x:Au)(e:Au->Bool)(j:Nat)(hj:j<items.size)
  (br:e items[j]=true) (f7:∀m (hm:m<items.size),m<j->e items[m]=false) (hs1:items.size<=sizeLine) :
  Meets (Builtin.«list.remove» ⟨[.ref l,x],[]⟩)
   (λA R s=>s.heap.get? l=u8 {cls:=.type "list",dict:=u9,data:=.seq items n,slots:=#[]}/\(∀y,y∈items->EqAt A.in1 s y x (e y))/\R (.ok (.ret .none)) {s with heap:=s.heap.update l (CO λxs=>xs.eraseIdxIfInBounds j)}):=by
 intro prog w A R s h;obtain⟨hp,g,d,tk,os⟩:=s;obtain⟨hl,he,h⟩:=h
 wp_walk using wpAny_loadPart' hl
 exact⟨Iy L7 _,D5 T9 (by
  rw[EC L7 _];exact Oc l items n x e j hj br _ hs1 0 rfl (Bz _) (λm hm _ h2=>f7 m hm h2) prog w A R _ ⟨hl,he,h⟩)⟩
end PySem.SeqAt
namespace L2
open PySem PySem.Spec PySem.W PyProof.Rows
section
variable[DecidableEq α]{R:Rep α}
theorem WM:∀{xs:List V}{us:vO},Vals xs us->∀j,Vals (xs.eraseIdx j) (us.eraseIdx j):=by
 intro l m h
 induction h with
 | nil=>exact λ_=>.nil
 | cons h t ih=>intro j;cases j with| zero=>exact t| succ j=>exact .cons h (ih j)
def AFs{α:Type}(R:Rep α):V->List V->Hp->VK->Prop:=λx vs H Q=>∃(l:Addr) (xs:List V) (y:V) (a:α) (as:List α) (j:Nat),x=.ref l/\vs=[y]/\H l=u8 (.lst xs)/\A9 (R H) as xs/\R H a y/\as[j]?=u8 a/\(∀m,m<j->as[m]?≠u8 a)/\Q .non (upd H l (.lst (xs.eraseIdx j)))
theorem ABO(D:Dat X n R)(hu:X.A.units+(n+1)<Cs):MtM X "list.remove" (AFs R):=by
 intro aI s σ H x vs v us Q I rx rv h;obtain⟨l,xs,y,a,as,j,rfl,rfl,hH,pa,ra,hj,f7,q⟩:=h;cases rx;obtain⟨u,rfl,ry⟩:=rv.one;obtain⟨z,a5,m,r,hl,e⟩:=I.lstM hH;have rX:X.A.in1.units+n<Cs:=by show X.A.units+1+n<Cs;exact wx hu
 have lx:=AT pa;have at_:∀m (hm:m<a5.toArray.size),∃am,as[m]?=u8 am/\isDat R H a a5.toArray[m]=decide (am=a):=λm hm=>by
  have dA:m<xs.length:=by rw[hl];simpa using hm
  have e1:xs[m]?=u8 xs[m]:=AK dA;obtain⟨am,ea,rm⟩:=Paired.get pa e1;obtain⟨w,hw,eC⟩:=r.get e1;have e2:a5.toArray[m]=w:=by
   have:a5[m]?=u8 w:=hw;simpa using(AG.mp this).2
  refine⟨am,ea,?_⟩;rw[e2];exact Lh D I eC rm
 have b6:j<a5.toArray.size:=by
  have:=(AG.mp hj).1;rw[lx,hl] at this;simpa using this
 refine MS F.slot_list_remove ⟨_,e,ξ⟩ F.entry_list_remove (F.args_list_remove_2 _ _) (SeqAt.Oi l a5.toArray m u (isDat R H a) j b6 ?_ (λm hm hmj=>?_) ?_) ⟨e,λw hw=>Ld D I rX ry ra pa r w (by simpa using hw),?_⟩
 .obtain⟨am,e1,e2⟩:=at_ j b6
  rw[e2];rw[hj] at e1;cases e1;exact vC rfl
 .obtain⟨am,e1,e2⟩:=at_ m hm
  rw[e2];exact vD λz=>f7 m hmj (by rw[e1,z])
 .rw[AO,<- hl]
  exact z
 .refine⟨.non,_,I.lset (t':=s.toks) (its':=a5.eraseIdx j) hH e ?_ (WM r j) ?_,ξ,q⟩
  .rw[AO] at b6
   simp[Pc,b6]
  .rw[K5]
   split<;>lia
end
end L2
namespace K34
open PySem L2 G
def TV:Sp:=λvs H Q _=>∃(c:Int),vs=[.int c]/\∀n:Int,Q (.int n) H
theorem AHF:FnScope zl17 zl17 (Af ACY):=fscp ψ
theorem AFL(F:Fun K "_law_at" "_law_at" ACY f fd)(T:Txt K mg C):FnOk P w K mg base CX0 1 f fd zl17 (ADY K):=by
 refine F.ok AHF (λbt A outer s H vs Q E hr h=>?_);obtain⟨a,ns,k,rfl,hS,h0,q⟩:=h;refine⟨_,Ad (Bl (Aq Hv (pv 1) (Az Av rfl T.len CC (Aa (pv 0) Ac))) (Ah (Ar (Ax Cg (pv 0) (pv 1)))) BJ)
  (Ah (Ar Ae)),?_⟩
 refine⟨_,ξ,_,ξ,a,_,ξ,.inl hS,k,_,ξ,ξ,_,ξ,?_⟩;by_cases hc:k<((ns.map V.int).length:Int)
 .obtain⟨v,hv⟩:=ACW h0 (by rw[AB] at hc;exact hc)
  exact iteP hc ⟨_,ξ,_,ξ,a,_,k,_,ξ,ξ,hS,hv,q v⟩
 .exact iteN hc (q 0)
theorem ACp:FnScope ["_law_cell","_law_one","_law_two"] zl28 (Af AGr):=fscp ψ
theorem AGx(F:Fun K "_law_mixed" "_law_mixed" AGr f fd):FnOk P w K mg base CX0 1 f fd zl28 TV:=by
 refine F.ok ACp (λbt A outer s H vs Q E hr h=>?_);obtain⟨c,rfl,q⟩:=h;refine⟨_,Ad (Ao (i:=1) ACp.nd (Aw Cq (Aw CQ (Aw Jg (pv 0) Ae) Ae) Ae))
  (Ad (Ao (i:=2) ACp.nd (Aw Cq (Aw Jg (pv 1) (pv 1)) Ae))
  (Ah (Ar (Aw CQ (Aw Jg (Aw CQ (Aw Jg (pv 1) Ae) (pv 2)) Ae) (Aw Cq (Aw Jg (pv 2) (pv 2)) Ae))))),?_⟩
 refine⟨_,ξ,_,_,ξ,ξ,.inr ⟨ζ,ζ⟩,_,_,ξ,ξ,_,_,ξ,ξ,(by show(0:Int)<2147483647;decide),?_⟩;have h1:=D6 (c*48271+12345) (show(2147483647:Int)≠0 by decide);have h2:=Da (c*48271+12345) (show(0:Int)<2147483647 by decide);dsimp only;generalize (c*48271+12345)%2147483647=x at h1 h2;refine⟨_,ξ,_,ξ,_,_,ξ,ξ,.inl ⟨δ,δ⟩,_,_,ξ,ξ,(by show(0:Int)<2147483629;decide),?_⟩;have h3:=D6 (x*x) (show(2147483629:Int)≠0 by decide);have h4:=Da (x*x) (show(0:Int)<2147483629 by decide);dsimp only;generalize x*x%2147483629=y at h3 h4;exact⟨_,ξ,_,_,ξ,ξ,.inl ⟨δ,δ⟩,_,ξ,_,_,ξ,ξ,_,_,ξ,ξ,.inr ⟨ζ,ζ⟩,_,ξ,_,ξ,_,_,ξ,ξ,.inl ⟨δ,δ⟩,_,_,ξ,ξ,(by show(0:Int)<2147483587;decide),_,_,ξ,ξ,q _⟩
end K34
namespace K35
open PySem L2
def DownP(i:Nat)(t:vG):Prop:=∃a b:Nat,t=[(a:Int),(b:Int)]/\b<a/\a<i
noncomputable def newP(i j:Nat):vH:=(AX j).map λ(o:Nat)=>[(i:Int),(o:Int)]
theorem MK{a b:Nat}(h:b<a):srt [(a:Int),(b:Int)]=[(b:Int),(a:Int)]:=by rw[Bx,vB (v7 h)]
theorem AEi{a b:Nat}(h:b<a):srt [(b:Int),(a:Int)]=[(b:Int),(a:Int)]:=by rw[Bx,vA δ]
theorem AAm(i j:Nat):newP i (j+1)=newP i j++[[(i:Int),(j:Int)]]:=by
 unfold newP;rw[G2,BI];rfl
theorem ABa{t:vG}(h:t∈newP i i):DownP (i+1) t:=by
 obtain⟨o,ho,rfl⟩:=A1.mp h;exact⟨i,o,ξ,AU.mp ho,wR⟩
theorem AEw{ps:vH}(hd:∀t∈ps,DownP i t)(hn:(ps.map srt).Nodup):((ps++newP i i).map srt).Nodup:=by
 have e:(newP i i).map srt=(AX i).map λ(o:Nat)=>[(o:Int),(i:Int)]:=by
  unfold newP;rw[ED];refine FM λo ho=>?_;exact MK (AU.mp ho)
 rw[BI,e,OG];refine⟨hn,?_,?_⟩
 .unfold J6
  rw[Cb];refine Jn.imp λ{a b} h z=>h ?_;injection z with z _
  exact vx z
 .rintro t ht u hu rfl
  obtain⟨t0,h0,rfl⟩:=A1.mp ht;obtain⟨a,b,rfl,ba,ai⟩:=hd t0 h0;obtain⟨o,ho,e⟩:=A1.mp hu;rw[MK ba] at e;injection e with e1 e2
  injection e2 with e2 _
  lia
theorem ABj{ps:vH}{p:vG}(hn:(ps.map srt).Nodup)(hj:ps[j]?=u8 p):∀m,m<j->ps[m]?≠u8 p:=λm hm z=>by
 have jl:=(AG.mp hj).1;have ml:=(AG.mp z).1;refine(B7.mp hn) m j (by rw[AB];exact ml) (by rw[AB];exact jl) hm ?_;rw[FX,FX,(AG.mp z).2,(AG.mp hj).2]
theorem Lw{α:Type}:∀{l:List α}{j:Nat}{p:α},l[j]?=u8 p->(p::l.eraseIdx j).Perm l
 | [],j,p,h=>by cases h
 | a::l,0,p,h=>by
  cases h;exact IS _
 | a::l,j+1,p,h=>(NG a p _).trans (NF a (Lw (l:=l) (j:=j) (by simpa using h)))
theorem AFU{ps:vH}{p p':vG}(hn:((as++ps).map srt).Nodup)(hj:ps[j]?=u8 p)(e:srt p'=srt p):(((as++[p'])++ps.eraseIdx j).map srt).Nodup:=by
 obtain⟨jl,ej⟩:=AG.mp hj;have pm:=Lw hj;have e2:(((as++[p'])++ps.eraseIdx j).map srt)=((as++(p::ps.eraseIdx j)).map srt):=by
  rw[CH,BI,BI (l₁:=as)];show _++(srt p'::_)=_++(srt p::_);rw[e];rfl
 rw[e2];exact(((EL as pm).map srt).nodup_iff).mpr hn
theorem Paired.erase{F:α->β->Prop}:∀{l:List α}{m:List β},A9 F l m->∀j,A9 F (l.eraseIdx j) (m.eraseIdx j):=by
 intro l m h
 induction h with
 | nil=>exact λ_=>.nil
 | cons h t ih=>intro j;cases j with| zero=>exact t| succ j=>exact .cons h (ih j)
end K35
namespace K34
open PySem L2 G K35
def ZP(K:As):Sp:=λvs H Q _=>∃(m n:Int),vs=[.int m,.int n]/\1<=m/\m<=10/\∀(l:Addr) (xs:List V) (as:vH) (H':Hp),Same H H'->H l=none->H' l=u8 (.lst xs)->A9 (rPair K H') as xs->OkTies m as->as.length<=12->Q (.ref l) H'
theorem DR:FnScope ["_law_many","_law_number","_law_pairs","_law_one","_law_wanted","_law_rows_here","_law_other"] zl29 (Af Qu):=fscp ψ
theorem ADg(F:Fun K "_law_rows" "_law_rows" Qu f fd)(T:Txt K mg C)
  (GX:Cal P w K mg base 1 fX fdX "_law_mixed" zl28 TV):FnOk P w K mg base CX0 2 f fd zl29 (ZP K):=by
 refine F.ok DR (λbt A outer s H vs Q E hr h=>?_);obtain⟨m,n,rfl,m1,m10,q⟩:=h;have bo:Room 1 _:=hr.mono ζ;refine⟨_,Ad (Ao (i:=2) DR.nd (DG Ac))
  (Ad (Dj DJ rfl (DK rfl T.range (Aa (pv 0) Ac)) (Bg (i:=3) DR.nd)
   (Ah (Ce (Ho DF PySem.F.slot_list_extend PySem.F.type_list_extend AAb (pv 2) (Aa (Bu (Af Qu) ["_law_other"] ["_law_one"] [3] rfl rfl ψ ⟨⟨ξ,ψ⟩,trivial⟩ (DK rfl T.range (Aa (pv 3) Ac))
    (λ_ _ _=>BL (i:=0)) (λ_ _ _=>Cv) (λ_ _ _=>Bs (Aa (pv 1) (Aa (pv 0) Ac)))) Ac)))))
  (Ad (Ao (i:=4) DR.nd (Aw Cq (pv 1) Ae))
  (Ad (Ao (i:=1) DR.nd (Aw Eb (pv 1) Ae))
  (Ad (Ao (i:=5) DR.nd (DG Ac))
  (Ad (Uz DJ (vW (Sw (Aq Hv (Az Av rfl T.len CC (Aa (pv 5) Ac)) (pv 4)) (Km (Aq (Wx (Fw Cy) (CK hr)) (pv 2) (DG Ac)))))
   (Kz (Bl (Aq EY (pv 1) Ae) (Ah (Ao (i:=1) DR.nd (Ay GX bo rfl (Aa (Aw CQ (pv 0) (Aw Jg Ae (Az Av rfl T.len CC (Aa (pv 5) Ac)))) Ac)))) BJ)
   (Ad (Jw (Ax Cg (pv 2) (Aw Cq (pv 1) (Az Av rfl T.len CC (Aa (pv 2) Ac)))) (Xa rfl (Bt (Bg (i:=3) DR.nd) (Bt (Bg (i:=6) DR.nd) Er))))
   (Ad (Ao (i:=1) DR.nd (Aw Eb (pv 1) (Az Av rfl T.len CC (Aa (pv 2) Ac))))
   (Ad (Ce (Ho DF PySem.F.slot_list_remove PySem.F.type_list_remove (ABO (Fw Cy) (CK hr)) (pv 2) (Aa (Bs (Aa (pv 3) (Aa (pv 6) Ac))) Ac)))
   (Ad (Ce (Ho DF Fk Fm DY (pv 5) (Aa (Ax Cg (DG (Aa (Bs (Aa (pv 3) (Aa (pv 6) Ac))) (Aa (Bs (Aa (pv 6) (Aa (pv 3) Ac))) Ac))) (Aw Cq (pv 1) Ae)) Ac)))
   (Ah (Ao (i:=1) DR.nd (Aw Eb (pv 1) Ae)))))))))
  (Ah (Ar (pv 5)))))))),?_⟩
 refine⟨Bz _,λPa hPa=>?_⟩;have s0:=vk hPa (.lst []);have e0:(upd H Pa (.lst [])) Pa=u8 (.lst []):=Ab;generalize upd H Pa (.lst [])=H0 at s0 e0;refine⟨_,ξ,m,ξ,δ,δ,?_⟩;refine QK (lo:=0) (n:=m.toNat) (λi σ H2=>∃(o3:Option V) (ps:vH) (xs:List V),σ=[u8 (.int m),u8 (.int n),u8 (.ref Pa),o3,u9,u9,u9]/\Same H H2/\H2 Pa=u8 (.lst xs)/\A9 (rPair K H2) ps xs/\(∀t∈ps,DownP i t)/\(ps.map srt).Nodup/\ps.length<=10*i) ⟨u9,[],[],ξ,s0,e0,.nil,λt h=>by(cases h),Q4,AI _⟩ ?_ ?_
 .rintro i σ H2 hi ⟨o3,ps,xs,rfl,sm,eP,pp,dn,nd,ln⟩
  have ei:(0:Int)+i=(i:Int):=wq;rw[ei];have i9:i<10:=by lia
  refine⟨_,ξ,.inl ⟨ξ,_,vd eP⟩,_,ξ,(i:Int),ξ,δ,δ,λZ hZ=>?_⟩;have PZ:Pa≠Z:=Ai eP hZ;refine Cj (lo:=0) (n:=(i:Int).toNat) (λj τ H3=>∃(o:Option V) (ys:List V),τ=[o,u8 (.int i)]/\Same H2 H3/\H3 Z=u8 (.lst ys)/\A9 (rPair K H3) (newP i j) ys) ⟨u9,[],ξ,vk hZ _,Ab,.nil⟩ ?_ ?_
  .rintro j τ H3 hj ⟨o,ys,rfl,s3,eZ,py⟩
   have ej:(0:Int)+j=(j:Int):=wq;rw[ej];have ly:=AT py;have l2:(newP i j).length=j:=by unfold newP;rw[AB,B6]
   refine⟨_,ξ,_,ξ,(by show 2<=sizeLine;decide),λt ht=>?_⟩;have s4:=vk ht (.tup [.int (i:Int),.int (j:Int)]);have tZ:t≠Z:=λz=>by rw[z,eZ] at ht;cases ht
   refine⟨ys,s4 _ _ eZ,BK δ,_,_,ξ,(s3.trans s4).put hZ _,Ab,?_⟩
   .rw[AAm]
    have ts:TSm H3 (upd (upd H3 t (.tup [.int (i:Int),.int (j:Int)])) Z (.lst (ys++[.ref t]))):=s4.ts.trans (vi (s4 _ _ eZ));exact vg (vj (λa b=>Ak Am _ _ a b ts) py) (vh (Dt (ns:=[(i:Int),(j:Int)]) (by rw[Ag tZ];exact Ab)))
  .rintro τ H3 ⟨o,ys,rfl,s3,eZ,py⟩
   rw[B9] at py;have ly:=AT py;have lx:=AT pp;have l2:(newP i i).length=i:=by unfold newP;rw[AB,B6]
   refine⟨Pa,Z,xs,ys,ξ,ξ,s3 _ _ eP,eZ,D7 (BK δ),?_⟩;have ts:TSm H3 (upd H3 Pa (.lst (xs++ys))):=vi (s3 _ _ eP);refine⟨_,ps++newP i i,xs++ys,ξ,(sm.trans s3).put hPa _,Ab,vg (vj (λa b=>Ak Am _ _ a b (s3.ts.trans ts)) pp) (vj (λa b=>Ak Am _ _ a b ts) py),λt ht=>?_,AEw dn nd,by rw[A2];lia⟩
   .rcases Cf.mp ht with ht| ht
    .obtain⟨a,b,e,h1,h2⟩:=dn t ht
     exact⟨a,b,e,h1,wb h2⟩
    .exact ABa ht
 rintro σ H2 ⟨o3,ps,xs,rfl,sm,eP,pp,dn,nd,ln⟩;refine⟨_,ξ,_,_,ξ,ξ,(by show(0:Int)<13;decide),?_⟩;refine⟨_,ξ,_,_,ξ,ξ,⟨ζ,ζ⟩,?_⟩;refine⟨Bz _,λR hR=>?_⟩;have w1:=Da n (show(0:Int)<13 by decide);have PR:Pa≠R:=Ai eP hR;have hRH:H R=u9:=by
  cases e:H R with
  | none=>rfl
  | some o=>have:=sm _ _ e;rw[hR] at this;cases this
 have mz:(m.toNat:Int)=m:=De δ;refine⟨λk σ H3=>∃(o3 o6:Option V) (nn:Int) (ps as:vH) (xs ys:List V),σ=[u8 (.int m),u8 (.int nn),u8 (.ref Pa),o3,u8 (.int (n%13)),u8 (.ref R),o6]/\k=ps.length/\Same H H3/\H3 Pa=u8 (.lst xs)/\H3 R=u8 (.lst ys)/\A9 (rPair K H3) ps xs/\A9 (rPair K H3) as ys/\(∀t∈ps,DownP m.toNat t)/\(∀t∈as,OkTie m t)/\((as++ps).map srt).Nodup/\ps.length<=100/\as.length<=12,?_,?_⟩
 .refine⟨_,_,_,_,ps,[],xs,[],ξ,ξ,sm.trans (vk hR _),by rw[Ag PR];exact eP,Ab,vj (λa b=>Ak Am _ _ a b (vk hR _).ts) pp,.nil,dn,λt h=>(by cases h),nd,δ,Bz _⟩
 rintro k σ H3 ⟨o3,o6,nn,ps,as,xs,ys,rfl,rfl,s3,eP,eR,pp,pr,dn,ok,nd,ln,l4⟩;have lx:=AT pp;have ly:=AT pr;have fin:∀H4,Same H3 H4->Q (.ref R) H4:=λH4 s4=>q R ys as H4 (s3.trans s4) hRH (s4 _ _ eR) (vj (λa b=>Ak Am _ _ a b s4.ts) pr) ⟨ok,by
  rw[BI] at nd;exact(OG.mp nd).1⟩ l4
 refine⟨_,ξ,R,_,ξ,.inl (vd eR),_,ξ,_,_,ξ,ξ,_,ξ,?_⟩;by_cases c1:n%13<=((ys.length:Nat):Int)
 .exact iteN (wT c1) (iteF ⟨_,ξ,fin _ (vf _)⟩)
 refine iteP (wN c1) ?_;refine⟨_,ξ,Bz _,λW hW=>?_⟩;have s4:=vk hW (.lst []);refine⟨ps,[],⟨Pa,xs,ξ,vd (s4 _ _ eP),vj (λa b=>Ak Am _ _ a b s4.ts) pp⟩,⟨W,[],ξ,vd Ab,.nil⟩,_,ξ,?_⟩;by_cases c2:ps=[]
 .exact iteNP c2 ⟨_,ξ,fin _ s4⟩
 refine iteNN c2 ?_;have kg:=s4 _ _ eP;have g9:=s4 _ _ eR;have pp4:A9 (rPair K (upd H3 W (.lst []))) ps xs:=vj (λa b=>Ak Am _ _ a b s4.ts) pp;have pr4:A9 (rPair K (upd H3 W (.lst []))) as ys:=vj (λa b=>Ak Am _ _ a b s4.ts) pr;have rV:=s3.trans s4;generalize upd H3 W (.lst [])=H4 at s4 kg g9 pp4 pr4 rV;have pl:0<ps.length:=Nc.mpr c2;refine⟨λσ' H'=>∃m',m'<ps.length/\_,λσ' H' h=>h,?_⟩;refine⟨λσ' H'=>∃nn':Int,H4=H'/\σ'=[u8 (.int m),u8 (.int nn'),u8 (.ref Pa),o3,u8 (.int (n%13)),u8 (.ref R),o6],?_,?_⟩
 .refine⟨_,ξ,ξ,_,ξ,ite2 (λ_=>?_) (λ_=>⟨nn,ξ,ξ⟩)⟩
  exact⟨_,ξ,_,ξ,R,_,ξ,.inl (vd g9),_,_,ξ,ξ,.inl ⟨ζ,ζ⟩,_,_,ξ,ξ,_,ξ,λn'=>⟨n',ξ,ξ⟩⟩
 rintro σ' H' ⟨nn,rfl,rfl⟩;have xl:(0:Int)<(xs.length:Nat):=by lia
 have j0:=D6 nn (show((xs.length:Nat):Int)≠0 by lia);have j1:=Da nn xl;obtain⟨j,ej⟩:=J2 j0;have jl:j<xs.length:=by lia
 obtain⟨x,hx⟩:∃x,xs[j]?=u8 x:=⟨_,AK jl⟩;obtain⟨p,hp,rp⟩:=Paired.get pp4 hx;obtain⟨t,rfl,ht⟩:=Bq rp;obtain⟨a,b,rfl,ba,am⟩:=dn p (By hp);refine⟨_,ξ,_,ξ,_,ξ,Pa,_,ξ,.inl (vd kg),_,_,ξ,ξ,xl,Pa,_,_,_,ξ,ξ,vd kg,by rw[ej];exact Bv hx,t,_,ξ,ht,ξ,_,_,ξ,_,_,ξ,ξ,?_⟩;refine⟨_,ξ,_,ξ,Pa,_,ξ,.inl (vd kg),_,_,ξ,ξ,⟨xl,δ⟩,?_⟩;refine⟨_,ξ,.inl ⟨ξ,_,vd kg⟩,_,ξ,_,ξ,(by show 2<=sizeLine;decide),λt2 ht2=>?_⟩;have s5:=vk ht2 (.tup [.int (a:Int),.int (b:Int)]);have et2:(upd H4 t2 (.tup [.int (a:Int),.int (b:Int)])) t2=u8 (.tup [.int (a:Int),.int (b:Int)]):=Ab;have pp5:A9 (rPair K (upd H4 t2 (.tup [.int (a:Int),.int (b:Int)]))) ps xs:=vj (λa b=>Ak Am _ _ a b s5.ts) pp4;have pr5:A9 (rPair K (upd H4 t2 (.tup [.int (a:Int),.int (b:Int)]))) as ys:=vj (λa b=>Ak Am _ _ a b s5.ts) pr4;have sF:=s5 _ _ kg;have gu:=s5 _ _ g9;have s35:=rV.trans s5;generalize upd H4 t2 (.tup [.int (a:Int),.int (b:Int)])=H5 at s5 et2 pp5 pr5 sF gu s35;have nps:(ps.map srt).Nodup:=by
  rw[BI] at nd;exact(OG.mp nd).2.1
 refine⟨Pa,xs,.ref t2,[(a:Int),(b:Int)],ps,j,ξ,ξ,sF,pp5,Dt (ns:=[(a:Int),(b:Int)]) et2,hp,ABj nps hp,?_⟩;have ts6:TSm H5 (upd H5 Pa (.lst (xs.eraseIdx j))):=vi sF;have eP6:(upd H5 Pa (.lst (xs.eraseIdx j))) Pa=u8 (.lst (xs.eraseIdx j)):=Ab;have gX:(upd H5 Pa (.lst (xs.eraseIdx j))) R=u8 (.lst ys):=by rw[Ag (BU PR)];exact gu
 have s6:Same H (upd H5 Pa (.lst (xs.eraseIdx j))):=s35.put hPa _;have pp6:A9 (rPair K (upd H5 Pa (.lst (xs.eraseIdx j)))) (ps.eraseIdx j) (xs.eraseIdx j):=vj (λa b=>Ak Am _ _ a b ts6) (Paired.erase pp5 j);have pr6:A9 (rPair K (upd H5 Pa (.lst (xs.eraseIdx j)))) as ys:=vj (λa b=>Ak Am _ _ a b ts6) pr5;generalize upd H5 Pa (.lst (xs.eraseIdx j))=H6 at ts6 eP6 gX s6 pp6 pr6;refine⟨_,ξ,.inl ⟨ξ,_,vd gX⟩,_,ξ,_,ξ,(by show 2<=sizeLine;decide),λt3 ht3=>?_⟩;refine⟨_,ξ,_,ξ,(by show 2<=sizeLine;decide),λt4 ht4=>?_⟩;refine⟨(by show 2<=sizeLine;decide),λL hL=>?_⟩;have s7:=(vk ht3 (.tup [.int (a:Int),.int (b:Int)])).trans ((vk ht4 (.tup [.int (b:Int),.int (a:Int)])).trans (vk hL (.lst [.ref t3,.ref t4])));have e3:(upd (upd (upd H6 t3 (.tup [.int (a:Int),.int (b:Int)])) t4 (.tup [.int (b:Int),.int (a:Int)])) L (.lst [.ref t3,.ref t4])) t3=u8 (.tup [.int (a:Int),.int (b:Int)]):=(vk hL _) _ _ ((vk ht4 _) _ _ Ab);have e4:(upd (upd (upd H6 t3 (.tup [.int (a:Int),.int (b:Int)])) t4 (.tup [.int (b:Int),.int (a:Int)])) L (.lst [.ref t3,.ref t4])) t4=u8 (.tup [.int (b:Int),.int (a:Int)]):=(vk hL _) _ _ Ab;have eL:(upd (upd (upd H6 t3 (.tup [.int (a:Int),.int (b:Int)])) t4 (.tup [.int (b:Int),.int (a:Int)])) L (.lst [.ref t3,.ref t4])) L=u8 (.lst [.ref t3,.ref t4]):=Ab;generalize upd (upd (upd H6 t3 (.tup [.int (a:Int),.int (b:Int)])) t4 (.tup [.int (b:Int),.int (a:Int)])) L (.lst [.ref t3,.ref t4])=H7 at s7 e3 e4 eL;have v0:=D6 (nn / ((xs.length:Nat):Int)) (show(2:Int)≠0 by decide);have v1:=Da (nn / ((xs.length:Nat):Int)) (show(0:Int)<2 by decide);obtain⟨x',p',uM,esr,okp,rp'⟩:∃(x':Addr) (p':vG),atI [V.ref t3,V.ref t4] (nn / ((xs.length:Nat):Int)%2)=u8 (.ref x')/\srt p'=srt [(a:Int),(b:Int)]/\OkTie m p'/\rPair K H7 p' (.ref x'):=by
  generalize nn / ((xs.length:Nat):Int)%2=vv at v0 v1;obtain⟨k,rfl⟩:=J2 v0
  match k,v1 with
  | 0,_=>exact⟨t3,[(a:Int),(b:Int)],Bv rfl,ξ,⟨_,_,ξ,vt,ar514 am,vt,ar515 ba am,δ⟩,Dt (ns:=[(a:Int),(b:Int)]) e3⟩
  | 1,_=>exact⟨t4,[(b:Int),(a:Int)],Bv rfl,by rw[AEi ba,MK ba],⟨_,_,ξ,vt,ar515 ba am,vt,ar514 am,δ⟩,Dt (ns:=[(b:Int),(a:Int)]) e4⟩
  | k+2,h=>exact vF h δ
 have rR:=s7 _ _ gX;refine⟨_,ξ,_,_,ξ,ξ,(by show(0:Int)<2;decide),L,_,_,_,ξ,ξ,vd eL,uM,R,ys,_,ξ,ξ,rR,BK δ,?_⟩;refine⟨_,ξ,_,_,ξ,ξ,⟨ζ,ζ⟩,?_⟩;have ts8:TSm H7 (upd H7 R (.lst (ys++[.ref x']))):=vi rR;refine⟨(ps.eraseIdx j).length,?_,_,_,_,ps.eraseIdx j,as++[p'],xs.eraseIdx j,ys++[.ref x'],ξ,ξ,(s6.trans s7).put hRH _,?_,Ab,vj (λa b=>Ak Am _ _ a b (s7.ts.trans ts8)) pp6,vg (vj (λa b=>Ak Am _ _ a b (s7.ts.trans ts8)) pr6) (vh (Ak Am _ _ _ _ ts8 rp')),λt ht=>dn t (List.mem_of_mem_eraseIdx ht),λt ht=>?_,AFU nd hp esr,?_,?_⟩
 .rw[K5,vB δ]
  lia
 .rw[Ag PR]
  exact s7 _ _ eP6
 .rcases Cf.mp ht with ht| ht
  .exact ok t ht
  .rw[B8.mp ht]
   exact okp
 .rw[K5]
  split<;>lia
 .rw[A2]
  show as.length+1<=12;lia
end K34
namespace K34
open PySem L2 G
theorem Iz{x:Nat}{a b:Nat}(h:as[x]?=u8 [(a:Int),(b:Int)]):(ea (as.map srt) x=a/\eb (as.map srt) x=b)\/(ea (as.map srt) x=b/\eb (as.map srt) x=a):=by
 have e:(as.map srt).getD x []=srt [(a:Int),(b:Int)]:=by
  rw[AD,AV,h];rfl
 unfold ea eb;rw[e,Bx];split
 .exact .inr ⟨ξ,ξ⟩
 .exact .inl ⟨ξ,ξ⟩
theorem Iu(ok:OkTies (z:Int) as){x:Nat}(h:x<as.length):∃a b:Nat,as[x]?=u8 [(a:Int),(b:Int)]/\a<z/\b<z/\a≠b:=by
 obtain⟨a,b,e,a0,a1,b0,b1,n⟩:=ok.ok as[x] (Fa h);refine⟨a.toNat,b.toNat,by rw[AK h,e,De a0,De b0],xV b0 a1 b1,wF b0 b1,δ⟩
theorem Qg(ok:OkTies (z:Int) as):Apart (as.map srt):=λx hx=>by
 rw[AB] at hx;obtain⟨a,b,e,_,_,n⟩:=Iu ok hx;rcases Iz e with⟨h1,h2⟩| ⟨h1,h2⟩
 .rw[h1,h2];exact n
 .rw[h1,h2];exact BU n
theorem ZQ(h:OkTies (z:Int) as):OkB z (as.map srt):=λt ht=>by
 obtain⟨u,hu,rfl⟩:=A1.mp ht;obtain⟨a,b,e,a0,a1,b0,b1,n⟩:=h.ok u hu;rw[e,Bx];split
 .exact⟨b.toNat,a.toNat,by rw[De a0,De b0],xV a0 b1 a1,wF a0 a1⟩
 .exact⟨a.toNat,b.toNat,by rw[De a0,De b0],wF a0 a1,xV a0 b1 a1⟩
def TlAt(K:As)(H:Hp)(l:Addr)(as:vH):Prop:=∃xs,SqL K H l xs/\A9 (rPair K H) as xs
theorem TlAt.same(h:TlAt K H l as)(e:Same H H'):TlAt K H' l as:=by obtain⟨xs,a,b⟩:=h;exact⟨xs,e.seq a,vj (λa b r=>Ak Am _ _ a b e.ts r) b⟩
structure Sol(n:Nat)(A:vI->Prop)(ss:List vI):Prop where
 mem:∀s,s∈ss↔(s.Pairwise (· < ·)/\(∀x∈s,x<n)/\A s)
 ord:ss.Pairwise λs u=>num n s<num n u
def ABo(K:As):Sp:=λvs H Q _=>∃(c:Int),vs=[.int c]/\∀(t l:Addr) (z:Nat) (as:vH) (H':Hp),Same H H'->SqT K H' t [.int (z:Int),.ref l]->TlAt K H' l as->OkTies (z:Int) as->2<=z->z<=10->as.length<=12->Q (.ref t) H'
structure In(K:As)(l:Addr)(z:Nat)(as:vH)(H:Hp):Prop where
 tl:TlAt K H l as
 ok:OkTies (z:Int) as
 z1:1<=z
 z10:z<=10
 fc:as.length<=12
theorem ADz:∀{ss:List vI}{ys:List V},A9 (K34s.rTies K H) ss ys->A9 (rPair K H) (ss.map up) ys:=by
 intro l m h
 induction h with
 | nil=>exact .nil
 | cons h t ih=>obtain⟨p,e,h⟩:=h;exact .cons ⟨p,_,e,ve h,paired_ints _⟩ ih
theorem ACv{aS:List Row}{A:vI->Prop}(cn:Canon n aS hd)(ld:∀s:vI,s.Pairwise (· < ·)->(∀x∈s,x<n)->(led aS hd s=true↔A s)):Sol n A (setsOf aS hd):=by
 have I:=Gk _ _ rfl cn.least.ok _ cn.knot;refine⟨λs=>⟨λh=>?_,by rintro⟨pw,lt,h⟩;exact(I.mem s).mpr ((ld s pw lt).mpr h)⟩,I.ord⟩;obtain⟨pw,lt⟩:=I.way s h;have lt:=λx hx=>(lt x hx).2;exact⟨pw,lt,(ld s pw lt).mp ((I.mem s).mp h)⟩
theorem AGc{ι:Type}{k:Nat}{sp:ι->Sp}(h:∀i,FnOk P w K mg base CX k f fd ps (sp i)):FnOk P w K mg base CX k f fd ps (λvs H Q E=>∃i,sp i vs H Q E) :=
 ⟨by rintro vs H Q E ⟨i,s⟩;exact(h i).1 vs H Q E s,by rintro A outer s H args us vs Q E r e b v ⟨i,q⟩;exact(h i).2 A outer s H args us vs Q E r e b v q⟩
theorem Xb:FnScope ["_law_cell","_law_number"] zl28 (Af ABs):=fscp ψ
theorem AFH(F:Fun K "_law_web" "_law_web" ABs f fd)
  (GX:Cal P w K mg base 1 fX fdX "_law_mixed" zl28 TV)
  (GR:Cal P w K mg base 2 fR pE "_law_rows" zl29 (ZP K)) :
  FnOk P w K mg base CX0 3 f fd zl28 (ABo K):=by
 refine F.ok Xb (λbt A outer s H vs Q E hr h=>?_);obtain⟨c,rfl,q⟩:=h;have bo:Room 1 _:=hr.mono ζ;have eK:Room 2 _:=hr.mono ζ;refine⟨_,Ad (Ao (i:=1) Xb.nd (Aw Eb (pv 0) Ae))
  (Ad (Bl (Aq EY (Aw Cq (pv 0) Ae) Ae)
   (Ad (Ao (i:=1) Xb.nd (Ay GX bo rfl (Aa (pv 0) Ac)))
   (Ah (Ar (Bs (Aa (Aw CQ Ae (Aw Cq (pv 1) Ae)) (Aa (Ay GR eK rfl (Aa (Aw CQ Ae (Aw Cq (pv 1) Ae)) (Aa (Aw Eb (pv 1) Ae) Ac))) Ac)))))) BJ)
  (Ah (Ar (Bs (Aa (Aw CQ Ae (Aw Cq (pv 1) Ae)) (Aa (Ay GR eK rfl (Aa (Aw CQ Ae (Aw Cq (pv 1) Ae)) (Aa (Aw Eb (pv 1) Ae) Ac))) Ac)))))),?_⟩
 have fin:∀{m:Int} (m2:2<=m) (m10:m<=10) (l:Addr) (xs:List V) (as:vH) (H':Hp),Same H H'->H' l=u8 (.lst xs)->A9 (rPair K H') as xs->OkTies m as->as.length<=12->∀t,H' t=none->Q (.ref t) (upd H' t (.tup [V.int m,V.ref l])):=λ{m} m2 m10 l xs as H' s' el pl ok fc t ht=>by
  have em:((m.toNat:Nat):Int)=m:=De δ;have s2:=vk ht (.tup [V.int m,V.ref l]);refine q t l m.toNat as _ (s'.trans s2) (ve (by rw[Ab,em])) (TlAt.same ⟨xs,vd el,pl⟩ s2) (by rw[em];exact ok) δ δ fc
 refine⟨_,ξ,_,_,ξ,ξ,⟨ζ,ζ⟩,?_⟩;refine⟨_,ξ,_,_,ξ,ξ,(by show(0:Int)<2;decide),ξ,_,ξ,ite2 (λ_=>?_) (λ_=>?_)⟩
 .refine⟨_,ξ,c,ξ,λn=>?_⟩
  have h1:=D6 n (show(5:Int)≠0 by decide);have h2:=Da n (show(0:Int)<5 by decide);refine⟨_,ξ,_,_,ξ,ξ,(by show(0:Int)<5;decide),_,_,ξ,ξ,_,ξ,_,_,ξ,ξ,(by show(0:Int)<5;decide),_,_,ξ,ξ,_,ξ,_,_,ξ,ξ,⟨ζ,ζ⟩,3+n%5,n / 5,ξ,δ,ar519,λl xs as H' s' _ el pl ok fc=>⟨(by show 2<=sizeLine;decide),fin δ ar519 l xs as H' s' el pl ok fc⟩⟩
 .have h1:=D6 (c / 2) (show(9:Int)≠0 by decide)
  have h2:=Da (c / 2) (show(0:Int)<9 by decide);refine⟨_,ξ,_,_,ξ,ξ,(by show(0:Int)<9;decide),_,_,ξ,ξ,_,ξ,_,_,ξ,ξ,(by show(0:Int)<9;decide),_,_,ξ,ξ,_,ξ,_,_,ξ,ξ,⟨ζ,ζ⟩,2+c / 2%9,c / 2 / 9,ξ,δ,ar520,λl xs as H' s' _ el pl ok fc=>⟨(by show 2<=sizeLine;decide),fin δ ar520 l xs as H' s' el pl ok fc⟩⟩
end K34
namespace SB
open PySem PySem.W PyProof.Rows
theorem Rv(hu:A.units+3<Cs)(hl:s.heap.IsList l vs.toArray)(R:RowE prog w s.heap vs ks)(f8:ks.length<=10000)
  (q:∀(h':Heap) (D:Addr) (ko:List (vG×Addr)) (e:Nat),(∀b ob,s.heap.get? b=u8 ob->h'.get? b=u8 ob)->s.heap.objs.size<=D->h'.get? D=u8 (DH "list" (ko.map λx=>A7 x.2).toArray e)->ko.Perm ks->(ko.map (·.1)).Pairwise (λa b=>HT.lexLt a b=true)->Q (.ref D) {s with heap:=h'}) :
  wpAny (AN prog w) A (call (.builtin "sorted") [.ref l]) Q E s:=by
 have lvs:vs.length=ks.length:=by rw[R.vals,AB]
 refine IJ UH S3 S4 (S5 _) ?_;unfold O7;refine Ap (m:=VS "sorted" 1 1 _) (AC ?_);refine Ap (collect_list hl ?_ (by rw[EW];exact ar525 lvs f8));refine Ap (Mn ?_ (by rw[EW];exact ar525 lvs f8));have hsz:((s.heap.push (DH "list" #[] 0)).update s.heap.objs.size (CO (·++vs.toArray))).objs.size=s.heap.objs.size+1:=by
  rw[U0,DL]
 have i8:(((s.heap.push (DH "list" #[] 0)).update s.heap.objs.size (CO (·++vs.toArray))).push (DH "list" vs.toArray 0)).get? (s.heap.objs.size+1)=u8 (DH "list" vs.toArray 0):=by
  rw[<- hsz];exact AQ _ rfl
 have rM:∀b ob,s.heap.get? b=u8 ob->(((s.heap.push (DH "list" #[] 0)).update s.heap.objs.size (CO (·++vs.toArray))).push (DH "list" vs.toArray 0)).get? b=u8 ob:=λb ob e =>
  AE _ ((D4 _ _ (BU (BF (Be e)))).trans (AE _ e))
 show wpAny _ _ _ _ _ {s with heap:=((s.heap.push (DH "list" #[] 0)).update s.heap.objs.size (CO (·++vs.toArray))).push (DH "list" vs.toArray 0)};rw[hsz];have R1:RowE prog w (((s.heap.push (DH "list" #[] 0)).update s.heap.objs.size (CO (·++vs.toArray))).push (DH "list" vs.toArray 0)) vs ks:=Pk R λx hx o e=>rM _ o e;refine Ap (Dx (DM Q2 ⟨_,i8,ξ⟩ PU (OD (s:={s with heap:=((s.heap.push (DH "list" #[] 0)).update s.heap.objs.size (CO (·++vs.toArray))).push (DH "list" vs.toArray 0)}) i8 R1 δ (by show A.units+1+1<Cs;lia) λp P1 P2=>⟨_,ξ,?_⟩) (Q3 _)));refine AC ⟨_,ξ,?_⟩;obtain⟨e,he⟩:=sortedHeap_at (out:=KI (p.toList.map λi=>vs.getD i Db)) i8;have eo:(p.toList.map λi=>vs.getD i Db)=(p.toList.map λi=>ks.getD i ([],0)).map λx=>A7 x.2:=by
  rw[ED];refine FM λi hi=>?_;have b7:i<ks.length:=AU.mp ((HX P1).mem_iff.mp hi);rw[R.vals];simp[AD,b7]
 rw[eo] at he ⊢;have pk:(p.toList.map λi=>ks.getD i ([],0)).Perm ks:=by
  have z:=SB.HJ (l:=ks) (HX P1);rw[SB.Gb ([],0) λi hi=>AU.mp ((HX P1).mem_iff.mp hi)] at z;exact z
 refine q _ (s.heap.objs.size+1) _ e (λb ob eb=>?_) (Ki _) he pk ?_
 .have hb:=Be eb
  rw[WI (BF (FH hb)) (by rw[DL,hsz];exact FH (FH hb))];exact rM b ob eb
 .rw[ED]
  refine B7.mpr λi j hi hj hU=>?_;have b7:i<p.size:=by simpa using hi
  have b6:j<p.size:=by simpa using hj
  have z:=P2 i j hU (by rw[<- P1.size];exact b6);unfold ltK g at z;simpa [Eg,b7,b6] using z
end SB
namespace L2
open PySem PySem.Spec PyProof.Rows
def ACh(K:As):List V->Hp->VK->Prop:=λxs H Q=>∃(p:Addr) (ys:List V) (ds:vH),xs=[.ref p]/\SqL K H p ys/\A9 (rPair K H) ds ys/\ds.length<=10000/\ds.Nodup /\
 ∀(l:Addr) (zs:List V) (ms:vH),H l=none->ms.Perm ds->ms.Pairwise (λa b=>HT.lexLt a b=true)->A9 (rPair K H) ms zs->Q (.ref l) (upd H l (.lst zs))
theorem JH(hu:X.A.units+3<Cs):CallR X (.builtin "sorted") (ACh X.K):=by
 intro aI s σ H xs us Q I r h;obtain⟨p,ys,ds,rfl,hq,pd,f8,nd,q⟩:=h;obtain⟨u,rfl,ru⟩:=r.one;cases ru;obtain⟨a5,rv,pl,hz⟩:=I.list hq;have keys:∀(ds:vH) (ys:List V) (a5:vO),A9 (rPair X.K H) ds ys->Vals ys a5->∃ks:List (vG×Addr),ks.map (·.1)=ds/\a5=ks.map (λx=>A7 x.2)/\ys=ks.map (λx=>V.ref x.2)/\∀x∈ks,rPair X.K H x.1 (.ref x.2):=by
  intro ds ys a5 p
  induction p generalizing a5 with
  | nil=>intro v;cases v;exact⟨[],ξ,ξ,ξ,λ_ h=>by cases h⟩
  | cons h1 _ ih =>
   intro v;cases v with
   | cons r1 v =>
    obtain⟨ks,e1,e2,e3,e4⟩:=ih _ v;obtain⟨p,rfl,_⟩:=Bq h1;cases r1;exact⟨(_,p)::ks,by rw[BO,e1],by rw[BO,e2],by rw[BO,e3],λx hx=>by
     rcases AY.mp hx with rfl| hx
     .exact h1
     .exact e4 x hx⟩
 obtain⟨kd,e1,e2,e3,e4⟩:=keys ds ys a5 pd rv;have lk:kd.length=ds.length:=by rw[<- e1,AB]
 have R:SB.RowE X.prog X.w s.heap a5 kd:=by
  refine⟨e2,λx hx=>?_,by rw[e1];exact nd⟩;obtain⟨b,eb,hb⟩:=Bq (e4 x hx);cases eb;exact ik_ofB I hb
 refine SB.Rv hu pl.isList R (wt lk f8) λh' D ko e kp hD he pk so=>?_;have vl:∀l:List (vG×Addr),Vals (l.map λx=>V.ref x.2) (l.map λx=>A7 x.2):=λl=>by
  induction l with
  | nil=>exact .nil
  | cons x r ih=>exact .cons rfl ih
 have pv:∀l:List (vG×Addr),(∀x∈l,x∈kd)->A9 (rPair X.K H) (l.map (·.1)) (l.map λx=>V.ref x.2):=λl=>by
  induction l with
  | nil=>exact λ_=>.nil
  | cons x r ih =>
   intro hh;exact .cons (e4 x (hh x AF)) (ih λy hy=>hh y (AJ _ hy))
 refine⟨.ref D,_,I.laid (o:=.lst (ko.map λx=>V.ref x.2)) (a:=D) (t':=s.toks) kp hD ⟨?_,_,e,vl ko,he⟩,ξ,q D _ (ko.map (·.1)) (I.hok.fresh hD) (e1 ▸ pk.map (·.1)) so (pv ko λx hx=>pk.mem_iff.mp hx)⟩;rw[AB,pk.length_eq,lk];exact BQ f8 (show 10000<=sizeLine by decide)
end L2
namespace K34
open PySem L2 G
theorem Uo{s u:vI}(hs:s.Pairwise (· < ·))(hu:u.Pairwise (· < ·))(h:∀x,x∈s↔x∈u):s=u:=by
 have im:∀{l:vI},l.Pairwise (· < ·)->(l.map λ(x:Nat)=>(x:Int)).Pairwise (· < ·):=λh=>Cb.mpr (h.imp λh=>OV.mpr h);have e:=L2.Ij (im hs) (im hu) λx=>⟨λhx=>by
  obtain⟨y,hy,rfl⟩:=A1.mp hx;exact A1.mpr ⟨y,(h y).mp hy,ξ⟩,λhx=>by
  obtain⟨y,hy,rfl⟩:=A1.mp hx;exact A1.mpr ⟨y,(h y).mpr hy,ξ⟩⟩
 exact List.map_inj_right (λ_ _ h=>Mo h)|>.mp e
theorem ZS[DecidableEq α]{l m:List α}(hl:l.Nodup)(hm:m.Nodup)(h:∀x,x∈l↔x∈m):l.Perm m:=by
 rw[List.perm_iff_count];intro a;rw[hl.count,hm.count];by_cases c:a∈l
 .rw[vB c,vB ((h a).mp c)]
 .rw[vA c,vA λz=>c ((h a).mpr z)]
theorem Sol.nd{A:vI->Prop}(h:Sol n A ss):ss.Nodup:=h.ord.imp λ{a b} l e=>by rw[e] at l;exact Ex _ l
theorem Kq{s:vI}(h:s.Pairwise (· < ·)):s.Nodup:=h.imp λh=>BF h
theorem Fz(hK:X.K=K):CallR X (.type "tuple") (λxs H Q=>∃p ys,xs=[.ref p]/\((SqL K H p ys/\∀l,H l=none->Q (.ref l) (upd H l (.tup ys)))\/(SqT K H p ys/\Q (.ref p) H))):=by subst hK;exact Bp
theorem Vz(s:vI):(up s).map V.int=nI s:=by
 unfold nI up;rw[ED];rfl
theorem AEk(s:vI)(k:Nat):nI (s++[k])=nI s++[.int (k:Int)]:=by
 unfold nI;rw[BI];rfl
theorem AIC{s:vI}(h:(nI s)[i]?=u8 v):∃k,s[i]?=u8 k/\v=.int (k:Int):=by
 unfold nI at h;rw[AV] at h;cases e:s[i]? with
 | none=>rw[e] at h;cases h
 | some k=>rw[e] at h;exact⟨k,ξ,(AM h).symm⟩
theorem Sol.len{A:vI->Prop}(h:Sol n A ss)(fF:n<=12):ss.length<=4096:=by
 have nd:(ss.map (num n)).Nodup:=by
  unfold J6;rw[Cb];exact h.ord.imp λl=>BF l
 have z:=ST.Bo (l₁:=ss.map (num n)) (l₂:=AX (2 ^ n)) nd λx hx=>by
  obtain⟨s,hs,rfl⟩:=A1.mp hx;obtain⟨w1,w2,_⟩:=(h.mem s).mp hs;exact AU.mpr (Qq (n:=n) (t:=0) w1 λx hx=>⟨Bz _,w2 x hx⟩)
 rw[AB,B6] at z;have:2 ^ n<=2 ^ 12:=IM ζ fF;lia
theorem LC{s:vI}(h:s.Pairwise (· < ·))(hs:∀x∈s,x<n):s.length<=n:=by
 have z:=ST.Bo (l₁:=s) (l₂:=AX n) (Kq h) λx hx=>AU.mpr (hs x hx);rw[B6] at z;exact z
theorem AGS(h:ss.Nodup):(ss.map up).Nodup:=by
 unfold J6;rw[Cb];exact h.imp λn e=>n (Jo e)
theorem AHc{l m:vH}(hl:l.Pairwise λa b=>HT.lexLt a b=true)(hm:m.Pairwise λa b=>HT.lexLt a b=true)(p:l.Perm m):l=m :=
 p.eq_of_pairwise (λa b _ _ h1 h2=>by rw[ST.Jf h1] at h2;cases h2) hl hm
theorem AIH{t:Addr}{s:vI}(h:SqT K H t (nI s)):rPair K H (up s) (.ref t):=⟨t,_,ξ,h,by rw[<- Vz];exact paired_ints _⟩
theorem Nb(e:TSm H H'){ds:vH}(h:A9 (rPair K H) ds ys):A9 (rPair K H') ds ys:=vj (λa b r=>Ak Am _ _ a b e r) h
end K34
namespace L2
open PySem PySem.Spec PyProof.Rows
def rTold3(K:As)(H:Hp)(d:vH)(i j:Int)(x:V):Prop:=∃(p:Addr) (l:V),x=.ref p/\SqT K H p [l,.int i,.int j]/\rLst K (rTup K rInt) H d l
def rEq3(K:As):R2:=λx y H Q=>∃a i j,rTold3 K H a i j x/\rTold3 K H a i j y/\Q (.bl true) H
theorem AHX(hu:X.A.units+4<Cs):OpR X (DS .Eq) (rEq3 X.K):=by
 intro aI s σ H x y v u Q I rx ry h;obtain⟨a,i,j,⟨p,l,rfl,hp,pa⟩,⟨q,m,rfl,hq,pb⟩,h⟩:=h;cases rx;cases ry;obtain⟨a5,ra,ta,_⟩:=I.tuple hp;obtain⟨fg,rb,tb,_⟩:=I.tuple hq;have hu2:X.A.in1.units+2<Cs:=by show X.A.units+1+2<Cs;lia
 have pl:a5.toArray.size=3/\fg.toArray.size=3/\∀(k:Nat) (h1:k<a5.toArray.size) (h2:k<fg.toArray.size),LP X.A.in1 s a5.toArray[k] fg.toArray[k] true:=by
  cases ra with
  | cons x1 ra =>
   cases ra with
   | cons x2 ra =>
    cases ra with
    | cons x3 ra =>
     cases ra;cases rb with
     | cons y1 rb =>
      cases rb with
      | cons y2 rb =>
       cases rb with
       | cons y3 rb =>
        cases rb;have e1:=(AFh (Fw Cy)).eq aI s σ H X.A.in1 a a _ _ _ _ I δ pa pb x1 y1;have e2:=Cy.eq aI s σ H X.A.in1 i i _ _ _ _ I (zX hu2) rfl rfl x2 y2;have e3:=Cy.eq aI s σ H X.A.in1 j j _ _ _ _ I (zX hu2) rfl rfl x3 y3;rw[vC rfl] at e1 e2 e3;refine⟨ξ,ξ,λk h1 h2=>?_⟩
        match k,h1,h2 with
        | 0,_,_=>exact e1
        | 1,_,_=>exact e2
        | 2,_,_=>exact e3
 obtain⟨z1,z2,pl⟩:=pl;refine U2 (e:=λ_=>true) ta tb (vp hu) pl ?_;rw[z1,z2];exact⟨.bl _,H,I,ξ,h⟩
end L2
namespace K34
open PySem L2 G
def ADv(K:As)(S:Addr):Sp:=λvs H Q _=>∃(p q:Addr) (n h:Nat) (aE:List Row),vs=[.ref p,.ref q]/\K34s.SvAt K S H p n aE h/\K34s.SvAt K S H q n aE h/\∀H',Same H H'->Q (.bl true) H'
theorem AGs:FnScope zl18 zl18 (Af AEQ):=fscp ψ
theorem AFw(F:Fun K "_law_same" "_law_same" AEQ f fd)(T:K34s.Txt K mg S)
  (GK:FnOk P w K mg base CX0 1 fK f6 zl0 (K34s.Ip K S)) (bK:Binds K f6 zl0 []) (mK:Meth K S "knots" fK)
  (GT:FnOk P w K mg base CX0 1 fT df zl0 (K34s.VL K S)) (bT:Binds K df zl0 []) (mT:Meth K S "top" fT)
  (GM:FnOk P w K mg base CX0 1 fM tm zl0 (K34s.ADu K S)) (bM:Binds K tm zl0 []) (mM:Meth K S "many" fM) :
  FnOk P w K mg base CX0 2 f fd zl18 (ADv K S):=by
 refine F.ok AGs (λbt A outer s H vs Q E hr h=>?_);obtain⟨p,q,n,hd,aE,rfl,hV,hW,qq⟩:=h;have bo:Room 1 _:=hr.mono ζ;refine⟨_,Ah (Ar (Fp (AHX (CK hr)) (Bs (Aa (BZ (pv 1) T.cl mK GK bo bK .nil pass0) (Aa (BZ (pv 1) T.cl mT GT bo bT .nil pass0) (Aa (BZ (pv 1) T.cl mM GM bo bM .nil pass0) Ac))))
  (Bs (Aa (BZ (pv 0) T.cl mK GK bo bK .nil pass0) (Aa (BZ (pv 0) T.cl mT GT bo bT .nil pass0) (Aa (BZ (pv 0) T.cl mM GM bo bM .nil pass0) Ac)))))),?_⟩
 obtain⟨dq,jq,hq,_⟩:=id hW;refine⟨_,ξ,q,dq,_,ξ,hq,ξ,q,n,hd,aE,ξ,hW,λl ys H1 s1 hl el px=>?_⟩;have pM:=hW.same s1;refine⟨_,ξ,q,dq,_,ξ,s1 _ _ hq,ξ,q,n,hd,aE,ξ,pM,?_⟩;refine⟨_,ξ,q,dq,_,ξ,s1 _ _ hq,ξ,q,n,hd,aE,ξ,pM,?_⟩;refine⟨(by show 3<=sizeLine;decide),λt ht=>?_⟩;have s2:=vk ht (.tup [V.ref l,.int (hd:Int),.int (n:Int)]);have et:(upd H1 t (.tup [V.ref l,.int (hd:Int),.int (n:Int)])) t=u8 (.tup [V.ref l,.int (hd:Int),.int (n:Int)]):=Ab;generalize upd H1 t (.tup [V.ref l,.int (hd:Int),.int (n:Int)])=H2 at s2 et ⊢;have s12:=s1.trans s2;have e9:=hV.same s12;obtain⟨dp,jp,hp,_⟩:=id e9;refine⟨_,ξ,p,dp,_,ξ,hp,ξ,p,n,hd,aE,ξ,e9,λl3 sX H3 s3 og el3 px3=>?_⟩;have rC:=e9.same s3;refine⟨_,ξ,p,dp,_,ξ,s3 _ _ hp,ξ,p,n,hd,aE,ξ,rC,?_⟩;refine⟨_,ξ,p,dp,_,ξ,s3 _ _ hp,ξ,p,n,hd,aE,ξ,rC,?_⟩;refine⟨(by show 3<=sizeLine;decide),λt4 ht4=>?_⟩;have s4:=vk ht4 (.tup [V.ref l3,.int (hd:Int),.int (n:Int)]);have pT:=s2.trans (s3.trans s4);refine⟨aE.map K34s.r3i,hd,n,⟨t,_,ξ,ve ((s3.trans s4) _ _ et),l,ys,ξ,pT.seq (vd el),K34s.Uv ?_⟩,⟨t4,_,ξ,ve Ab,l3,sX,ξ,s4.seq (vd el3),K34s.Uv ?_⟩,qq _ (s12.trans (s3.trans s4))⟩
 .exact vj (λa b h=>K34s.Bd _ _ a b pT.ts h) px
 .exact vj (λa b h=>K34s.Bd _ _ a b s4.ts h) px3
def AEJ(K:As)(S:Addr):Sp:=λvs H Q _=>∃(p:Addr) (n hd:Nat) (aS:List Row),vs=[.ref p,.int n]/\K34s.SvAt K S H p n aS hd/\Canon n aS hd/\n<=12/\aS.length<=4000/\∀H',Same H H'->Q (.bl true) H'
theorem Tp{K:As}{H:Hp}:∀{ss:List vI}{ys:List V},A9 (K34s.rTies K H) ss ys->A9 (rSeq K H) (ss.map up) ys
 | _,_,.nil=>.nil
 | _,_,.cons ⟨p,e,h⟩ t=>.cons (.inr ⟨p,_,e,ve h,paired_ints _⟩) (Tp t)
theorem Xu{F:α->β->Prop}{l:List α}{m:List β}(h:A9 F l m):A9 F l.reverse m.reverse:=by
 induction h with
 | nil=>exact .nil
 | cons a _ ih=>rw[Uf,Uf];exact vg ih (vh a)
theorem AEO:FnScope ["_law_sieve","_law_many","_law_told"] zl30 (Af ABY):=fscp ψ
theorem AEg{fO:Addr}{fdO:BA}(F:Fun K "_law_is_made" "_law_is_made" ABY f fd)(T:K34s.Txt K mg S)
  (GK:FnOk P w K mg base CX0 1 fK f6 zl0 (K34s.Ip K S)) (bK:Binds K f6 zl0 []) (mK:Meth K S "knots" fK)
  (GT:FnOk P w K mg base CX0 1 fT df zl0 (K34s.VL K S)) (bT:Binds K df zl0 []) (mT:Meth K S "top" fT)
  (GE:Cal P w K mg base 2 fE fdE "sets_of" ["sieve"] (K34s.YB K S))
  (GA:Cal P w K mg base 2 fA dE "_law_same" zl18 (ADv K S))
  (GO:Cal P w K mg base 15 fO fdO "sieve_of" ["n","sets"] (K34s.Zf K S))
  (GL:Cal P w K mg base 4 fL nv "least_sieve" zl21 (K34s.Yc K S)) :
  FnOk P w K mg base CX0 16 f fd zl30 (AEJ K S):=by
 refine F.ok AEO (λbt A outer s H vs Q E hr h=>?_);obtain⟨p,n,hd,aS,rfl,hV,cn,fF,n4,q⟩:=h;have bo:Room 1 _:=hr.mono ζ;have eK:Room 2 _:=hr.mono ζ;have sO:Room 4 _:=hr.mono ζ;have hr15:Room 15 _:=hr.mono ζ;refine⟨_,Ad (Ao (i:=2) AEO.nd (Ay GE eK rfl (Aa (pv 0) Ac)))
  (Kz (Bl (vW (Sw (Aq AGR (Az Av rfl T.len CC (Aa (pv 2) Ac)) Ae) (Km (Qn (Hw (Ay GA eK rfl (Aa (pv 0) (Aa (Ay GO hr15 rfl (Aa (pv 1) (Aa (AFX rfl rfl T.list rfl T.rev (pv 2)) Ac))) Ac)))))))) (Ah (Ar KH)) BJ)
  (Ah (Ar (AIP (Fp Ma (Az Av rfl T.len CC (Aa (BZ (pv 0) T.cl mK GK bo bK .nil pass0) Ac)) Ae)
   (ACJ (Ay GA eK rfl (Aa (pv 0) (Aa (Ay GL sO rfl (Aa (pv 1) (Aa (BZ (pv 0) T.cl mK GK bo bK .nil pass0) (Aa (BZ (pv 0) T.cl mT GT bo bT .nil pass0) Ac)))) Ac)))))))),?_⟩
 have ok:=cn.least.ok;have I:=Gk _ _ rfl ok _ cn.knot;refine⟨_,ξ,p,n,hd,aS,ξ,hV,ok,cn.knot,fF,n4,λL ys H1 s1 nL eL py=>?_⟩;have ly:=AT py;refine⟨λσ' H'=>Same H H'/\σ'=[u8 (.ref p),u8 (.int n),u8 (.ref L)],?_,?_⟩
 .refine⟨_,ξ,L,_,ξ,.inl (vd eL),_,_,ξ,ξ,_,ξ,?_⟩
  refine ite2 (λc=>?_) (λ_=>iteF ⟨s1,ξ⟩);have c':((ys.length:Nat):Int)<=60:=vE c;refine⟨_,ξ,_,ξ,_,ξ,L,ys,ξ,vd eL,δ,λR hR=>?_⟩;have s2:=vk hR (.lst ys.reverse);have pr:=Xu (Tp (K34s.Ft s2.ts py));refine⟨R,n,_,ξ,fF,⟨⟨_,.inl (vd Ab),pr⟩,by rw[M8,AB];lia⟩,λu hu=>?_,λp2 kQ dL H3 s3 h1 h2 h3 h4=>?_⟩
  .obtain⟨x,hx,rfl⟩:=A1.mp (FY.mp hu)
   obtain⟨w1,w2⟩:=I.way x hx;refine⟨Cb.mpr (w1.imp λh=>OV.mpr h),λy hy=>?_⟩;obtain⟨v,hv,rfl⟩:=A1.mp hy;have:=(w2 v hv).2;exact xF this
  have un:=vc h2 cn λu=>by
   rw[h3 u,Go,decide_eq_true_iff,<- I.mem u,FY,A1];exact⟨by rintro⟨x,hx,e⟩;exact Jo e ▸ hx,λh=>⟨u,h,ξ⟩⟩
  obtain⟨rfl,rfl⟩:=un;have rE:=s1.trans (s2.trans s3);refine⟨p,p2,n,dL,kQ,ξ,hV.same rE,h1,λH4 s4=>⟨true,ξ,iteF ⟨rE.trans s4,ξ⟩⟩⟩
 rintro σ' H2 ⟨s2,rfl⟩;have e9:=hV.same s2;obtain⟨dp,jp,hp,_⟩:=id e9;refine⟨_,ξ,p,dp,_,ξ,hp,ξ,p,n,hd,aS,ξ,e9,λl sX H3 s3 hl el px=>?_⟩;have lx:=AT px;refine⟨l,sX,ξ,.inl (vd el),_,_,ξ,ξ,_,ξ,?_⟩;refine ite2 (λ_=>q _ (s2.trans s3)) (λc=>?_);have c':¬ (300:Int)<((sX.length:Nat):Int):=λh=>c (vC h);have rC:=e9.same s3;refine⟨_,ξ,_,ξ,_,ξ,p,dp,_,ξ,s3 _ _ hp,ξ,p,n,hd,aS,ξ,rC,λl4 ys4 H4 s4 sM el4 u7=>?_⟩;have hV4:=rC.same s4;refine⟨_,ξ,p,dp,_,ξ,s4 _ _ (s3 _ _ hp),ξ,p,n,hd,aS,ξ,hV4,?_⟩;refine⟨l4,n,hd,aS,ξ,⟨l4,ys4,ξ,vd el4,u7⟩,ok,fF,δ,K34s.Pu (λt=>BQ (CY ..) δ) hd,cn.knot,λp2 kQ dL H5 s5 h1 h2 h3 h4=>?_⟩;obtain⟨rfl,rfl⟩:=vc h2 cn h3;exact⟨p,p2,n,dL,kQ,ξ,hV4.same s5,h1,λH6 s6=>q _ (s2.trans (s3.trans (s4.trans (s5.trans s6))))⟩
end K34
namespace K34s
open PySem L2 G
theorem AIg{s:vG}{i:Int}{v:Int}{Q:VK}(h:Sq K H p (s.map V.int))(e:atI (s.map V.int) i=u8 (.int v))(q:Q (.int v) H):rIxA K (.ref p) (.int i) H Q :=
 h.elim (λz=>.inl ⟨p,_,i,_,ξ,ξ,z,e,q⟩) λz=>.inr ⟨p,_,i,_,ξ,ξ,z,e,q⟩
noncomputable def meets(aE:List Row)(k:Nat)(s:vG):Bool:=hasW aE (k+1) k s
theorem IV{aE:List Row}(o:Ok n aE){f k:Nat}(h:k<f)(kn:Knot aE k)(s:vG):hasW aE f k s=meets aE k s:=by
 unfold meets;rw[Go,Mi o f k s h kn,Mi o (k+1) k s (ER k) kn]
theorem ABL{aE:List Row}{k:Nat}(h:k<=1)(s:vG):meets aE k s=decide (k=1/\s=[]):=by
 unfold meets hasW;rw[vB h]
theorem Zy{aE:List Row}(o:Ok n aE){k:Nat}(h:2<=k)(kn:Knot aE k):meets aE k []=meets aE (aE.getD (k-2) (0,0,0)).2.1 []:=by
 obtain⟨t1,z1,z2,r1,r2,n1,n2⟩:=o.low (Bb kn h);rw[<- IV o (f:=k) (we z1 h) n1];show hasW aE (k+1) k []=_
 conv=>lhs;unfold hasW
 rw[vA (xp h)]
theorem XD{aE:List Row}(o:Ok n aE){k:Nat}(h:2<=k)(kn:Knot aE k)(x:Int)(xs:vG):meets aE k (x::xs)=if x=((aE.getD (k-2) (0,0,0)).1:Int) then meets aE (aE.getD (k-2) (0,0,0)).2.2 xs else meets aE (aE.getD (k-2) (0,0,0)).2.1 (x::xs):=by
 obtain⟨t1,z1,z2,r1,r2,n1,n2⟩:=o.low (Bb kn h);rw[<- IV o (f:=k) (we z1 h) n1,<- IV o (f:=k) (we z2 h) n2];show hasW aE (k+1) k (x::xs)=_
 conv=>lhs;unfold hasW
 rw[vA (xp h)]
def AGP(K:As)(C:Addr):Sp:=λvs H Q _=>∃(p t:Addr) (n hd:Nat) (aE:List Row) (s:vG),vs=[.ref p,.ref t]/\SvAt K C H p n aE hd/\Ok n aE/\Knot aE hd/\Sq K H t (s.map V.int) /\
 ∀(H':Hp),Same H H'->Q (.bl (meets aE hd s)) H'
theorem KD:FnScope ["sieve","some","rows","knot","met","row"] zl31 (Af AHD):=fscp ψ
theorem AHp(F:Fun K "has_set" "has_set" AHD f fd)(T:Txt K mg C)
  (GK:FnOk P w K mg base CX0 1 fK f6 zl0 (Ip K C)) (bK:Binds K f6 zl0 []) (mK:Meth K C "knots" fK)
  (GT:FnOk P w K mg base CX0 1 fT df zl0 (VL K C)) (bT:Binds K df zl0 []) (mT:Meth K C "top" fT) :
  FnOk P w K mg base CX0 2 f fd zl31 (AGP K C):=by
 refine F.ok KD (λbt A outer s H vs Q E hr h=>?_);obtain⟨p,t,n,hd,aE,s0,rfl,hV,ok,kn,hS,q⟩:=h;have bo:Room 1 _:=hr.mono ζ;refine⟨_,Ad (Ao (i:=2) KD.nd (BZ (pv 0) T.cl mK GK bo bK .nil pass0))
  (Ad (Ao (i:=3) KD.nd (BZ (pv 0) T.cl mT GT bo bT .nil pass0))
  (Ad (Ao (i:=4) KD.nd Ae)
  (Ad (Uz DJ (Aq Ma (pv 3) Ae)
   (Ad (Ao (i:=5) KD.nd (Ax Cg (pv 2) (Aw Ez (pv 3) Ae)))
   (Ah (Bl (vW (Sw (Aq Hv (pv 4) (Az Av rfl T.len CC (Aa (pv 1) Ac))) (Km (Aq EY (Ax Ck (pv 1) (pv 4)) (Ax Bc (pv 5) Ae)))))
    (Ad (Ao (i:=4) KD.nd (Aw CQ (pv 4) Ae)) (Ah (Ao (i:=3) KD.nd (Ax Bc (pv 5) Ae))))
    (Ah (Ao (i:=3) KD.nd (Ax Bc (pv 5) Ae)))))))
  (Ah (Ar (AHA (Fp EY (pv 3) Ae) (ACJ (Fp EY (pv 4) (Az Av rfl T.len CC (Aa (pv 1) Ac)))))))))),?_⟩
 obtain⟨dx,jj,hp,_⟩:=id hV;refine⟨_,ξ,p,dx,_,ξ,hp,ξ,p,n,hd,aE,ξ,hV,λl ys H1 s1 hl el px=>?_⟩;refine⟨_,ξ,p,dx,_,ξ,s1 _ _ hp,ξ,p,n,hd,aE,ξ,hV.same s1,?_⟩;have hL:rLst K (rRow K) H1 aE (.ref l):=⟨l,ys,ξ,vd el,px⟩;have hT:=Sq.same hS s1;have lt:(((s0.map V.int).length:Nat):Int)=s0.length:=by rw[AB]
 refine⟨λm σ H2=>∃(k' at_:Nat) (o5:Option V),m=k'/\H2=H1/\σ=[u8 (.ref p),u8 (.ref t),u8 (.ref l),u8 (.int k'),u8 (.int at_),o5]/\Knot aE k'/\at_<=s0.length/\meets aE hd s0=meets aE k' (s0.drop at_),⟨hd,hd,0,u9,ξ,ξ,ξ,kn,Bz _,ξ⟩,?_⟩;rintro m σ H2 ⟨k',at_,o5,rfl,rfl,rfl,kn',al,e⟩;refine⟨_,ξ,_,_,ξ,ξ,_,ξ,?_⟩;refine ite2 (λc=>?_) (λc=>?_)
 .have m2:2<=m:=by have:=vE c;exact y9 this
  obtain⟨xs,b,hS2,ha,hb⟩:=ABe hL kn' m2;obtain⟨t1,z1,z2,r1,r2,n1,n2⟩:=ok.low (Bb kn' m2);refine⟨λσ' H'=>∃m',m'<m/\_,λσ' H' h=>h,?_⟩;refine⟨_,ξ,_,ξ,_,_,ξ,ξ,l,xs,_,_,ξ,ξ,hS2,ha,?_⟩;refine⟨_,ξ,_,ξ,t,_,ξ,hT,_,_,ξ,ξ,_,ξ,?_⟩;rw[lt];by_cases c1:at_<s0.length
  .have eh:=LF c1
   have hv:atI (s0.map V.int) (at_:Int)=u8 (.int s0[at_]):=Bv (by rw[AV,AK c1];rfl);have ec:=XD ok m2 kn' s0[at_] (s0.drop (at_+1));rw[eh,ec] at e;refine iteP (v7 c1) ?_;refine⟨_,ξ,_,ξ,AIg hT hv ⟨_,ξ,b,_,_,_,ξ,ξ,hb,at0,ξ,_,ξ,?_⟩⟩;by_cases c3:s0[at_]=((aE.getD (m-2) (0,0,0)).1:Int)
   .refine iteP (by rw[c3]) ?_
    rw[vB c3] at e;exact⟨_,ξ,_,_,ξ,ξ,_,ξ,b,_,_,_,ξ,ξ,hb,at2,_,(we z2 m2),_,at_+1,_,ξ,ξ,ξ,n2,c1,e⟩
   .refine iteN (λz=>c3 (by injection z with z)) ?_
    rw[vA c3,<- eh] at e;exact⟨_,ξ,b,_,_,_,ξ,ξ,hb,at1,_,(we z1 m2),_,at_,_,ξ,ξ,ξ,n1,al,e⟩
  .have eh:s0.drop at_=[]:=FS (vo c1)
   refine iteN δ (iteF ?_);rw[eh,Zy ok m2 kn',<- eh] at e;exact⟨_,ξ,b,_,_,_,ξ,ξ,hb,at1,_,(we z1 m2),_,at_,_,ξ,ξ,ξ,n1,al,e⟩
 .have m1:m<=1:=by
   have:¬ (1:Int)<m:=λz=>c (vC z);lia
  have q':=q H2 s1;rw[e,ABL m1] at q';refine⟨_,ξ,ξ,_,ξ,?_⟩;by_cases c1:m=1
  .subst c1
   refine iteP rfl ?_;refine⟨_,ξ,_,ξ,t,_,ξ,hT,ξ,?_⟩;rw[lt];have eb:decide (V.int (at_:Int)=V.int (s0.length:Int))=decide (1=1/\s0.drop at_=[]):=by
    by_cases c2:at_=s0.length
    .rw[vC (show V.int (at_:Int)=V.int (s0.length:Int) by rw[c2]),vC ⟨ξ,FS (wg c2)⟩]
    .rw[vD (λz=>c2 (by injection z with z;exact vx z)),vD (λz=>c2 (by have:=List.drop_eq_nil_iff.mp z.2;exact yy al this))]
   rw[eb];exact q'
  .refine iteN (λz=>by injection z with z;lia) ?_
   rw[vD (λz=>c1 z.1)] at q';exact q'
end K34s
namespace K34
open PySem L2
theorem Fg(n:Nat):(below n).length=n:=by unfold below;simp
theorem Tj(n:Nat):(below n).Nodup:=(Ov n).imp λh=>by lia
theorem ACj(n:Nat):(below n).Pairwise (·<=·):=(Ov n).imp λh=>w9 h
def Ord(n:Nat)(ns:vG):Prop:=ns.Perm (below n)
theorem Ord.length(h:Ord n ns):ns.length=n:=by rw[List.Perm.length_eq h,Fg]
theorem Ord.nodup(h:Ord n ns):ns.Nodup:=(JO h).mpr (Tj n)
theorem Ord.mem(h:Ord n ns){x:Int}:x∈ns↔0<=x/\x<n:=by rw[List.Perm.mem_iff h,AAr]
theorem Wt(hp:ms.Perm ns)(hs:ms.Pairwise (·<=·)):ms=below n↔Ord n ns:=by
 constructor
 .rintro rfl
  exact hp.symm
 .intro h
  exact Pl (le:=(·<=·)) (λa b _ _ h1 h2=>zP h1 h2) hs (ACj n) (hp.trans h)
theorem YF{l:vG}:∀{k:Nat}{y:Int},l[k]?=u8 y->(y::l.eraseIdx k).Perm l:=by
 induction l with
 | nil=>intro k y h;simp at h
 | cons a t ih =>
  intro k y h;cases k with
  | zero =>
   obtain rfl:a=y:=by simpa using h
   exact IS _
  | succ k =>
   have h':t[k]?=u8 y:=by simpa using h
   exact(NG a y _).trans (NF a (ih h'))
theorem ACy{f l b:vG}{k:Nat}{y:Int}(h:(f++l).Perm b)(hy:l[k]?=u8 y):((f++[y])++l.eraseIdx k).Perm b:=by
 rw[CH];exact(EL f (YF hy)).trans h
noncomputable def pickO(as:vH)(ns:vG):vH:=ns.map λk=>as.getD k.toNat []
theorem JT(as:vH)(ns:vG):(pickO as ns).length=ns.length:=by unfold pickO;simp
theorem Tq(as:vH):pickO as (below as.length)=as:=by
 unfold pickO below;rw[ED];apply FF;intro i;by_cases hi:i<as.length
 .rw[AV,EX hi,AK hi]
  simp[List.getD,AK hi]
 .rw[DZ (by simp;exact vo hi),DZ (vo hi)]
theorem Nr(h:Ord as.length ns):(pickO as ns).Perm as:=by
 have e:=Xs (λk:Int=>as.getD k.toNat []) h;have e2:=Tq as;unfold pickO at e2;rw[e2] at e;exact e
theorem Zt{k:Int}(h:ns[i]?=u8 k):(pickO as ns)[i]?=u8 (as.getD k.toNat []):=by
 unfold pickO;rw[AV,h];rfl
theorem AFn{m:Int}{t:vG}(h:OkTie m t):srt (srt t)=srt t:=by
 obtain⟨a,b,rfl,_⟩:=h;rw[Bx];split
 .rw[Bx,vA δ]
 .rw[Bx,vA δ]
theorem AHI{m:Int}{t:vG}(h:OkTie m t):OkTie m (srt t):=by
 obtain⟨a,b,rfl,h⟩:=h;rw[Bx];split
 .exact⟨b,a,ξ,δ⟩
 .exact⟨a,b,ξ,h⟩
structure GoodT(m:Int)(as:vH):Prop where
 ok:OkTies m as
 so:∀t∈as,srt t=t
 len:as.length<=12
 m1:1<=m
 m10:m<=10
theorem Ri(h:∀t∈as,srt t=t):as.map srt=as:=by
 conv=>rhs;rw[<- List.map_id as]
 exact FM λt ht=>h t ht
theorem GoodT.of{m:Int}(h:OkTies m as)(hl:as.length<=12)(h1:1<=m)(h10:m<=10):GoodT m (as.map srt):=by
 have so:∀t∈as.map srt,srt t=t:=λt ht=>by
  obtain⟨u,hu,rfl⟩:=A1.mp ht;exact AFn (h.ok u hu)
 refine⟨⟨λt ht=>?_,?_⟩,so,by simpa using hl,h1,h10⟩
 .obtain⟨u,hu,rfl⟩:=A1.mp ht
  exact AHI (h.ok u hu)
 .rw[Ri so]
  exact h.nd
theorem GoodT.perm{m:Int}{bs:vH}(h:GoodT m as)(p:bs.Perm as):GoodT m bs:=by
 refine⟨⟨λt ht=>h.ok.ok t (p.mem_iff.mp ht),?_⟩,λt ht=>h.so t (p.mem_iff.mp ht),by rw[p.length_eq];exact h.len,h.m1,h.m10⟩;exact(JO (Xs srt p)).mpr h.ok.nd
theorem Fd(nd:ns.Nodup){x:Int}(hi:ns[i]?=u8 x)(hj:ns[j]?=u8 x):i=j:=by
 obtain⟨h1,e1⟩:=AG.mp hi;obtain⟨h2,e2⟩:=AG.mp hj;have z:=B7.mp nd;rcases L6 i j with h| h| h
 .exact vF (e1.trans e2.symm) (z i j h1 h2 h)
 .exact h
 .exact vF (e2.trans e1.symm) (z j i h2 h1 h)
end K34
namespace K34
open PySem L2 G
noncomputable def byN(n:Nat)(ns:vG)(s:vI):vI:=(AX n).filter λj=>decide ((ns.getD j 0).toNat∈s)
theorem Gj(n:Nat)(ns:vG)(s:vI):(byN n ns s).Pairwise (· < ·):=Hn.filter _
theorem ACt{s:vI}:∀x∈byN n ns s,x<n:=λx hx=>AU.mp (BG.mp hx).1
theorem Rq(o:Ord n ns)(h:j<n):∃x:Nat,x<n/\ns[j]?=u8 (x:Int)/\ns.getD j 0=(x:Int):=by
 have hl:j<ns.length:=by rw[o.length];exact h
 have m:=o.mem.mp (Fa hl);refine⟨ns[j].toNat,δ,?_,?_⟩
 .rw[AK hl,De m.1]
 .rw[AD,AK hl,De m.1]
  rfl
theorem Ew(o:Ord n ns){x:Nat}(h:x<n):ns.idxOf (x:Int)<n/\ns[ns.idxOf (x:Int)]?=u8 (x:Int):=by
 have hm:(x:Int)∈ns:=o.mem.mpr ⟨vt,v7 h⟩;have hl:=List.idxOf_lt_length_of_mem hm;refine⟨by rw[<- o.length];exact hl,?_⟩;rw[AK hl];simp
theorem VP(o:Ord n ns){s:vI}(nd:s.Nodup)(lt:∀x∈s,x<n):(s.map λ(x:Nat)=>ns.idxOf (x:Int)).Perm (byN n ns s):=by
 refine ZS ?_ ((Gj n ns s).imp λh=>BF h) λj=>?_
 .unfold J6
  rw[Cb];refine D8 (λ{a b} ha hb ne e=>ne ?_) nd;have h1:=(Ew o (lt a ha)).2;have h2:=(Ew o (lt b hb)).2;rw[e,h2] at h1;have:=AM h1;lia
 .unfold byN
  rw[A1,BG,AU,decide_eq_true_iff];constructor
  .rintro⟨x,hx,rfl⟩
   obtain⟨h1,h2⟩:=Ew o (lt x hx);refine⟨h1,?_⟩;rw[AD,h2];exact hx
  .rintro⟨h1,h2⟩
   obtain⟨x,xn,h3,h4⟩:=Rq o h1;rw[h4] at h2;refine⟨x,h2,Fd o.nodup (Ew o xn).2 h3⟩
theorem AHg(o:Ord n ns){s:vI}(nd:s.Nodup)(lt:∀x∈s,x<n)(p:ms.Perm (s.map λ(x:Nat)=>(ns.idxOf (x:Int):Int)))(h:ms.Pairwise (·<=·)):ms=up (byN n ns s):=by
 have p2:=(VP o nd lt).map λ(x:Nat)=>(x:Int);rw[ED] at p2;exact Pl (le:=(·<=·)) (λa b _ _ h1 h2=>zP h1 h2) h (Cb.mpr ((Gj n ns s).imp λh=>by lia)) (p.trans p2)
def AGa(K:As):Sp:=λvs H Q _=>∃(t o:Addr) (n:Nat) (ns:vG) (s:vI),vs=[.ref t,.ref o]/\SqT K H t (nI s)/\H o=u8 (.lst (ns.map V.int))/\Ord n ns/\n<=12/\s.Pairwise (· < ·)/\(∀x∈s,x<n) /\
 ∀(t':Addr) (H':Hp),Same H H'->SqT K H' t' (nI (byN n ns s))->Q (.ref t') H'
theorem AIF:FnScope zl19 zl19 (Af AEv):=fscp ψ
theorem AHT(F:Fun K "_law_by_names" "_law_by_names" AEv f fd)(T:Txt K mg C):FnOk P w K mg base CX0 1 f fd zl19 (AGa K):=by
 refine F.ok AIF (λbt A outer s H vs Q E hr h=>?_);obtain⟨t,o,n,ns,sl,rfl,ht,eo,hO,fF,rise,lt,q⟩:=h;refine⟨_,Ah (Ar (BP Bp rfl T.tuple DE (Aa (Az GZ rfl T.sorted Fh (Aa
    (Bu (Af AEv) ["_law_k"] ["_law_order"] [1] rfl rfl ψ ⟨⟨ξ,ψ⟩,trivial⟩ (ABy (pv 0))
     (λ_ _ _=>BL (i:=0)) (λ_ _ _=>Cv)
     (λ_ _ _=>AGd (K:=K) rfl DF PySem.F.slot_list_index PySem.F.type_list_index ACH (pv 1) (Aa (pv 0) Ac))) Ac)) Ac))),?_⟩
 have nd:sl.Nodup:=rise.imp λh=>BF h;have sl12:sl.length<=n:=LC rise lt;have lO:=hO.length;refine⟨_,ξ,t,ξ,⟨_,ht⟩,λD hD=>?_⟩;refine PX (K:=K) (a:=t) (xs:=nI sl) (λj τ H2=>∃o1:Option V,τ=[o1,u8 (.ref o)]/\Same H H2/\H2 D=u8 (.lst (((sl.take j).map λ(x:Nat)=>(ns.idxOf (x:Int):Int)).map V.int))) ⟨u9,ξ,vk hD _,Ab⟩ (by rintro j τ H2 _ ⟨_,_,s2,_⟩;exact s2.ts.seq ht) ?_ ?_
 .rintro j y τ H2 hy ⟨o1,rfl,s2,e2⟩
  obtain⟨k,hk,rfl⟩:=AIC hy;have jl:=(AG.mp hk).1;obtain⟨i1,i2⟩:=Ew hO (lt k (By hk));have eo2:=s2 _ _ eo;refine yesN ?_;refine⟨_,ξ,.inl ⟨ξ,_,vd eo2⟩,_,ξ,o,_,_,ns.idxOf (k:Int),ξ,ξ,eo2,ξ,by simp[flatV],δ,⟨.int (k:Int),by rw[AV,i2];rfl,?_⟩,?_,_,e2,?_,_,ξ,s2.put hD _,?_⟩
  .exact beq_self_eq_true _
  .intro m z hm hz
   rw[AV] at hz;cases tH:ns[m]? with
   | none=>rw[tH] at hz;cases hz
   | some y =>
    rw[tH] at hz;obtain rfl:z=.int y:=(AM hz).symm;show(y==(k:Int))=false;refine Bool.eq_false_iff.mpr λe=>?_;rw[beq_iff_eq.mp e] at tH;have:=Fd hO.nodup tH i2;exact wj hm this
  .rw[AB,AB,BV]
   exact BK δ
  .rw[Ab,DA,hk,BI,BI]
   rfl
 .rintro τ H2 ⟨o1,rfl,s2,e2⟩
  rw[Jr,CD] at e2;refine⟨D,_,ξ,.inl (vd e2),by rw[AB];lia,λls ms hls pms sms=>?_⟩;have e:=AHg hO nd lt pms sms;have s3:=vk hls (.lst (ms.map V.int));refine⟨ls,_,ξ,.inl ⟨vd Ab,λt' kC=>?_⟩⟩;refine q t' _ (s2.trans (s3.trans (vk kC _))) (ve ?_);rw[Ab,e,Vz]
end K34
namespace G
theorem QB{f:Fs}{E:List (Nat×Nat)}(p:E.Perm E')(sy:SymF f)(rg:RngF z f)(ne:∀e∈E,e.1≠e.2)(h:accR rd z f E):accR rd z f E':=by
 cases rd with
 | false=>exact Rb.mpr (Va p sy rg ne (Rb.mp h))
 | true =>
  obtain⟨h1,h2⟩:=(Mx sy ne).mp h;exact(Mx sy λe he=>ne e (p.mem_iff.mpr he)).mpr ⟨Va p sy rg ne h1,λq qz e=>by rw[<- AAq p];exact h2 q qz e⟩
structure Anew(z:Nat)(π:Nat->Nat):Prop where
 lt:∀x,x<z->π x<z
 inj:∀x y,x<z->y<z->π x=π y->x=y
 all:∀y,y<z->∃x,x<z/\π x=y
def LikeE(π:Nat->Nat)(e e':Nat×Nat):Prop:=e'=(π e.1,π e.2)\/e'=(π e.2,π e.1)
def LikeF(z:Nat)(π:Nat->Nat)(f g:Fs):Prop:=∀x,x<z->g (π x)=(f x).map π
section
variable{f g:Fs}
theorem LikeF.tie(A:Anew z π)(l:LikeF z π f g){a b:Nat}(az:a<z)(bz:b<z)(iz:i<z)(jz:j<z):LikeF z π (tieF f a b i j) (tieF g (π a) (π b) (π i) (π j)):=λx xz=>by
 have q:∀y,y<z->(π x=π y↔x=y):=λy yz=>⟨A.inj x y xz yz,λe=>by rw[e]⟩;unfold tieF;simp only[q j jz,q i iz,q a az,q b bz];split
 .rfl
 .split
  .rfl
  .split
   .rfl
   .exact l x xz
theorem LikeF.on(l:LikeF z π f g){x:Nat}(xz:x<z)(h:f x=u8 i):g (π x)=u8 (π i):=by rw[l x xz,h];rfl
theorem LikeF.back(l:LikeF z π f g){x k:Nat}(xz:x<z)(h:g (π x)=u8 k):∃i,f x=u8 i/\k=π i:=by
 rw[l x xz] at h;cases e:f x with
 | none=>rw[e] at h;cases h
 | some i=>rw[e] at h;exact⟨i,ξ,(AM h).symm⟩
theorem LikeF.stay(A:Anew z π)(rg:RngF z f)(sy:SymF f)(l:LikeF z π f g){x:Nat}(xz:x<z):stayG rd g (π x)↔stayG rd f x:=by
 unfold stayG;rw[l x xz];cases e:f x with
 | none=>simp
 | some y =>
  have yz:=rg _ _ (sy _ _ e);refine or_congr ⟨(by intro h;cases h),(by intro h;cases h)⟩ (and_congr_right λ_=>⟨λh=>?_,λh=>?_⟩)
  .rw[A.inj y x yz xz (AM h)]
  .rw[AM h];rfl
theorem ABr(sy:SymF f){a b:Nat}(ha:f a=u8 i)(hb:f b=u8 j)(ab:a≠b):tieF f b a j i=tieF f a b i j:=by
 have e1:=sy _ _ ha;have e2:=sy _ _ hb
 funext x
 unfold tieF
 grind (splits:=60)
theorem Jp(A:Anew z π):∀{E E':List (Nat×Nat)}{f g:Fs},SymF f->RngF z f->LikeF z π f g->(∀e∈E,e.1<z/\e.2<z/\e.1≠e.2)->PySem.Paired (LikeE π) E E'->(accR rd z g E'↔accR rd z f E)
 | [],_,f,g,_,_,_,_,.nil=>ZZ
 | e::E,e'::E',f,g,sy,rg,l,ok,.cons h t=>by
  obtain⟨az,bz,ab⟩:=ok e (AF ..);have ok2:∀x∈E,x.1<z/\x.2<z/\x.1≠x.2:=λx hx=>ok x (AJ _ hx);have nil:E'=[]↔E=[]:=by
   cases t with
   | nil=>exact⟨λ_=>rfl,λ_=>rfl⟩
   | cons _ _=>exact⟨(by intro h;cases h),(by intro h;cases h)⟩
  have stays:∀{a b:Nat},a<z->b<z->((∀p,p<z->p≠π a->p≠π b->stayG rd g p)↔∀p,p<z->p≠a->p≠b->stayG rd f p):=λ{a b} az bz=>by
   constructor
   .intro h p pz n1 n2
    exact(l.stay A rg sy pz).mp (h (π p) (A.lt p pz) (λc=>n1 (A.inj _ _ pz az c)) λc=>n2 (A.inj _ _ pz bz c))
   .intro h p pz n1 n2
    obtain⟨x,xz,rfl⟩:=A.all p pz;exact(l.stay A rg sy xz).mpr (h x xz (λc=>n1 (by rw[c])) λc=>n2 (by rw[c]))
  have one:∀{a b:Nat},a<z->b<z->a≠b->(accR rd z g ((π a,π b)::E')↔accR rd z f ((a,b)::E)):=λ{a b} az bz ab=>by
   constructor
   .rintro⟨i',j',h1,h2,h3⟩
    obtain⟨i,hi,rfl⟩:=l.back az h1;obtain⟨j,hj,rfl⟩:=l.back bz h2;have iz:=rg _ _ (sy _ _ hi);have jz:=rg _ _ (sy _ _ hj);refine⟨i,j,hi,hj,?_⟩;rcases h3 with⟨e1,e2,e3⟩| ⟨e1,e2⟩
    .exact .inl ⟨A.inj i b iz bz e1,nil.mp e2,(stays az bz).mp e3⟩
    .have ib:i≠b:=λc=>e1 (by rw[c])
     exact .inr ⟨ib,(Jp A (sy.tie hi hj ab ib) (rg.tie sy hi hj) (l.tie A az bz iz jz) ok2 t).mp e2⟩
   .rintro⟨i,j,hi,hj,h3⟩
    have iz:=rg _ _ (sy _ _ hi);have jz:=rg _ _ (sy _ _ hj);refine⟨π i,π j,l.on az hi,l.on bz hj,?_⟩;rcases h3 with⟨e1,e2,e3⟩| ⟨e1,e2⟩
    .exact .inl ⟨by rw[e1],nil.mpr e2,(stays az bz).mpr e3⟩
    .exact .inr ⟨λc=>e1 (A.inj i b iz bz c),(Jp A (sy.tie hi hj ab e1) (rg.tie sy hi hj) (l.tie A az bz iz jz) ok2 t).mpr e2⟩
  rcases h with rfl| rfl
  .exact one az bz ab
  .rw[one bz az (BU ab)]
   have fl:∀{a b:Nat},a≠b->accR rd z f ((a,b)::E)->accR rd z f ((b,a)::E):=λ{a b} ab=>by
    rintro⟨i,j,ha,hb,h⟩;refine⟨j,i,hb,ha,?_⟩;have ij:i=b->j=a:=λe=>by
     have:=sy _ _ ha;rw[e,hb] at this;exact AM this
    have ji:j=a->i=b:=λe=>by
     have:=sy _ _ hb;rw[e,ha] at this;exact AM this
    rcases h with⟨e1,e2,e3⟩| ⟨e1,e2⟩
    .exact .inl ⟨ij e1,e2,λp pz n1 n2=>e3 p pz n2 n1⟩
    .refine .inr ⟨λc=>e1 (ji c),?_⟩
     show accR rd z (tieF f b a j i) E;rw[ABr sy ha hb ab];exact e2
   exact⟨fl (BU ab),fl ab⟩
end
end G
namespace K34
open PySem L2 G
theorem YJ{F:α->β->Prop}{l:List α}{m:List β}(h:A9 F l m):∀b∈m,∃a∈l,F a b:=by
 induction h with
 | nil=>intro b hb;cases hb
 | cons e _ ih =>
  intro b hb;rcases AY.mp hb with rfl| hb
  .exact⟨_,AF ..,e⟩
  .obtain⟨a,ha,r⟩:=ih b hb
   exact⟨a,AJ _ ha,r⟩
theorem KJ{α β γ:Type}{F:β->γ->Prop}{f:α->β}{g:α->γ}:∀{l:List α},(∀x∈l,F (f x) (g x))->A9 F (l.map f) (l.map g)
 | [],_=>.nil
 | a::l,h=>.cons (h a (AF ..)) (KJ λx hx=>h x (AJ _ hx))
structure Both(z n:Nat)(π:Nat->Nat)(ns:vG)(bs dv:vH)(E E':List (Nat×Nat)):Prop where
 anew:Anew z π
 ord:Ord n ns
 like:∀x,x<n->LikeE π (ea bs x,eb bs x) (ea dv (ns.idxOf (x:Int)),eb dv (ns.idxOf (x:Int)))
 ends:A9 (LikeE π) E E'
 ok:∀x,x<n->ea bs x<z/\eb bs x<z/\ea bs x≠eb bs x
 okE:∀e∈E,e.1<z/\e.2<z/\e.1≠e.2
section
variable{bs dv:vH}{E:List (Nat×Nat)}
theorem Both.iff(B:Both z n π ns bs dv E E'){s:vI}(nd:s.Nodup)(lt:∀x∈s,x<n):accR rd z (idF z) (E'++edg dv (byN n ns s))↔accR rd z (idF z) (E++edg bs s):=by
 have p1:A9 (LikeE π) (E++edg bs s) (E'++s.map λ(x:Nat)=>(ea dv (ns.idxOf (x:Int)),eb dv (ns.idxOf (x:Int)))):=vg B.ends (KJ λx hx=>B.like x (lt x hx));have okA:∀e∈E++edg bs s,e.1<z/\e.2<z/\e.1≠e.2:=λe he=>by
  rcases Cf.mp he with h| h
  .exact B.okE e h
  .obtain⟨x,hx,rfl⟩:=A1.mp h
   exact B.ok x (lt x hx)
 have lf:LikeF z π (idF z) (idF z):=λx xz=>by rw[Ey xz,Ey (B.anew.lt x xz)];rfl
 have pm:(E'++s.map λ(x:Nat)=>(ea dv (ns.idxOf (x:Int)),eb dv (ns.idxOf (x:Int)))).Perm (E'++edg dv (byN n ns s)):=by
  have p:=(VP B.ord nd lt).map λj=>(ea dv j,eb dv j);rw[ED] at p;exact p.append_left E'
 have ne:∀e∈E'++s.map λ(x:Nat)=>(ea dv (ns.idxOf (x:Int)),eb dv (ns.idxOf (x:Int))),e.1≠e.2:=λe he=>by
  obtain⟨d,hd,r⟩:=YJ p1 e he;obtain⟨d1,d2,d3⟩:=okA d hd;rcases r with rfl| rfl
  .exact λc=>d3 (B.anew.inj _ _ d1 d2 c)
  .exact λc=>d3 (B.anew.inj _ _ d2 d1 c).symm
 rw[<- Jp B.anew (idF_sym z) (Kp z) lf okA p1];exact⟨QB pm.symm (idF_sym z) (Kp z) λe he=>ne e (pm.mem_iff.mpr he),QB pm (idF_sym z) (Kp z) ne⟩
theorem Kg(o:Ord n ns){s:vI}{x:Nat}(xn:x<n):ns.idxOf (x:Int)∈byN n ns s↔x∈s:=by
 obtain⟨h1,h2⟩:=Ew o xn;unfold byN;rw[BG,AU,decide_eq_true_iff,AD,h2];exact⟨λh=>h.2,λh=>⟨h1,h⟩⟩
theorem Both.sets(B:Both z n π ns bs dv E E'){uu:List vI}(h:Sol n (λs=>accR rd z (idF z) (E++edg bs s)) ss)(g:Sol n (λs=>accR rd z (idF z) (E'++edg dv s)) uu):(ss.map (byN n ns)).Perm uu:=by
 refine ZS ?_ g.nd λu=>?_
 .unfold J6
  rw[Cb];refine D8 (λ{a b} ha hb ne e=>ne ?_) h.nd;obtain⟨a1,a2,_⟩:=(h.mem a).mp ha;obtain⟨b1,b2,_⟩:=(h.mem b).mp hb;refine Uo a1 b1 λx=>⟨λhx=>?_,λhx=>?_⟩
  .exact(Kg B.ord (a2 x hx)).mp (e ▸ (Kg B.ord (a2 x hx)).mpr hx)
  .exact(Kg B.ord (b2 x hx)).mp (e ▸ (Kg B.ord (b2 x hx)).mpr hx)
 .rw[A1,g.mem]
  constructor
  .rintro⟨s,hs,rfl⟩
   obtain⟨a1,a2,a3⟩:=(h.mem s).mp hs;exact⟨Gj n ns s,ACt,(B.iff (Kq a1) a2).mpr a3⟩
  .rintro⟨u1,u2,u3⟩
   have sr:((AX n).filter λ(x:Nat)=>decide (ns.idxOf (x:Int)∈u)).Pairwise (· < ·):=Hn.filter _;have sl:∀x∈(AX n).filter λ(x:Nat)=>decide (ns.idxOf (x:Int)∈u),x<n:=λx hx=>AU.mp (BG.mp hx).1;have e:byN n ns ((AX n).filter λ(x:Nat)=>decide (ns.idxOf (x:Int)∈u))=u:=Uo (Gj ..) u1 λj=>by
    unfold byN;rw[BG,AU,decide_eq_true_iff];constructor
    .rintro⟨jn,hj⟩
     obtain⟨x,xn,h3,h4⟩:=Rq B.ord jn;rw[h4,B9] at hj;have:=vE (BG.mp hj).2
     rwa [Fd B.ord.nodup (Ew B.ord xn).2 h3] at this
    .intro hj
     have jn:=u2 j hj;obtain⟨x,xn,h3,h4⟩:=Rq B.ord jn;refine⟨jn,?_⟩;rw[h4,B9];refine BG.mpr ⟨AU.mpr xn,vC ?_⟩
     rwa [Fd B.ord.nodup (Ew B.ord xn).2 h3]
   refine⟨_,(h.mem _).mpr ⟨sr,sl,?_⟩,e⟩;rw[<- B.iff (Kq sr) sl,e];exact u3
end
theorem Tv{aE:List Row}(ok:Ok n aE){k:Nat}(kn:Knot aE k)(s:vI):K34s.meets aE k (up s)=led aE k s:=by
 unfold K34s.meets;rw[Go,Mi ok _ _ _ (ER _) kn];exact⟨by rintro⟨u,e,h⟩;exact Jo e ▸ h,λh=>⟨s,ξ,h⟩⟩
theorem ACf(ns:vG)(lo hi:Option Int):∃cs:vG,cutV (ns.map V.int) lo hi=cs.map V.int:=by
 unfold cutV;exact⟨(ns.drop (HT.sIx (ns.map V.int).length 0 lo)).take (HT.sIx (ns.map V.int).length (ns.map V.int).length hi-HT.sIx (ns.map V.int).length 0 lo),by rw[Sn,So]⟩
theorem int_at{cs:vG}(h:(cs.map V.int)[i]?=u8 v):∃c,cs[i]?=u8 c/\v=.int c:=by
 rw[AV] at h;cases e:cs[i]? with
 | none=>rw[e] at h;cases h
 | some c=>rw[e] at h;exact⟨c,ξ,(AM h).symm⟩
theorem AHx{a b:V}:atI [a,b] 0=u8 a:=rfl
theorem AIh{a b:V}:atI [a,b] 1=u8 b:=rfl
structure Pre(K:As)(C D D':Addr)(κ κ':Kr)(H:Hp)(W W' r r':Addr)(z:Nat)(π:Nat->Nat)(ns:vG)(bs dv:vH):Prop where
 w:WebAt K C H W z bs
 w':WebAt K C H W' z dv
 r:∃dr,H r=u8 (.ins D dr (flK κ.2))
 r':∃dr,H r'=u8 (.ins D' dr (flK κ'.2))
 he:heK K H κ.2
 he':heK K H κ'.2
 ok:okK z κ.2
 ok':okK z κ'.2
 rd:κ'.1=κ.1
 z1:1<=z
 z10:z<=10
 b12:bs.length<=12
 bb:dv.length=bs.length
 okb:OkB z bs
 okb':OkB z dv
 ap:Apart bs
 ap':Apart dv
 both:Both z bs.length π ns bs dv (edK κ.2) (edK κ'.2)
def Rj(κ κ':Kr)(K:As)(C D D':Addr):Sp:=λvs H Q _=>∃(W W' R r r' O a:Addr) (z:Nat) (π:Nat->Nat) (ns cs:vG) (bs dv:vH),vs=[.ref W,.ref W',.ref R,.ref O,.ref a]/\Pre K C D D' κ κ' H W W' r r' z π ns bs dv/\SqT K H R [.ref r,.ref r']/\H O=u8 (.lst (ns.map V.int))/\SqL K H a (cs.map V.int)/\∀H',Q (.bl true) H'
noncomputable abbrev alN:vQ:=["_law_web_here","_law_other","_law_rules","_law_order","_law_script","_law_one_sieve","_law_other_sieve","_law_told","_law_cell","_law_some"]
theorem Hg:FnScope alN ["_law_web_here","_law_other","_law_rules","_law_order","_law_script"] (Af Mt):=fscp ψ
theorem ADh{κ:Kr}{fH:Addr}{fdH:BA}(F:Fun K "_law_alike" "_law_alike" Mt f fd)(T:Txt K mg C)
  (GG:FnOk P w K mg base CX0 18 fG ng zl27 (JV κ K C D S)) (GG':FnOk P w K mg base CX0 18 fG ng zl27 (JV κ' K C D' S)) (bG:Binds K ng zl27 []) (kG:C8 K (.ref fG)=true) (mG:mg "grown" = u8 (.ref fG))
  (GM:Cal P w K mg base 16 fM tm "_law_is_made" zl30 (AEJ K S))
  (GB:Cal P w K mg base 1 fB oP "_law_by_names" zl19 (AGa K))
  (GE:Cal P w K mg base 2 fE fdE "sets_of" ["sieve"] (K34s.YB K S))
  (GH:Cal P w K mg base 2 fH fdH "has_set" zl31 (K34s.AGP K S)) :
  FnOk P w K mg base CX0 19 f fd zl33 (Rj κ κ' K C D D'):=by
 refine F.ok Hg (λbt A outer s H vs Q E hr h=>?_);obtain⟨W,W',R,r,r',O,a,z,π,ns,cs,bs,dv,rfl,B,hR,eO,ha,q⟩:=h;have bo:Room 1 _:=hr.mono ζ;have eK:Room 2 _:=hr.mono ζ;have uo:Room 16 _:=hr.mono ζ;have hu:_+3<Cs:=CK hr;refine⟨_,Ad (Ao (i:=5) Hg.nd (HY GG hr rfl mG kG bG .nil pass0 (Aa (pv 0) (Aa (Ax Bc (pv 2) Ae) Ac))))
  (Ad (Ao (i:=6) Hg.nd (HY GG' hr rfl mG kG bG .nil pass0 (Aa (pv 1) (Aa (Ax Bc (pv 2) Ae) Ac))))
  (Ad (Bl (vW (Hl (Qn (Hw (Ay GM uo rfl (Aa (pv 5) (Aa (Az Av rfl T.len CC (Aa (pv 3) Ac)) Ac))))) (Fv (Qn (Hw (Ay GM uo rfl (Aa (pv 6) (Aa (Az Av rfl T.len CC (Aa (pv 3) Ac)) Ac)))))))) (Ah (Ar KH)) BJ)
  (Ad (Ao (i:=7) Hg.nd (Az (JH hu) rfl T.sorted Fh (Aa (Bu (Af Mt) ["_law_some"] ["_law_order"] [3] rfl rfl ψ ⟨⟨ξ,ψ⟩,trivial⟩ (CT (Ay GE eK rfl (Aa (pv 5) Ac)))
    (λ_ _ _=>BL (i:=0)) (λ_ _ _=>Cv)
    (λ_ _ _=>Ay GB bo rfl (Aa (pv 0) (Aa (pv 1) Ac)))) Ac)))
  (Ad (Bl (Aq (Wx (Fw Cy) (CK hr)) (pv 7) (Az (JH hu) rfl T.sorted Fh (Aa (Ay GE eK rfl (Aa (pv 6) Ac)) Ac)) rfl) (Ah (Ar KH)) BJ)
  (Ad (Dj DJ rfl (CT (Vc AEr (pv 4) (Qv Ae) (Qv Ae))) (Bg (i:=8) Hg.nd)
   (Ad (Ao (i:=9) Hg.nd (BP Bp rfl T.tuple DE (Aa (Bu (Af Mt) ["_law_k"] ["_law_cell"] [8] rfl rfl ψ ⟨⟨ξ,ψ⟩,trivial⟩ (DK rfl T.range (Aa (Az Av rfl T.len CC (Aa (pv 3) Ac)) Ac))
    (λ_ _ _=>BL (i:=0))
    (λ_ _ _=>Cm (Aq EY (Aw AHh (Aw AHj (pv 1) (pv 0)) Ae) Ae))
    (λ_ _ _=>pv 0)) Ac)))
   (Ah (Bl (Aq AGW (Ay GH eK rfl (Aa (pv 5) (Aa (pv 9) Ac))) (Ay GH eK rfl (Aa (pv 6) (Aa (Ay GB bo rfl (Aa (pv 9) (Aa (pv 3) Ac))) Ac)))) (Ah (Ar KH)) BJ))))
  (Ah (Ar KH))))))),?_⟩
 obtain⟨dr,fe⟩:=B.r;obtain⟨dr',uz⟩:=B.r';have b12:=B.b12;have bb:=B.bb;have hO:=B.both.ord;have lO:=hO.length;refine⟨_,ξ,_,ξ,R,_,_,_,ξ,ξ,hR,AHx,W,r,dr,z,bs,ξ,B.w,fe,B.he,B.ok,B.z1,B.z10,b12,B.okb,B.ap,λp1 n1 qB H1 s1 me ot uB l1=>?_⟩;refine⟨_,ξ,_,ξ,R,_,_,_,ξ,ξ,s1.ts.seq hR,AIh,W',r',dr',z,dv,ξ,B.w'.same s1,s1 _ _ uz,Ji s1.ts B.he',B.ok',B.z1,B.z10,wt bb b12,B.okb',B.ap',λp2 n2 dL H2 s2 e9 nz rP l2=>?_⟩;rw[bb] at e9 nz rP;rw[B.rd] at rP;have me:=me.same s2;have eO2:H2 O=u8 (.lst (ns.map V.int)):=s2 _ _ (s1 _ _ eO);have ha2:=(s1.trans s2).seq ha;have lm:(((ns.map V.int).length:Nat):Int)=(bs.length:Int):=by rw[AB,lO]
 refine⟨_,ξ,_,ξ,O,_,ξ,.inl (vd eO2),?_⟩;rw[lm];refine⟨p1,_,qB,n1,ξ,me,ot,b12,l1,λH3 s3=>⟨true,ξ,iteF ?_⟩⟩;have eO3:=s3 _ _ eO2;refine⟨_,ξ,_,ξ,O,_,ξ,.inl (vd eO3),?_⟩;rw[lm];refine⟨p2,_,dL,n2,ξ,e9.same s3,nz,b12,l2,λH4 s4=>⟨true,ξ,iteF ?_⟩⟩;have pT:=s3.trans s4;have me:=me.same pT;have e9:=e9.same pT;have mw:=pT _ _ eO2;have ha4:=pT.seq ha2;clear fe uz s1 s2 s3 s4 pT ha2 eO2 eO3 ha eO hR;have so1:=ACv ot uB;have so2:=ACv nz rP;refine⟨_,ξ,p1,_,qB,n1,ξ,me,ot.least.ok,ot.knot,b12,l1,λL ys H5 s5 nL eL py=>?_⟩;have ly:=AT py;have len1:=so1.len b12;refine⟨L,ξ,⟨_,vd eL⟩,λZ hZ=>?_⟩;have eO5:=s5 _ _ mw;refine Bw (K:=K) (a:=L) (xs:=ys) (λj τ H6=>∃(o:Option V) (zs:List V),τ=[o,u8 (.ref O)]/\Same H5 H6/\H6 Z=u8 (.lst zs)/\A9 (rPair K H6) (((setsOf n1 qB).take j).map λs=>up (byN bs.length ns s)) zs) ⟨u9,[],ξ,vk hZ _,Ab,.nil⟩ (by rintro j τ H6 _ ⟨_,_,_,s6,_⟩;exact s6.seq (vd eL)) ?_ ?_
 .rintro j y τ H6 hy ⟨o,zs,rfl,s6,eZ,pz⟩
  obtain⟨u,fi,t,rfl,ht⟩:=Paired.get py hy;have jl:=(AG.mp fi).1;obtain⟨w1,w2,_⟩:=(so1.mem u).mp (By fi);have lz:=AT pz;rw[AB,BV] at lz;refine yesN ⟨_,ξ,_,ξ,t,O,bs.length,ns,u,ξ,?_,s6 _ _ eO5,hO,b12,w1,w2,λt' H7 s7 kC=>?_⟩
  .rw[<- Vz]
   exact ve (s6 _ _ ht)
  have eZ7:=s7 _ _ eZ;refine⟨zs,eZ7,K34s.Gu δ,_,_,ξ,(s6.trans s7).put hZ _,Ab,?_⟩
  .have ts:=vi (o:=.lst (zs++[.ref t'])) eZ7
   rw[DA,fi,BI];exact vg (Nb (s7.ts.trans ts) pz) (vh (AIH (ts.seq kC)))
 rintro τ H6 ⟨o,zs,rfl,s6,eZ,pz⟩;rw[<- ly,CD] at pz;have eup:(setsOf n1 qB).map (λs=>up (byN bs.length ns s))=((setsOf n1 qB).map (byN bs.length ns)).map up:=by rw[ED];rfl
 rw[eup] at pz;have pm:=B.both.sets so1 so2;have lP:(((setsOf n1 qB).map (byN bs.length ns)).map up).Nodup:=AGS (pm.nodup_iff.mpr so2.nd);refine⟨Z,zs,_,ξ,vd eZ,pz,by rw[AB,AB];exact ar507 len1,lP,λl7 z7 m7 nl7 pm7 so7 uE=>?_⟩;have s7:=vk nl7 (.lst z7);have e7:(upd H6 l7 (.lst z7)) l7=u8 (.lst z7):=Ab;have uE:=Nb s7.ts uE;generalize upd H6 l7 (.lst z7)=H7 at s7 e7 uE ⊢;have mm:=s5.trans (s6.trans s7);have e9:=e9.same mm;refine⟨_,ξ,_,ξ,p2,_,dL,n2,ξ,e9,nz.least.ok,nz.knot,b12,l2,λL8 ys8 H8 s8 nL8 eL8 py8=>?_⟩;refine⟨L8,ys8,_,ξ,vd eL8,ADz py8,by rw[AB];have:=so2.len b12;exact ar507 this,AGS so2.nd,λl9 z9 m9 nl9 pm9 so9 pz9=>?_⟩;have s9:=vk nl9 (.lst z9);have em:m7=m9:=AHc so7 so9 (pm7.trans ((pm.map up).trans pm9.symm));subst em;have m4:=s8.trans s9;refine⟨m7,m7,⟨l7,z7,ξ,vd (m4 _ _ e7),Nb m4.ts uE⟩,⟨l9,z9,ξ,vd Ab,Nb s9.ts pz9⟩,_,ξ,iteNP rfl ?_⟩;have sA:=mm.trans m4;have me:=me.same sA;have e9:=e9.same m4;have tu:=sA _ _ mw;have haA:=sA.seq ha4;generalize upd H8 l9 (.lst z9)=H9 at me e9 tu haA ⊢;clear mw eO5 ha4 s5 s6 s7 s8 s9 mm m4 sA uE pz9 eL eL8 py py8 e7;refine⟨_,ξ,_,ξ,_,ξ,a,_,ξ,haA,λSl sT=>?_⟩;obtain⟨ds,ec⟩:=ACf cs (u8 4) (u8 63);rw[ec];have sS:=vk sT (.lst (ds.map V.int));have eS:(upd H9 Sl (.lst (ds.map V.int))) Sl=u8 (.lst (ds.map V.int)):=Ab;generalize upd H9 Sl (.lst (ds.map V.int))=HS at sS eS ⊢;refine⟨Sl,ξ,⟨_,vd eS⟩,?_⟩;refine Ej (K:=K) (a:=Sl) (xs:=ds.map V.int) (λi σ HA=>∃(o7 o8 o9:Option V),σ=[u8 (.ref W),u8 (.ref W'),u8 (.ref R),u8 (.ref O),u8 (.ref a),u8 (.ref p1),u8 (.ref p2),o7,o8,o9]/\Same HS HA) ⟨_,u9,u9,ξ,vf _⟩ (by rintro i σ HA _ ⟨_,_,_,_,e⟩;exact vd (e _ _ eS)) ?_ ?_
 .rintro i v σ HA hv ⟨o7,o8,o9,rfl,sA⟩
  obtain⟨c,hc,rfl⟩:=int_at hv;have sA0:=sA;have sA:=sS.trans sA;have eO1:=sA _ _ tu;refine⟨_,ξ,O,_,ξ,.inl (vd eO1),_,ξ,δ,by rw[lm];lia,λY hY=>?_⟩;rw[AB,lO];refine Cj (lo:=0) (n:=((bs.length:Nat):Int).toNat) (λj τ H2=>∃(o:Option V) (su:vI),τ=[o,u8 (.int c)]/\Same HA H2/\H2 Y=u8 (.lst (nI su))/\su.Pairwise (· < ·)/\(∀x∈su,x<j)) ⟨u9,[],ξ,vk hY _,Ab,.nil,λx hx=>by cases hx⟩ ?_ ?_
  .rintro j τ H2 hj ⟨o,su,rfl,s2,eZ,pw,lt⟩
   have ej:(0:Int)+j=(j:Int):=wq;rw[ej];rw[B9] at hj;have sl:=LC pw lt;refine⟨_,ξ,_,ξ,_,_,ξ,ξ,(by show(0:Int)<=(j:Int);exact vt),_,_,ξ,ξ,ξ,_,ξ,ite2 (λ_=>?_) (λ_=>?_)⟩
   .refine⟨_,ξ,_,eZ,BK (by rw[Jr];lia),_,su++[j],ξ,λb o e=>?_,?_,?_,λx hx=>?_⟩
    .rw[Ag (Ai e hY)]
     exact s2 b o e
    .rw[Ab,AEk]
    .exact C4.mpr ⟨pw,JU ..,λx hx y hy=>by rw[B8.mp hy];exact lt x hx⟩
    .rcases Cf.mp hx with h| h
     .have:=lt x h;exact wb this
     .rw[B8.mp h];exact ER _
   .exact⟨_,su,ξ,s2,eZ,pw,λx hx=>FH (lt x hx)⟩
  .rintro τ H2 ⟨o,su,rfl,s2,eZ,pw,lt⟩
   rw[B9] at lt;refine⟨Y,_,ξ,.inl ⟨vd eZ,λt ht=>?_⟩⟩;have s3:=s2.trans (vk ht (.tup (nI su)));have et:(upd H2 t (.tup (nI su))) t=u8 (.tup (nI su)):=Ab;generalize upd H2 t (.tup (nI su))=H3 at s3 et ⊢;have sB:=sA.trans s3;refine⟨_,ξ,_,ξ,p1,t,bs.length,qB,n1,up su,ξ,me.same sB,ot.least.ok,ot.knot,.inr (by rw[Vz];exact ve et),λH4 s4=>?_⟩;have et4:=s4 _ _ et;refine⟨_,ξ,_,ξ,_,ξ,t,O,bs.length,ns,su,ξ,ve et4,s4 _ _ (sB _ _ tu),hO,b12,pw,lt,λt' H5 s5 kC=>?_⟩;have sC:=sB.trans (s4.trans s5);refine⟨p2,t',bs.length,dL,n2,up (byN bs.length ns su),ξ,e9.same sC,nz.least.ok,nz.knot,.inr (by rw[Vz];exact kC),λH6 s6=>?_⟩;have eq:K34s.meets n1 qB (up su)=K34s.meets n2 dL (up (byN bs.length ns su)):=by
    rw[Tv ot.least.ok ot.knot,Tv nz.least.ok nz.knot,Go,uB su pw lt,rP _ (Gj ..) ACt];exact(B.both.iff (Kq pw) lt).symm
   rw[eq];refine⟨ξ,_,ξ,iteNP rfl ⟨_,_,_,ξ,sA0.trans (s3.trans (s4.trans (s5.trans s6)))⟩⟩
 .rintro σ HA ⟨o7,o8,o9,rfl,sA⟩
  exact q _
end K34
namespace K34
open PySem L2
def YX(K:As)(C:Addr):Sp:=λvs H Q E=>∃(p o:Addr) (m:Int) (as:vH) (ns:vG),vs=[.ref p,.ref o]/\WebAt K C H p m as/\GoodT m as/\SqL K H o (ns.map V.int)/\Ord as.length ns /\
 ∀(p2:Addr) (H':Hp),Same H H'->WebAt K C H' p2 m (pickO as ns)->Q (.ref p2) H'
theorem Yz:FnScope ["web","order","ties"] zl32 (Af RM):=fscp ψ
theorem ACw(F:Fun K "reordered" "reordered" RM f fd)(T:Txt K mg C)
  (GS:FnOk P w K mg base CX0 1 fS e8 zl0 (Jb K C)) (bS:Binds K e8 zl0 []) (mS:Meth K C "size" fS)
  (GT:FnOk P w K mg base CX0 1 fT df zl0 (RW K C)) (bT:Binds K df zl0 []) (mT:Meth K C "ties" fT)
  (M:Mk K C fI) (GI:FnOk P w K mg base CX0 3 fI k8 zl7 (JW K C)) (bI:Binds K k8 zl7 []) :
  FnOk P w K mg base CX0 5 f fd zl32 (YX K C):=by
 refine F.ok Yz (λbt A outer s H vs Q E hr h=>?_);obtain⟨p,o,m,as,ns,rfl,hW,g,hS,cO,q⟩:=h;have l12:ns.length=as.length:=cO.length;have bo:Room 1 _:=hr.mono ζ;have om:Room 4 _:=hr.mono ζ;refine⟨_,Ad (Ao (i:=2) Yz.nd (BZ (pv 0) T.cl mT GT bo bT .nil pass0))
  (Ad (Bl (Aq (Wx Cy (CK hr)) (Az GZ rfl T.sorted Fh (Aa (pv 1) Ac)) (BP (Hu rfl) rfl T.list EF (Aa (BP Ep rfl T.range J1 (Aa (Az Av rfl T.len CC (Aa (pv 2) Ac)) Ac)) Ac)) rfl)
   Br BJ)
  (Ah (Ar (Et M GI om rfl T.mgC bI .nil pass0 (Aa (BZ (pv 0) T.cl mS GS bo bS .nil pass0) (Aa
   (Bu (Af RM) ["number"] ["ties"] [2] rfl rfl ψ ⟨⟨ξ,ψ⟩,trivial⟩ (CT (pv 1))
    (λ_ _ _=>BL (i:=0)) (λ_ _ _=>Cv)
    (λ_ _ _=>Ax (Lg (K:=K) rfl) (pv 1) (pv 0) (λ_ _=>rfl))) Ac)))))),?_⟩
 obtain⟨dx,jj,hp,_⟩:=id hW;refine⟨_,ξ,p,dx,_,ξ,hp,ξ,p,m,as,ξ,hW,λl H1 s1 _ r1=>?_⟩;obtain⟨l',xs,el,hl,px⟩:=id r1;cases el;have lx:as.length=xs.length:=AT px;have fc:=g.len;refine⟨_,ξ,o,ns,ξ,.inl (s1.seq hS),by have:=g.len;lia,λls ms hls pms sms=>?_⟩;have s2:=vk hls (.lst (ms.map V.int));refine⟨_,ξ,l,xs,ξ,.inl (s2.seq hl),_,ξ,λr fe=>?_⟩;have s3:=vk fe (.rng 0 ((xs.length:Nat):Int));refine⟨r,_,ξ,Ab,vt,δ,λlb hlb=>?_⟩;have s4:=vk hlb (.lst ((below (((xs.length:Nat):Int)).toNat).map V.int));rw[B9];rw[B9] at s4;have sA:=s2.trans (s3.trans s4);refine⟨ms,below xs.length,⟨ls,_,ξ,vd ((s3.trans s4) _ _ Ab),paired_ints _⟩,⟨lb,_,ξ,vd Ab,paired_ints _⟩,_,ξ,?_⟩
 .refine iteNP ?_ ?_
  .rw[<- lx];exact(Wt pms sms).mpr cO
  have hW5:=hW.same (s1.trans sA);obtain⟨dx5,j5,hp5,_⟩:=id hW5;refine⟨_,ξ,p,dx5,_,ξ,hp5,ξ,p,m,as,ξ,hW5,?_⟩;have hl5:=sA.seq hl;have sJ:=vj (λa b=>Ak Am _ _ a b sA.ts) px;have hS5:SqL K _ o _:=(s1.trans sA).seq hS;refine⟨_,ξ,o,ξ,⟨_,hS5⟩,λD hD=>?_⟩;refine Bw (K:=K) (a:=o) (xs:=ns.map V.int) (λi τ H6=>∃(n:Option V) (ys:List V),τ=[n,u8 (.ref l)]/\Same (upd (upd (upd H1 ls (.lst (ms.map V.int))) r (.rng 0 ((xs.length:Nat):Int))) lb (.lst ((below xs.length).map V.int))) H6/\H6 D=u8 (.lst ys)/\A9 (rPair K H6) (pickO as (ns.take i)) ys) ⟨u9,[],ξ,vk hD _,Ab,.nil⟩ (by rintro i τ H6 _ ⟨_,_,_,z,_⟩;exact z.seq hS5) ?_ ?_
  .rintro i y τ H10 hy ⟨n,ys,rfl,uk,e10,p10⟩
   rw[AV] at hy;obtain⟨k,hk,rfl⟩:∃k:Int,ns[i]?=u8 k/\y=.int k:=by
    cases hk:ns[i]? with
    | none=>rw[hk] at hy;cases hy
    | some k=>rw[hk] at hy;exact⟨k,ξ,(AM hy).symm⟩
   obtain⟨k0,k1⟩:=cO.mem.mp (By hk);have ek:k=((k.toNat:Nat):Int):=yg k0;have hkx:k.toNat<xs.length:=by lia
   obtain⟨tie,ht,rt⟩:=Paired.get sJ (AK hkx);have at_:atI xs k=u8 xs[k.toNat]:=by
    have:=Bv (AK hkx);rw[<- ek] at this;exact this
   have ly:ys.length<=13:=by rw[<- AT p10,JT,BV];lia
   refine yesN ?_;refine⟨_,ξ,_,ξ,l,_,_,_,ξ,ξ,uk.seq hl5,at_,ys,e10,BK δ,_,_,ξ,uk.put hD _,Ab,?_⟩
   .have et:ns.take (i+1)=ns.take i++[k]:=by rw[DA,hk];rfl
    have ep:pickO as (ns.take (i+1))=pickO as (ns.take i)++[tie]:=by
     unfold pickO;rw[et,BI];show _++[as.getD k.toNat []]=_;rw[AD,ht];rfl
    rw[ep];have ts:=vi (o:=.lst (ys++[xs[k.toNat]])) e10;exact vg (vj (λa b=>Ak Am _ _ a b ts) p10) (vh (Ak Am _ _ _ _ (uk.ts.trans ts) rt))
  .rintro τ H6 ⟨n,ys,rfl,s6,e6,p6⟩
   rw[AB,CD] at p6;intro p2 uA np ndx npd;have g2:=g.perm (Nr cO);have s7:Same H6 (upd (upd H6 uA (.own p2)) p2 (.ins C uA [])):=vn np ndx _ _;have pL:A9 (rSeq K (upd (upd H6 uA (.own p2)) p2 (.ins C uA []))) (pickO as ns) ys:=vj (λt x h=>.inr (Ak Am _ _ _ _ s7.ts h)) p6;refine⟨p2,uA,D,m,ys,pickO as ns,ξ,Ab,vd (s7 _ _ e6),pL,g2.ok,g2.len,g2.m1,g2.m10,λH8 s8 hW8=>⟨ξ,?_⟩⟩;rw[Ri g2.so] at hW8;exact q p2 H8 (s1.trans (sA.trans (s6.trans λb o e=>s8 b o (s7 b o e) (Ai e np)))) hW8
def ADT:Sp:=λvs H Q _=>∃(n:Nat) (c:Int),vs=[.int (n:Int),.int c]/\n<=12 /\
 ∀(l:Addr) (ns:vG) (H':Hp),Same H H'->H l=none->H' l=u8 (.lst (ns.map V.int))->Ord n ns->Q (.ref l) H'
theorem Oo:∀(ns:vG) (k:Nat),(ns.map V.int).eraseIdx k=(ns.eraseIdx k).map V.int
 | [],_=>rfl
 | _::_,0=>rfl
 | a::t,k+1=>by
  show V.int a::(t.map V.int).eraseIdx k=V.int a::(t.eraseIdx k).map V.int;rw[Oo t k]
theorem Jk:FnScope ["_law_many","_law_number","_law_left","_law_found","_law_k"] zl29 (Af ABf):=fscp ψ
theorem AGI(F:Fun K "_law_turn" "_law_turn" ABf f fd)(T:Txt K mg C)(GM:Cal P w K mg base 1 fM tm "_law_mixed" zl28 TV) :
  FnOk P w K mg base CX0 2 f fd zl29 ADT:=by
 refine F.ok Jk (λbt A outer s H vs Q E hr h=>?_);obtain⟨n,c,rfl,fF,q⟩:=h;have bo:Room 1 _:=hr.mono ζ;refine⟨_,Ad (Ao (i:=2) Jk.nd (BP (Hu rfl) rfl T.list EF (Aa (BP Ep rfl T.range J1 (Aa (pv 0) Ac)) Ac)))
  (Ad (Ao (i:=3) Jk.nd (DG Ac))
  (Ad (Dj DJ rfl (DK rfl T.range (Aa (pv 0) Ac)) (Bg (i:=4) Jk.nd)
   (Kz (Bl (Aq EY (pv 1) Ae)
     (Ah (Ao (i:=1) Jk.nd (Ay GM bo rfl (Aa (Aw CQ (pv 0) (pv 4)) Ac)))) BJ)
   (Ad (Ce (Ho DF Fk Fm DY (pv 3) (Aa
    (Ho DF PySem.F.slot_list_pop PySem.F.type_list_pop ABq (pv 2) (Aa (Aw Cq (pv 1) (Az Av rfl T.len CC (Aa (pv 2) Ac))) Ac)) Ac)))
   (Ah (Ao (i:=1) Jk.nd (Aw Eb (pv 1) (Aw CQ (Az Av rfl T.len CC (Aa (pv 2) Ac)) Ae)))))))
  (Ah (Ar (pv 3))))),?_⟩
 refine⟨_,ξ,n,ξ,λr fe=>?_⟩;refine⟨r,n,ξ,Ab,vt,δ,λL hL=>?_⟩;rw[B9];have s1:=(vk fe (.rng 0 (n:Int))).trans (vk hL (.lst ((below n).map V.int)));have nL:H L=u9:=by
  cases e:H L with
  | none=>rfl
  | some o=>rw[Same.new fe (.rng 0 (n:Int)) _ _ e] at hL;cases hL
 refine⟨Bz _,λD hD=>?_⟩;have s2:=vk hD (.lst []);have nD:H D=u9:=by
  cases e:H D with
  | none=>rfl
  | some o=>rw[s1 _ _ e] at hD;cases hD
 have oj:L≠D:=λe=>by
  rw[<- e,Ab] at hD;cases hD
 refine⟨_,ξ,n,ξ,δ,δ,?_⟩;rw[B9];refine QK (lo:=0) (n:=n) (λi σ H2=>∃(ls fs:vG) (bg:Int) (kv:Option V),σ=[u8 (.int (n:Int)),u8 (.int bg),u8 (.ref L),u8 (.ref D),kv]/\Same H H2/\H2 L=u8 (.lst (ls.map V.int))/\H2 D=u8 (.lst (fs.map V.int))/\fs.length=i/\(fs++ls).Perm (below n))
  ⟨below n,[],_,u9,ξ,s1.trans s2,s2 _ _ Ab,Ab,ξ,IS _⟩ ?_ ?_
 .rintro i σ H2 hi ⟨ls,fs,bg,kv,rfl,sm,eL,eD,hn,hp⟩
  have ll:fs.length+ls.length=n:=by
   have:=hp.length_eq;rw[A2,Fg] at this;exact this
  have lpos:0<ls.length:=by lia
  refine⟨λσ' H'=>H'=H2/\∃v:Int,σ'=[u8 (.int (n:Int)),u8 (.int v),u8 (.ref L),u8 (.ref D),u8 (.int (0+i))],?_,?_⟩
  .refine⟨_,ξ,ξ,_,ξ,?_⟩
   refine ite2 (λ_=>?_) (λ_=>?_)
   .exact⟨_,ξ,_,ξ,_,_,ξ,ξ,_,ξ,λr=>⟨ξ,r,ξ⟩⟩
   .exact⟨ξ,_,ξ⟩
  rintro σ' H' ⟨rfl,v,rfl⟩;have lm:((ls.map V.int).length:Int)=ls.length:=by rw[AB]
  refine⟨_,ξ,.inl ⟨ξ,_,vd eD⟩,_,ξ,.inl ⟨ξ,_,vd eL⟩,_,ξ,_,ξ,L,_,ξ,.inl (vd eL),_,_,ξ,ξ,(by rw[lm];exact ar564 ll hn hi),?_⟩;rw[lm];have m0:0<=v%(ls.length:Int):=D6 _ δ;have m1:v%(ls.length:Int)<ls.length:=Da _ (ar564 ll hn hi);obtain⟨j,ej⟩:∃j:Nat,v%(ls.length:Int)=j:=⟨(v%(ls.length:Int)).toNat,yg m0⟩;rw[ej] at m0 m1;show(λ(z:Int)=>AFP _ H' λxs H2=>rPopAt (V.ref L) (.int z::xs) H2 _) (v%(ls.length:Int));rw[ej];have hj:j<ls.length:=wS m1;have gj:ls[j]?=u8 ls[j]:=AK hj;have ix:=Rf (n:=ls.length) (i:=(j:Int)) (j:=j) (by unfold ixN;rw[vB vt,vB m1];simp);refine⟨L,_,_,j,.int ls[j],ξ,ξ,eL,δ,δ,by rw[AB];exact ix.1,by rw[AV,gj];rfl,?_⟩;rw[Oo];refine⟨D,fs.map V.int,_,ξ,ξ,by rw[Ag oj.symm];exact eD,by rw[AB];exact BK δ,?_⟩;have eL2:(upd (upd H' L (.lst ((ls.eraseIdx j).map V.int))) D (.lst (fs.map V.int++[V.int ls[j]]))) L=u8 (.lst ((ls.eraseIdx j).map V.int)):=by rw[Ag oj,Ab]
  refine⟨_,ξ,_,ξ,L,_,ξ,.inl (vd eL2),_,_,ξ,ξ,_,_,ξ,ξ,⟨δ,by rw[AB,K5];split<;>lia⟩,?_⟩;refine⟨ls.eraseIdx j,fs++[ls[j]],_,_,ξ,λb o e=>?_,eL2,?_,by simp;exact hn,ACy hp gj⟩
  .rw[Ag (Ai e nD),Ag (Ai e nL)]
   exact sm b o e
  .rw[Ab,BI]
   rfl
 .rintro σ H2 ⟨ls,fs,bg,kv,rfl,sm,eL,eD,hn,hp⟩
  have l0:ls=[]:=by
   have:=hp.length_eq;rw[A2,Fg,hn] at this;exact CU.mp δ
  rw[l0,B5] at hp;exact⟨_,ξ,q D fs H2 sm nD eD hp⟩
end K34
namespace K34
open PySem L2 G
theorem AFj(z:Nat):Anew z id:=⟨λ_ h=>h,λ_ _ _ _ h=>h,λy h=>⟨y,h,ξ⟩⟩
noncomputable def pN(ps:vG)(x:Nat):Nat:=(ps.getD x 0).toNat
theorem MP{ps:vG}(o:Ord z ps){x:Nat}(h:x<z):pN ps x<z/\ps[x]?=u8 ((pN ps x:Nat):Int):=by
 obtain⟨y,yz,h1,h2⟩:=Rq o h;unfold pN;rw[h2];exact⟨yz,h1⟩
theorem AFe{ps:vG}(o:Ord z ps):Anew z (pN ps):=by
 refine⟨λx h=>(MP o h).1,λx y hx hy e=>?_,λy h=>?_⟩
 .have h1:=(MP o hx).2
  have h2:=(MP o hy).2;rw[e] at h1;exact Fd o.nodup h1 h2
 .obtain⟨h1,h2⟩:=Ew o h
  refine⟨_,h1,?_⟩;unfold pN;rw[AD,h2];rfl
def Anews(π:Nat->Nat)(as dk:vH):Prop:=dk.length=as.length/\∀(x a b:Nat),as[x]?=u8 [(a:Int),(b:Int)]->dk[x]?=u8 [(π a:Int),(π b:Int)]
theorem Anews.ok(A:Anew z π)(ok:OkTies (z:Int) as)(R:Anews π as dk):OkTies (z:Int) dk:=by
 have at_:∀{x:Nat},x<dk.length->∃a b:Nat,as[x]?=u8 [(a:Int),(b:Int)]/\dk[x]?=u8 [(π a:Int),(π b:Int)]/\a<z/\b<z/\a≠b:=λ{x} h=>by
  obtain⟨a,b,e,az,bz,ab⟩:=Iu ok (R.1 ▸ h);exact⟨a,b,e,R.2 x a b e,az,bz,ab⟩
 refine⟨λt ht=>?_,B7.mpr λi j hi hj ij e=>?_⟩
 .obtain⟨x,hx⟩:=List.getElem?_of_mem ht
  obtain⟨a,b,_,e,az,bz,ab⟩:=at_ (AG.mp hx).1;rw[hx] at e;have h1:=A.lt a az;have h2:=A.lt b bz;have h3:π a≠π b:=λc=>ab (A.inj a b az bz c);exact⟨_,_,AM e,vt,v7 h1,vt,v7 h2,δ⟩
 .rw[AB] at hi hj
  rw[FX,FX] at e;obtain⟨a,b,e1,e2,az,bz,ab⟩:=at_ hi;obtain⟨c,d,e3,e4,cz,dz,cd⟩:=at_ hj;rw[AK hi] at e2;rw[AK hj] at e4;rw[AM e2,AM e4,Bx,Bx] at e;have key:(a=c/\b=d)\/(a=d/\b=c):=by
   have q:=λx y xz yz=>A.inj x y xz yz;split at e<;>split at e<;>simp only[List.cons.injEq,and_true] at e<;>obtain⟨u,v⟩:=e<;>have u:=Mo u<;>have v:=Mo v
   .exact .inl ⟨q _ _ az cz v,q _ _ bz dz u⟩
   .exact .inr ⟨q _ _ az dz v,q _ _ bz cz u⟩
   .exact .inr ⟨q _ _ az dz u,q _ _ bz cz v⟩
   .exact .inl ⟨q _ _ az cz u,q _ _ bz dz v⟩
  have b7:i<as.length:=R.1 ▸ hi;have b6:j<as.length:=R.1 ▸ hj;rw[AK b7] at e1;rw[AK b6] at e3;have nd:=B7.mp ok.nd i j (by rw[AB];exact b7) (by rw[AB];exact b6) ij;rw[FX,FX,AM e1,AM e3] at nd;rcases key with⟨rfl,rfl⟩| ⟨rfl,rfl⟩
  .exact nd rfl
  .refine nd ?_
   rw[Bx,Bx];split<;>split<;>first| rfl| lia
theorem AEa(A:Anew z π)(ok:OkTies (z:Int) as)(R:Anews π as dk)(o:Ord as.length ns){E:List (Nat×Nat)}(ends:A9 (LikeE π) E E')(okE:∀e∈E,e.1<z/\e.2<z/\e.1≠e.2):Both z as.length π ns (as.map srt) (pickO (dk.map srt) ns) E E':=by
 refine⟨A,o,λx xn=>?_,ends,λx xn=>?_,okE⟩
 .obtain⟨a,b,e,az,bz,ab⟩:=Iu ok xn
  have e':=R.2 x a b e;have gx:(pickO (dk.map srt) ns).getD (ns.idxOf (x:Int)) []=(dk.map srt).getD x []:=by
   rw[AD,Zt (Ew o xn).2];rfl
  have ga:ea (pickO (dk.map srt) ns) (ns.idxOf (x:Int))=ea (dk.map srt) x:=by unfold ea;rw[gx]
  have gb:eb (pickO (dk.map srt) ns) (ns.idxOf (x:Int))=eb (dk.map srt) x:=by unfold eb;rw[gx]
  rw[ga,gb];rcases Iz e with⟨h1,h2⟩| ⟨h1,h2⟩<;>rcases Iz e' with⟨h3,h4⟩| ⟨h3,h4⟩<;>rw[h1,h2,h3,h4]
  .exact .inl rfl
  .exact .inr rfl
  .exact .inr rfl
  .exact .inl rfl
 .obtain⟨a,b,e,az,bz,ab⟩:=Iu ok xn
  rcases Iz e with⟨h1,h2⟩| ⟨h1,h2⟩<;>rw[h1,h2]
  .exact⟨az,bz,ab⟩
  .exact⟨bz,az,BU ab⟩
noncomputable abbrev lawN:vQ:=["_law_script","_law_many","_law_rows_here","_law_order","_law_points","_law_begin","_law_end","_law_web_here","_law_way","_law_rule","_law_other"]
theorem ADZ{o r:Int}(z2:2<=z)(o0:0<=o)(oz:o<z)(r0:0<=r)(rz:r<(z:Int)-1):0<=(o+1+r)%(z:Int)/\(o+1+r)%(z:Int)<z/\(o+1+r)%(z:Int)≠o:=by
 have h1:=D6 (o+1+r) (show(z:Int)≠0 from ar521 z2);have h2:=Da (o+1+r) (show(0:Int)<z from ar522 z2);refine⟨h1,h2,λe=>?_⟩;by_cases c:o+1+r<z
 .rw[UA δ c] at e
  lia
 .have e2:(o+1+r)%(z:Int)=o+1+r-z:=by
   rw[<- Int.sub_emod_right,UA δ δ]
  lia
noncomputable def anewT(ps:vG)(t:vG):vG:=t.map λa=>((pN ps a.toNat:Nat):Int)
theorem AAV(ps:vG)(as:vH):Anews (pN ps) as (as.map (anewT ps)):=⟨AB ..,λx a b e=>by rw[AV,e];rfl⟩
theorem ACn(as:vH):Anews id as as:=⟨ξ,λ_ _ _ e=>e⟩
section
variable{κ:Kr}{W W' r r':Addr}
theorem pre_of(hW:WebAt K C H W z (as.map srt))(hW':WebAt K C H W' z (pickO (dk.map srt) ns))(h1:∃dr,H r=u8 (.ins D dr (flK κ.2)))(h2:∃dr,H r'=u8 (.ins D' dr (flK κ'.2)))(h3:heK K H κ.2)(h4:heK K H κ'.2)(h5:okK z κ.2)(h6:okK z κ'.2)(h7:κ'.1=κ.1)(z1:1<=z)(z10:z<=10)(fc:as.length<=12)
  (A:Anew z π) (ok:OkTies (z:Int) as) (R:Anews π as dk) (o:Ord as.length ns) (ends:A9 (LikeE π) (edK κ.2) (edK κ'.2)):Pre K C D D' κ κ' H W W' r r' z π ns (as.map srt) (pickO (dk.map srt) ns):=by
 have l1:(as.map srt).length=as.length:=AB ..;have l2:(dk.map srt).length=as.length:=by rw[AB];exact R.1
 have g:GoodT (z:Int) (dk.map srt):=GoodT.of (R.ok A ok) (by rw[R.1];exact fc) δ (wZ z10);have g2:=g.perm (Nr (as:=dk.map srt) (by rw[l2];exact o));have e2:=Ri g2.so;have b:=ZQ g2.ok;have c:=Qg g2.ok;rw[e2] at b c;have okE:∀e∈edK κ.2,e.1<z/\e.2<z/\e.1≠e.2:=λe he=>by
  obtain⟨rd,k⟩:=κ;cases k with
  | none=>cases he
  | some x =>
   rw[B8.mp he];exact h5
 have B:=AEa A ok R o ends okE;rw[<- l1] at B;exact⟨hW,hW',h1,h2,h3,h4,h5,h6,h7,z1,z10,wt l1 fc,by rw[JT,o.length,l1],ZQ ok,b,Qg ok,c,B⟩
end
section
variable{Dw Dr Do:Addr}
theorem Fy:FnScope lawN ["_law_script"] (Af ACi):=fscp ψ
theorem AHn{fV fN:Addr}{fdV fdN:BA}(F:Fun K "law" "law" ACi f fd)(T:Txt K mg C)
  (M:Mk K C fI) (MW:Mk K Dw fN) (mgW:mg "Ways" = u8 (.ref Dw))
  (mkR:HR K Dr=true) (hiR:C2 K (.ref Dr) "__init__" = u8 (u8 (.builtin "object.__init__"))) (kpR:C8 K (.ref Dr)=true) (mgR:mg "Rings" = u8 (.ref Dr))
  (mkO:HR K Do=true) (hiO:C2 K (.ref Do) "__init__" = u8 (u8 (.builtin "object.__init__"))) (kpO:C8 K (.ref Do)=true) (mgO:mg "Rounds" = u8 (.ref Do))
  (GC:Cal P w K mg base 1 fC fdC "_law_at" zl17 (ADY K))
  (GV:Cal P w K mg base 3 fV fdV "_law_web" zl28 (ABo K))
  (GU:Cal P w K mg base 2 fU q5 "_law_turn" zl29 ADT)
  (GI:FnOk P w K mg base CX0 3 fI k8 zl7 (JW K C)) (bI:Binds K k8 zl7 [])
  (GN:FnOk P w K mg base CX0 1 fN fdN zl15 (Ys K Dw)) (bN:Binds K fdN zl15 [])
  (GR:Cal P w K mg base 5 fR pE "reordered" zl32 (YX K C))
  (GW:∀x:(Addr×Nat×Nat)×(Addr×Nat×Nat),FnOk P w K mg base CX0 19 fA dE zl33 (Rj (false,u8 x.1) (false,u8 x.2) K C Dw Dw))
  (GL:∀i:Bool,FnOk P w K mg base CX0 19 fA dE zl33 (Rj (i,u9) (i,u9) K C (cond i Do Dr) (cond i Do Dr)))
  (bA:Binds K dE zl33 []) (kA:C8 K (.ref fA)=true) (mA:mg "_law_alike" = u8 (.ref fA)) :
  FnOk P w K mg base CX0 20 f fd ["_law_script"] (Tg K):=by
 refine F.ok Fy (λbt A outer s H vs Q E hr h=>?_);obtain⟨a,cs,rfl,hS,n63,q⟩:=h;have bo:Room 1 _:=hr.mono ζ;have eK:Room 2 _:=hr.mono ζ;have hrN:Room (1+1) _:=hr.mono ζ;have om:Room 3 _:=hr.mono ζ;have sO:Room (3+1) _:=hr.mono ζ;have hr5:Room 5 _:=hr.mono ζ;have GX:=AGc GW;have GY:=AGc GL;refine⟨_,Ad (Jw (Ay GV om rfl (Aa (Ay GC bo rfl (Aa (pv 0) (Aa Ae Ac))) Ac)) (Xa rfl (Bt (Bg (i:=1) Fy.nd) (Bt (Bg (i:=2) Fy.nd) Er))))
  (Ad (Ao (i:=3) Fy.nd (Ay GU eK rfl (Aa (Az Av rfl T.len CC (Aa (pv 2) Ac)) (Aa (Ay GC bo rfl (Aa (pv 0) (Aa Ae Ac))) Ac))))
  (Ad (Ao (i:=4) Fy.nd (Ay GU eK rfl (Aa (pv 1) (Aa (Ay GC bo rfl (Aa (pv 0) (Aa Ae Ac))) Ac))))
  (Ad (Ao (i:=5) Fy.nd (Aw Cq (Ay GC bo rfl (Aa (pv 0) (Aa Ae Ac))) (pv 1)))
  (Ad (Ao (i:=6) Fy.nd (Aw Cq (Aw CQ (Aw CQ (pv 5) Ae) (Aw Cq (Aw Eb (Ay GC bo rfl (Aa (pv 0) (Aa Ae Ac))) (pv 1)) (Aw Ez (pv 1) Ae))) (pv 1)))
  (Ad (Ao (i:=7) Fy.nd (Et M GI sO rfl T.mgC bI .nil pass0 (Aa (pv 1) (Aa (pv 2) Ac))))
  (Ad (Ao (i:=8) Fy.nd (Aw Cq (Aw Eb (Ay GC bo rfl (Aa (pv 0) (Aa Ae Ac))) Ae) Ae))
  (Ad (Bl (Aq EY (pv 8) Ae)
   (Ad (Ao (i:=9) Fy.nd (Et MW GN hrN rfl mgW bN .nil pass0 (Aa (pv 5) (Aa (pv 6) Ac))))
   (Ah (Ar (HY GX hr rfl mA kA bA .nil pass0 (Aa (pv 7) (Aa (Ay GR hr5 rfl (Aa (pv 7) (Aa (pv 3) Ac))) (Aa (Bs (Aa (pv 9) (Aa (pv 9) Ac))) (Aa (pv 3) (Aa (pv 0) Ac))))))))) BJ)
  (Ad (Ao (i:=10) Fy.nd (Ay GR hr5 rfl (Aa (Et M GI sO rfl T.mgC bI .nil pass0 (Aa (pv 1) (Aa
   (Bu (Af ACi) ["_law_a","_law_b"] ["_law_points"] [4] rfl rfl ψ ⟨⟨ξ,ψ⟩,trivial⟩ (CT (pv 2))
    (λ_ _ _=>Gv (K:=K) (n:=2) rfl rfl (Bt (BL (i:=0)) (Bt (BL (i:=1)) Er)))
    (λ_ _ _=>Cv)
    (λ_ _ _=>Bs (Aa (Ax (Lg (K:=K) rfl) (pv 2) (pv 0)) (Aa (Ax (Lg (K:=K) rfl) (pv 2) (pv 1)) Ac)))) Ac))) (Aa (pv 3) Ac))))
  (Ad (Ao (i:=9) Fy.nd (Ax Cg (DG (Aa (YT mkR hiR kpR rfl mgR) (Aa (YT mkO hiO kpO rfl mgO) Ac))) (Aw Cq (pv 8) Ae)))
  (Ad (Bl (Aq EY (pv 8) Ae)
   (Ah (Ar (HY GX hr rfl mA kA bA .nil pass0 (Aa (pv 7) (Aa (pv 10) (Aa (Bs (Aa (Et MW GN hrN rfl mgW bN .nil pass0 (Aa (pv 5) (Aa (pv 6) Ac))) (Aa (Et MW GN hrN rfl mgW bN .nil pass0 (Aa (Ax Cg (pv 4) (pv 6)) (Aa (Ax Cg (pv 4) (pv 5)) Ac))) Ac))) (Aa (pv 3) (Aa (pv 0) Ac)))))))) BJ)
  (Ah (Ar (HY GY hr rfl mA kA bA .nil pass0 (Aa (pv 7) (Aa (pv 10) (Aa (Bs (Aa (pv 9) (Aa (pv 9) Ac))) (Aa (pv 3) (Aa (pv 0) Ac)))))))))))))))))),?_⟩
 refine⟨_,ξ,a,cs,0,ξ,hS,δ,λc0=>⟨c0,ξ,λt l z as H1 s1 ht hT ok z2 z10 fc=>?_⟩⟩;refine⟨t,_,ξ,ht,ξ,_,_,ξ,_,_,ξ,ξ,?_⟩;obtain⟨xs,hl,pl⟩:=id hT;have lx:=AT pl;have tj:=s1.seq hS;clear s1 hS hT ht;refine⟨_,ξ,l,_,ξ,.inl hl,_,ξ,a,cs,1,ξ,tj,δ,λc1=>?_⟩;refine⟨xs.length,c1,ξ,v5 lx fc,λO ns H2 s2 nO eO hO=>?_⟩;rw[<- lx] at hO;refine⟨_,ξ,_,ξ,a,cs,2,ξ,s2.seq tj,δ,λc2=>?_⟩;refine⟨z,c2,ξ,δ,λO2 ps H3 s3 nP eP hP=>?_⟩;have rE:=s2.trans s3;have eO:=s3 _ _ eO;have hS3:=rE.seq tj;have og:=rE.seq hl;have pl3:=Nb rE.ts pl;clear s2 s3 rE nO nP tj hl pl;refine⟨_,ξ,a,cs,3,ξ,hS3,yj,λc=>?_⟩;have zp:(0:Int)<(z:Int):=ar522 z2;refine⟨_,ξ,_,_,ξ,ξ,zp,?_⟩;refine⟨_,ξ,_,_,ξ,ξ,_,ξ,a,cs,3,ξ,hS3,yj,λc'=>?_⟩;have o0:=D6 c (show(z:Int)≠0 from ar521 z2);have oz:=Da c zp;have r0:=D6 (c' / (z:Int)) (show(z:Int)-1≠0 by lia);have rz:=Da (c' / (z:Int)) (show(0:Int)<(z:Int)-1 from ar523 z2);obtain⟨y0,yz,yx⟩:=ADZ z2 o0 oz r0 rz;refine⟨_,ξ,_,_,ξ,ξ,⟨zp,δ⟩,_,ξ,_,_,ξ,ξ,_,_,ξ,ξ,(by show(0:Int)<(z:Int)-1;exact ar523 z2),_,_,ξ,ξ,_,ξ,_,_,ξ,ξ,zp,?_⟩;dsimp only;obtain⟨x,ex⟩:=J2 o0;rw[ex] at oz yx y0 yz ⊢;obtain⟨y,ey⟩:=J2 y0;rw[ey] at yz yx ⊢;have xz:x<z:=wS oz;have tF:y<z:=wS yz;have xy:x≠y:=λe=>yx (by rw[e]);clear o0 oz r0 rz y0 yz yx ex ey;refine⟨_,ξ,_,ξ,λW dW nW ndW nWd=>?_⟩;have sW:Same H3 (upd (upd H3 dW (.own W)) W (.ins C dW [])):=vn nW ndW _ _;refine⟨W,dW,l,(z:Int),xs,as,ξ,Ab,sW.seq og,vj (λt x h=>.inr (Ak Am _ _ _ _ sW.ts h)) pl3,ok,fc,xH z2,wZ z10,λH4 k4 hW=>⟨ξ,?_⟩⟩;have s4:Same H3 H4:=λb o e=>k4 b o (sW b o e) (Ai e nW);have hS4:=s4.seq hS3;have sM:=s4.seq og;have pl4:=Nb s4.ts pl3;have mw:=s4 _ _ eO;have kg:=s4 _ _ eP;clear sW k4 s4 hS3 og pl3 eO eP nW ndW nWd;have bl:(as.map srt).length=as.length:=AB ..;have uQ:2<=sizeLine:=by decide
 refine⟨_,ξ,a,cs,3,ξ,hS4,yj,λc3=>?_⟩;refine⟨_,_,ξ,ξ,⟨ζ,ζ⟩,_,_,ξ,ξ,(by show(0:Int)<4;decide),?_⟩;have w0:=D6 (c3 / 97) (show(4:Int)≠0 by decide);have w4:=Da (c3 / 97) (show(0:Int)<4 by decide);dsimp only;generalize c3 / 97%4=wy at w0 w4 ⊢;refine⟨_,ξ,ξ,_,ξ,ite2 (λ_=>?_) (λn3=>?_)⟩
 .refine⟨_,ξ,_,ξ,λr dr nr ndr nrd=>?_⟩
  have sr:Same H4 (upd (upd H4 dr (.own r)) r (.ins Dw dr [])):=vn nr ndr _ _;refine⟨r,dr,x,y,ξ,Ab,λet H5 k5 he hr'=>⟨ξ,?_⟩⟩;have s5:Same H4 H5:=λb o e=>k5 b o (sr b o e) (Ai e nr);refine⟨_,ξ,_,ξ,_,ξ,W,O,(z:Int),as.map srt,ns,ξ,hW.same s5,GoodT.of ok fc (xH z2) (wZ z10),vd (s5 _ _ mw),by rw[bl];exact hO,λW2 H6 s6 hW2=>?_⟩;refine⟨_,ξ,_,ξ,uQ,λR hR=>?_⟩;have s7:=s6.trans (vk hR (.tup [V.ref r,V.ref r]));have p9:=s5.trans s7;refine⟨_,ξ,_,ξ,((et,x,y),(et,x,y)),W,W2,R,r,r,O,a,z,id,ns,cs,as.map srt,pickO (as.map srt) ns,ξ,?_,ve Ab,p9 _ _ mw,p9.seq hS4,q⟩;exact pre_of (hW.same p9) (hW2.same (vk hR _)) ⟨dr,s7 _ _ hr'⟩ ⟨dr,s7 _ _ hr'⟩ (Ji s7.ts he) (Ji s7.ts he) ⟨xz,tF,xy⟩ ⟨xz,tF,xy⟩ rfl (wO z2) z10 fc (AFj z) ok (ACn as) hO (.cons (.inl rfl) .nil)
 have an:=AFe hP;refine⟨_,ξ,_,ξ,l,ξ,⟨_,sM⟩,λZ hZ=>?_⟩;refine Bw (K:=K) (a:=l) (xs:=xs) (λj τ H5=>∃(o1 o2:Option V) (ys:List V),τ=[o1,o2,u8 (.ref O2)]/\Same H4 H5/\H5 Z=u8 (.lst ys)/\A9 (rPair K H5) ((as.take j).map (anewT ps)) ys) ⟨u9,u9,[],ξ,vk hZ _,Ab,.nil⟩ (by rintro j τ H5 _ ⟨_,_,_,_,s5,_⟩;exact s5.seq sM) ?_ ?_
 .rintro j v τ H5 hv ⟨o1,o2,ys,rfl,s5,eZ,py⟩
  obtain⟨u,hu,rv⟩:=Paired.get pl4 hv;have jl:=(AG.mp hu).1;obtain⟨a1,b1,e1,az,bz,_⟩:=Iu ok jl;rw[hu] at e1;cases e1;obtain⟨tq,rfl,htq⟩:=Bq rv;have ly:=AT py;rw[AB,BV] at ly;refine⟨tq,_,ξ,s5.ts.seq htq,ξ,_,_,ξ,_,_,ξ,ξ,yesD ?_⟩;refine⟨_,ξ,_,ξ,O2,_,_,_,ξ,ξ,vd (s5 _ _ kg),Bv (by rw[AV,(MP hP az).2];rfl),?_⟩;refine⟨_,ξ,_,ξ,O2,_,_,_,ξ,ξ,vd (s5 _ _ kg),Bv (by rw[AV,(MP hP bz).2];rfl),?_⟩;refine⟨uQ,λt' kC=>?_⟩;have s6:=vk kC (.tup [V.int ((pN ps a1:Nat):Int),V.int ((pN ps b1:Nat):Int)]);have uX:=s6 _ _ eZ;refine⟨ys,uX,BK δ,_,_,_,ξ,(s5.trans s6).put hZ _,Ab,?_⟩
  .have ts:=vi (o:=.lst (ys++[.ref t'])) uX
   rw[DA,hu,BI];exact vg (Nb (s6.ts.trans ts) py) (vh ⟨t',_,ξ,ts.seq (ve Ab),paired_ints _⟩)
 rintro τ H5 ⟨o1,o2,ys,rfl,s5,eZ,py⟩;rw[<- lx,CD] at py;have R:=AAV ps as;have ok':=R.ok an ok;have l':(as.map (anewT ps)).length=as.length:=AB ..;generalize as.map (anewT ps)=dk at R ok' l' py;refine λW1 d1 nW1 lP nWd=>?_;have sW:Same H5 (upd (upd H5 d1 (.own W1)) W1 (.ins C d1 [])):=vn nW1 lP _ _;refine⟨W1,d1,Z,(z:Int),ys,dk,ξ,Ab,vd (sW _ _ eZ),vj (λt x h=>.inr (Ak Am _ _ _ _ sW.ts h)) py,ok',wt l' fc,xH z2,wZ z10,λH6 k6 pM=>⟨ξ,?_⟩⟩;have s6:Same H4 H6:=λb o e=>k6 b o (sW b o (s5 b o e)) (Ai (s5 b o e) nW1);refine⟨_,ξ,W1,O,(z:Int),dk.map srt,ns,ξ,pM,GoodT.of ok' (wt l' fc) (xH z2) (wZ z10),vd (s6 _ _ mw),by rw[AB,l'];exact hO,λW2 H7 s7 hW2=>?_⟩;have mm:=s6.trans s7;have hW7:=hW.same mm;have eO7:=mm _ _ mw;have eP7:=mm _ _ kg;have hS7:=mm.seq hS4;clear s5 eZ py sW k6 pM s6 s7 mm hW hS4 sM pl4 mw kg hZ nW1 lP nWd;intro r0 d0 n0 nd0 e0;have sr0:Same H7 (upd (upd H7 d0 (.own r0)) r0 (.ins Dr d0 [])):=vn n0 nd0 _ _;have tw:(upd (upd H7 d0 (.own r0)) r0 (.ins Dr d0 [])) r0=u8 (.ins Dr d0 []):=Ab;generalize upd (upd H7 d0 (.own r0)) r0 (.ins Dr d0 [])=H8 at sr0 tw ⊢;intro r1 d1 n1 lP e1;have sr1:Same H8 (upd (upd H8 d1 (.own r1)) r1 (.ins Do d1 [])):=vn n1 lP _ _;have tT:(upd (upd H8 d1 (.own r1)) r1 (.ins Do d1 [])) r1=u8 (.ins Do d1 []):=Ab;have tw:=sr1 _ _ tw;have m4:=sr0.trans sr1;generalize upd (upd H8 d1 (.own r1)) r1 (.ins Do d1 [])=H9 at tw tT m4 ⊢;clear sr0 sr1 n0 nd0 e0 n1 lP e1;refine⟨uQ,λL hL=>?_⟩;obtain⟨i,ei⟩:∃i:Bool,wy%2=cond i 1 0:=by
  have m0:=D6 wy (show(2:Int)≠0 by decide);have m2:=Da wy (show(0:Int)<2 by decide);by_cases c:wy%2=0
  .exact⟨false,c⟩
  .exact⟨true,by show wy%2=1;lia⟩
 have at_:atI [V.ref r0,V.ref r1] (wy%2)=u8 (.ref (cond i r1 r0)):=by rw[ei];cases i<;>rfl
 refine⟨_,ξ,_,_,ξ,ξ,(by show(0:Int)<2;decide),L,_,_,_,ξ,ξ,vd Ab,at_,?_⟩;have sL:=vk hL (.lst [V.ref r0,V.ref r1]);have er:∃dr,(upd H9 L (.lst [V.ref r0,V.ref r1])) (cond i r1 r0)=u8 (.ins (cond i Do Dr) dr []):=by
  cases i
  .exact⟨d0,sL _ _ tw⟩
  .exact⟨d1,sL _ _ tT⟩
 have s9:=m4.trans sL;generalize upd H9 L (.lst [V.ref r0,V.ref r1])=HA at er s9 ⊢;clear m4 sL hL tw tT at_;have hWA:=hW7.same s9;have uO:=hW2.same s9;have tu:=s9 _ _ eO7;have ePA:=s9 _ _ eP7;have hSA:=s9.seq hS7;clear hW7 hW2 eO7 eP7 hS7 s9;refine⟨_,ξ,ξ,_,ξ,ite2 (λ_=>?_) (λ_=>?_)⟩
 .refine⟨_,ξ,_,ξ,_,ξ,_,ξ,λr dr nr ndr nrd=>?_⟩
  have sr:Same HA (upd (upd HA dr (.own r)) r (.ins Dw dr [])):=vn nr ndr _ _;refine⟨r,dr,x,y,ξ,Ab,λet H5 k5 he hr'=>⟨ξ,?_⟩⟩;have s5:Same HA H5:=λb o e=>k5 b o (sr b o e) (Ai e nr);have sF:=s5 _ _ ePA;refine⟨_,ξ,_,ξ,O2,_,_,_,ξ,ξ,vd sF,Bv (by rw[AV,(MP hP tF).2];rfl),?_⟩;refine⟨_,ξ,_,ξ,O2,_,_,_,ξ,ξ,vd sF,Bv (by rw[AV,(MP hP xz).2];rfl),?_⟩;intro r2 dr2 nr2 ndr2 nrd2;have sr2:Same H5 (upd (upd H5 dr2 (.own r2)) r2 (.ins Dw dr2 [])):=vn nr2 ndr2 _ _;refine⟨r2,dr2,pN ps y,pN ps x,ξ,Ab,λet2 H6 k6 he2 rH=>⟨ξ,?_⟩⟩;have s6:Same H5 H6:=λb o e=>k6 b o (sr2 b o e) (Ai e nr2);refine⟨uQ,λR2 hR2=>?_⟩;have s7:=vk hR2 (.tup [V.ref r,V.ref r2]);have s67:=s6.trans s7;have p9:=s5.trans s67;refine⟨_,ξ,_,ξ,((et,x,y),(et2,pN ps y,pN ps x)),W,W2,R2,r,r2,O,a,z,pN ps,ns,cs,as.map srt,pickO (dk.map srt) ns,ξ,?_,ve Ab,p9 _ _ tu,p9.seq hSA,q⟩;exact pre_of (hWA.same p9) (uO.same p9) ⟨dr,s67 _ _ hr'⟩ ⟨dr2,s7 _ _ rH⟩ (Ji s67.ts he) (Ji s7.ts he2) ⟨xz,tF,xy⟩ ⟨an.lt y tF,an.lt x xz,λe=>xy (an.inj y x tF xz e).symm⟩ rfl (wO z2) z10 fc an ok R hO (.cons (.inr rfl) .nil)
 .refine⟨_,ξ,_,ξ,_,ξ,_,ξ,uQ,λR2 hR2=>?_⟩
  have s7:=vk hR2 (.tup [V.ref (cond i r1 r0),V.ref (cond i r1 r0)]);obtain⟨dr,hr'⟩:=er;refine⟨_,ξ,_,ξ,i,W,W2,R2,cond i r1 r0,cond i r1 r0,O,a,z,pN ps,ns,cs,as.map srt,pickO (dk.map srt) ns,ξ,?_,ve Ab,s7 _ _ tu,s7.seq hSA,q⟩;exact pre_of (hWA.same s7) (uO.same s7) ⟨dr,s7 _ _ hr'⟩ ⟨dr,s7 _ _ hr'⟩ trivial trivial trivial trivial rfl (wO z2) z10 fc an ok R hO .nil
end
end K34
namespace L2
open PySem PySem.Spec PyProof.Rows
section
variable{p r s:Str}
theorem cons1{us:List α}(h:us.length=n+1):∃a vs,us=a::vs/\vs.length=n:=by
 cases us with
 | nil=>cases h
 | cons a vs=>exact⟨a,vs,ξ,Nat.succ.inj h⟩
theorem bn1(h:∀kV b9 pm an bt ct a,B kV b9 pm an bt ct [a]=pure [(p,a)])(kV b9 pm:Au)(an:Option Addr)(bt ct:Au)(us:vO)(hl:us.length=([p]:vQ).length):B kV b9 pm an bt ct us=pure (([p]:vQ).zip us):=by
 obtain⟨_,us0,rfl,my⟩:=cons1 (n:=0) hl;obtain rfl:=CU.mp my;exact h ..
theorem bn2(h:∀kV b9 pm an bt ct a b,B kV b9 pm an bt ct [a,b]=pure [(p,a),(q,b)])(kV b9 pm:Au)(an:Option Addr)(bt ct:Au)(us:vO)(hl:us.length=([p,q]:vQ).length):B kV b9 pm an bt ct us=pure (([p,q]:vQ).zip us):=by
 obtain⟨_,us0,rfl,my⟩:=cons1 (n:=1) hl;obtain⟨_,us1,rfl,g5⟩:=cons1 (n:=0) my;obtain rfl:=CU.mp g5;exact h ..
theorem bn3(h:∀kV b9 pm an bt ct a b c,B kV b9 pm an bt ct [a,b,c]=pure [(p,a),(q,b),(r,c)])(kV b9 pm:Au)(an:Option Addr)(bt ct:Au)(us:vO)(hl:us.length=([p,q,r]:vQ).length):B kV b9 pm an bt ct us=pure (([p,q,r]:vQ).zip us):=by
 obtain⟨_,us0,rfl,my⟩:=cons1 (n:=2) hl;obtain⟨_,us1,rfl,g5⟩:=cons1 (n:=1) my;obtain⟨_,us2,rfl,qv⟩:=cons1 (n:=0) g5;obtain rfl:=CU.mp qv;exact h ..
theorem bn4(h:∀kV b9 pm an bt ct a b c d,B kV b9 pm an bt ct [a,b,c,d]=pure [(p,a),(q,b),(r,c),(s,d)])(kV b9 pm:Au)(an:Option Addr)(bt ct:Au)(us:vO)(hl:us.length=([p,q,r,s]:vQ).length):B kV b9 pm an bt ct us=pure (([p,q,r,s]:vQ).zip us):=by
 obtain⟨_,us0,rfl,my⟩:=cons1 (n:=3) hl;obtain⟨_,us1,rfl,g5⟩:=cons1 (n:=2) my;obtain⟨_,us2,rfl,qv⟩:=cons1 (n:=1) g5;obtain⟨_,us3,rfl,og⟩:=cons1 (n:=0) qv;obtain rfl:=CU.mp og;exact h ..
end
section
variable{st:Stmt}
theorem bn5{p r s o:Str}(h:∀kV b9 pm an bt ct a b c d e,B kV b9 pm an bt ct [a,b,c,d,e]=pure [(p,a),(q,b),(r,c),(s,d),(o,e)])(kV b9 pm:Au)(an:Option Addr)(bt ct:Au)(us:vO)(hl:us.length=([p,q,r,s,o]:vQ).length):B kV b9 pm an bt ct us=pure (([p,q,r,s,o]:vQ).zip us):=by
 obtain⟨_,us0,rfl,my⟩:=cons1 (n:=4) hl;obtain⟨_,us1,rfl,g5⟩:=cons1 (n:=3) my;obtain⟨_,us2,rfl,qv⟩:=cons1 (n:=2) g5;obtain⟨_,us3,rfl,og⟩:=cons1 (n:=1) qv;obtain⟨_,us4,rfl,sM⟩:=cons1 (n:=0) og;obtain rfl:=CU.mp sM;exact h ..
inductive Df (K:As) (x:Str) (st:Stmt):Prop
 | mk (f:Addr) (od an:Option Addr) (sl:Array vS) (oc kV dc pm cd ct:Au) (a:G8 K DB x=u8 (u8 (.ref f))) (l:K.lookup f=u8 ⟨oc,od,.func (E6 x x (Dm st) (DP st) (Af st) .none kV dc pm an cd ct),sl⟩) (c:IP K cd x=true) (k:C8 K (.ref f)=true):Df K x st
inductive Md (K:As) (C:Addr) (x q:Str) (st:Stmt):Prop
 | mk (f:Addr) (od an:Option Addr) (sl:Array vS) (oc kV dc pm cd ct:Au) (a:C2 K (.ref C) x=u8 (u8 (.ref f))) (i:MQ K (.ref f)=true) (l:K.lookup f=u8 ⟨oc,od,.func (E6 x q (Dm st) (DP st) (Af st) .none kV dc pm an cd ct),sl⟩) (c:IP K cd q=true) (k:C8 K (.ref f)=true):Md K C x q st
inductive DfO (K:As) (mg:vM) (x:Str) (st:Stmt) (ps:vQ):Prop
 | mk (f:Addr) (fd:BA) (F:Fun K x x st f fd) (b:Binds K fd ps []) (m:mg x=u8 (.ref f)) (k:C8 K (.ref f)=true):DfO K mg x st ps
inductive MdO (K:As) (C:Addr) (x q:Str) (st:Stmt) (ps:vQ):Prop
 | mk (f:Addr) (fd:BA) (F:Fun K x q st f fd) (b:Binds K fd ps []) (m:Meth K C x f):MdO K C x q st ps
theorem Df.get(D:Df K x st)(X:K.In h)(G:h.Ns DB mg)(hb:∀(kV b9 pm:Au) (an:Option Addr) (bt ct:Au) (us:vO),us.length=ps.length->UV (E6 x x (Dm st) (DP st) (Af st) .none kV b9 pm an bt ct) ⟨us,[]⟩=pure (ps.zip us)):DfO K mg x st ps:=by
 cases D with
 | mk f od an sl oc kV dc pm cd ct a l c k=>exact⟨f,_,Np l c k,(Np l c k).binds hb,EV X G a,k⟩
theorem Md.get(D:Md K C x q st)(hb:∀(kV b9 pm:Au) (an:Option Addr) (bt ct:Au) (us:vO),us.length=ps.length->UV (E6 x q (Dm st) (DP st) (Af st) .none kV b9 pm an bt ct) ⟨us,[]⟩=pure (ps.zip us)):MdO K C x q st ps:=by
 cases D with
 | mk f od an sl oc kV dc pm cd ct a i l c k=>exact⟨f,_,Np l c k,(Np l c k).binds hb,⟨a,i,k⟩⟩
theorem Df.of{kV:Au}(a:G8 K DB x=u8 (u8 (.ref f)))(l:K.lookup f=u8 ⟨oc,od,.func (E6 x x (Dm st) (DP st) (Af st) .none kV dc pm an cd ct),sl⟩)(c:IP K cd x=true)(k:C8 K (.ref f)=true):Df K x st:=⟨f,od,an,sl,oc,kV,dc,pm,cd,ct,a,l,c,k⟩
theorem Md.of{kV:Au}(a:C2 K (.ref C) x=u8 (u8 (.ref f)))(i:MQ K (.ref f)=true)(l:K.lookup f=u8 ⟨oc,od,.func (E6 x q (Dm st) (DP st) (Af st) .none kV dc pm an cd ct),sl⟩)(c:IP K cd q=true)(k:C8 K (.ref f)=true):Md K C x q st:=⟨f,od,an,sl,oc,kV,dc,pm,cd,ct,a,i,l,c,k⟩
structure Kl(K:As)(n:Str)(D:Addr):Prop where
 y:G8 K DB n=u8 (u8 (.ref D))
 c:Cls K D
 mk_:HR K D=true
 kp:C8 K (.ref D)=true
theorem Kl.of(y:G8 K DB x=u8 (u8 (.ref C)))(a:KW K C Str.empty=true)(b:LW K C=true)(c:OA K C=true)(d:C2 K (.ref C) "__setattr__" = u8 (u8 (.builtin "object.__setattr__")))(m:HR K C=true)(k:C8 K (.ref C)=true):Kl K x C:=⟨y,⟨a,b,c,d⟩,m,k⟩
def Nn(K:As):vQ->Prop
 | []=>True
 | x::l=>G8 K DB x=u8 u9/\Nn K l
def Na(K:As)(C:Addr):vQ->Prop
 | []=>True
 | x::l=>C2 K (.ref C) x=u8 u9/\Na K C l
theorem Nn.one{l:vQ}(a:G8 K DB x=u8 u9)(b:Nn K l):Nn K (x::l):=⟨a,b⟩
theorem Na.one{l:vQ}(a:C2 K (.ref C) x=u8 u9)(b:Na K C l):Na K C (x::l):=⟨a,b⟩
end
end L2
structure PySem.W.Fast:Prop where(tw1003200604264762170 tw1004385707263523818 tw10085901677235129906 tw10114691419477528675 tw10145216400065446898 tw10251655699617483723 tw10264027787902090565 tw10267035640199307844 tw1026705780556971908 tw10302373516077810596 tw10368784220040908816 tw10385766234997041251 tw10392366816008390547 tw10486545135927437382 tw10497541284543453387 tw10519154658634684778 tw10527205705506441743 tw10534951660435133516 tw10581565709863076039 tw10594903824551702907 tw10602040644164519519 tw10617279653345899204 tw10646269123529434806 tw10651350354260914276 tw10664123028431640379 tw10671583439035646885 tw10672675609299824116 tw1068719741492261888 tw10693233709285883859 tw10695079651583546810 tw10705090680586620286 tw10705939388346374082 tw1072297601228147530 tw10732920203440479925 tw10733200938971938785 tw10779887257211282153 tw10784629083604295570 tw10814554576311175270 tw10850213730231889688 tw1086500471403360937 tw10946147739588788017 tw10972517687847672102 tw10981940696191427171 tw10995831206144227463 tw11003182282861800602 tw11017172122738115104 tw11096446083078411719 tw11099740640518804659 tw11137882226630587737 tw11175193199221515955 tw11180236960833222490 tw11191512073922458064 tw11214942785966740026 tw11218034643812113822 tw1134230628482668832 tw11353237577415889774 tw11372045753873193174 tw11375397993383463740 tw11409031126587485809 tw11501998153141034565 tw11505038124727132719 tw11547412622214325502 tw11559056206270294873 tw1157395423801186854 tw11578045039213549335 tw11590875053905881028 tw11611790405247367241 tw11639512129919751120 tw11734170813282394415 tw11753513665474901191 tw11765011813829742199 tw11773814743105466128 tw11780039189480220497 tw11796981227955658719 tw11817848155804015813 tw11877372837502461124 tw11935203215509170741 tw11980469687882983510 tw12003707585358719760 tw12018396730124887557 tw12019590003656481922 tw12019630683616251508 tw12077758765370252921 tw12088545204981192970 tw12093013893806967008 tw12117688305163520784 tw12152834205228606702 tw12177081575978524854 tw12229561492994884040 tw12266388825445633114 tw12312267173101478191 tw12313650118859227934 tw12329025821949763586 tw1235120324160353371 tw12365279910453692376 tw1248321836006709381 tw12521411358957176310 tw12547690199192632886 tw12585894943112517341 tw1261794820146006799 tw12627538178655410781 tw12644319982023678471 tw12644467695955221932 tw12650334385369843631 tw12666676933822693392 tw12671432753796639100 tw1267576438306494739 tw12716293890650149588 tw12717961950897206919 tw12736259000418534388 tw12790820196854243781 tw12858579394634935015 tw12873647384648421073 tw12875853529684136960 tw12892650263027267244 tw12899838612086232986 tw1290375165088584678 tw12917775644093583130 tw12919462631838012955 tw12978409014620454425 tw13083968383276754079 tw13134435784008836050 tw13147808373227585181 tw1315755325059271601 tw13170421444502093927 tw13199429411922648664 tw13206761544130695452 tw13212348782216729292 tw13223904541315512352 tw13300472120027845917 tw1337641193700161670 tw1340120041735382612 tw1340178865905031256 tw13421895302782513298 tw13497192044952499169 tw13497642660977729510 tw13523505153477661992 tw13532686151601025345 tw13540705998296682731 tw13554884333917355030 tw13583638439504503012 tw13682388023581889673 tw13684535561652859298 tw13700107893122816513 tw13737614410363708403 tw1374398066876286432 tw13759402202056900082 tw13772934177957791803 tw13801497219615754923 tw13823000664813615764 tw13856654517474210404 tw13870006919557394380 tw13909104361373354844 tw13916474427698487496 tw13917964569420348548 tw13932226811107207710 tw13941492070617825311 tw13955145014676317604 tw13965709281910546567 tw13966245962899402939 tw14007450929802322441 tw14020106355052441896 tw14081066390498329363 tw14112356235075400313 tw14155136258706236251 tw14184687650166754344 tw14232088502857053980 tw14247977031917630500 tw14251657077254467812 tw1425327604754848887 tw1428635658172836988 tw14294120330583991584 tw14317365020343925016 tw14324539831327604662 tw1434355770777300651 tw1434603908179536913 tw14371537092094791690 tw14378387563302504934 tw14382699023115045516 tw14398542378295719989 tw1442366035894879209 tw14445178342321359801 tw14462253403786454524 tw14467585794785371737 tw14513372305133468812 tw14581299633968652834 tw14583811113811686687 tw14595628562933066579 tw14600103228436814514 tw14620834871373767258 tw14668307700306051480 tw14673998840135409380 tw14683658635575118452 tw1475682108669425634 tw14758396642792737784 tw14761914030420063914 tw14788797441666031117 tw14827718070538654923 tw14852513303561645621 tw14859166856916337688 tw14872529721696012718 tw14878211321127693639 tw14896442418622768836 tw14899226394545240749 tw14941586546195359928 tw14946378930600123837 tw14946992483927097027 tw14990801312701131749 tw14995581305014319267 tw15019994929378727752 tw15093539806585456245 tw15096544273373826799 tw15097210991752885741 tw15119226554164905693 tw15133931513801845240 tw15135093593811861108 tw15333890176523753400 tw15348906106116218702 tw15359790079395537626 tw15376216046957570782 tw15417130502631210241 tw15436491683327323247 tw15441871100430943654 tw15462122338294813577 tw15486548870502083965 tw15496342169543915100 tw15502551499423631879 tw15548305984354836322 tw15574686960899274065 tw15580021740228270886 tw15606973310348571878 tw15641464870045419204 tw1569534387425809864 tw15741117868893959346 tw15769461258673141150 tw15803521536997467213 tw15810335304830123285 tw15851791340165273089 tw15871588615788312989 tw15883896571418883478 tw15898103544858501469 tw15909125705107707844 tw15932790529027271604 tw15964791767397774931 tw15994677500942601649 tw16060627704769314826 tw16132447890047014887 tw16155761286704062015 tw16198552501001903647 tw16209752808823711385 tw16255700644762591088 tw16282261967596039658 tw1636038857624819954 tw16375511029706782228 tw16414764071198491734 tw1645198396980615289 tw1646006541945451629 tw16473816654301579799 tw16516575807867220491 tw16527129324154524954 tw16570896552496486272 tw16577205923697923102 tw16637055589542268696 tw16674382247614437629 tw16841603517762889969 tw16853662459923986216 tw16854030724580342387 tw16880029670355747987 tw16900343491313076733 tw16952591321837856010 tw16994981307178416409 tw16996116506266230500 tw17048741631703309268 tw17068892733704523057 tw17087039363494111978 tw17097460634889996318 tw1710864964509090113 tw17120275838619287211 tw1712762603302380409 tw17152786186952207175 tw17152788776554742089 tw17231631634567618634 tw17281749038076447553 tw17283534897996191054 tw17332545254943225489 tw17332873620539004743 tw17339111035789238912 tw17368770540788812038 tw1739106304297008906 tw17436845157613191873 tw17455772305272023558 tw17595724345021680777 tw17635462289278424132 tw17641476497811467813 tw17662147941451416914 tw17676350971886377262 tw17681905090055571227 tw17683056341054390585 tw17684464266596283972 tw17686698535372956768 tw17689410290682646233 tw17746948321850416388 tw17766491885397423038 tw17839600085893049684 tw17841143638646309213 tw17853909677711188658 tw17938450793821095050 tw17954474012484657108 tw18028248958930990420 tw18033999434303003074 tw18158770104885577281 tw18190612120068176014 tw18270309343171687007 tw1828459525028812194 tw18319406486752330283 tw18341139682022464279 tw18362184216668635329 tw1837838395815249653 tw18385346677571349113 tw18419348003463891201 tw18424350367270765749 tw18435621874365749379 tw1843766627916349652 tw1866967567176377030 tw1884265182518796105 tw1896911386201500905 tw1897135592689300542 tw1903301216780851310 tw1925920829012272053 tw1945360335153520552 tw1950513475807328778 tw2029159499659735129 tw208423418780695665 tw2103157986778230184 tw2135144735283381279 tw214236235203513324 tw214580077565633543 tw2147328497022026028 tw2148155090702963355 tw2152901396888591696 tw2186162130398263555 tw2193497808367715708 tw223130180403450521 tw2256489572702876326 tw2305080383635960429 tw2361067890577489460 tw2370794453602373051 tw237510078577492321 tw2456833100853201321 tw2459554312663884333 tw2481825120322124293 tw2482210977733654877 tw2653945499522256611 tw2717227403245363513 tw2720048031556007061 tw2752959564740241974 tw2820121010786111822 tw2827545149468375258 tw2828617734026544536 tw283227868346648954 tw2989585628355182328 tw3040570144372285370 tw3041005832210082506 tw3063578453337392555 tw310269989646633287 tw3138165798780811634 tw3173876095459458950 tw3176173220214761658 tw3204897053170288929 tw3238602842325860464 tw3239277048509280921 tw3284960949914494612 tw3367750152222240450 tw340936431536428795 tw3476723722500261783 tw3501667954886101732 tw3522448812622303711 tw3536451274861530140 tw3545325216452140276 tw3585362736860213846 tw3601049184712837434 tw3650154875875784362 tw3709014009026211322 tw3766386420623871285 tw3819114627824308739 tw3855988472133466730 tw3867659815871968324 tw3922109230268029147 tw3928328736084618998 tw3931857375452319746 tw3975289962210564468 tw3986037607413321616 tw4040848958383475468 tw4055030797143254096 tw4064251129614782217 tw414589511062379081 tw4245511846396028031 tw424777007580950193 tw4253164039317719288 tw4268111809662626777 tw4344348236289598584 tw4634374163949141025 tw4636478592870015344 tw4637141494261953591 tw4657300108848360059 tw4669071010445732188 tw4669133614741080605 tw4672287186660885174 tw4696407361030292835 tw4716442093018377427 tw4752180541851895950 tw4767655331195123254 tw4836030564464086799 tw4951482469757394992 tw4951925457315145164 tw4982253659559476370 tw5012001107584138704 tw5027520154166966996 tw5054203415123543076 tw5099617548689518801 tw5122342065179602922 tw5160171741911475236 tw5180137261575257382 tw5236675199677583263 tw5265217697596272548 tw5270275673370539931 tw5281724131373243722 tw5304146796506950889 tw5332597645266185863 tw5338368935968859734 tw538320197213947604 tw5390105678422503109 tw5417747679434795081 tw5426531602173768966 tw5481990953547501875 tw5497791020119654225 tw5498942420788442275 tw5511698621278118428 tw5513134004180058314 tw554852362736370228 tw556870226136715771 tw5703455976648389951 tw5711970610982027269 tw5729338715199448758 tw5761519044469269215 tw5798116694593012825 tw581365089770277118 tw5831119315290254866 tw5834941067276469421 tw5838798081299717806 tw584991053487553288 tw5863515742029722783 tw588071839978794992 tw5897264025019131341 tw5914674170872692931 tw5935667631340355525 tw5941375378019966066 tw5968154687791413579 tw5981476970719503708 tw5993089213113453303 tw600595227654369908 tw6045789073329783812 tw6065775483685447611 tw6090025987473209371 tw6153183819018292150 tw6153576334555857594 tw6161250218909217239 tw6173059570825808144 tw6179051875143466015 tw6188965966997723903 tw6193412561632300018 tw6198241871391075040 tw6276460796144379439 tw6282989164224075667 tw6319782167597079416 tw6353162520922747647 tw6390482807379550341 tw6391903475190885543 tw6396468069516545465 tw6414328620514580311 tw6472021378956761116 tw6499789706524497662 tw6532419462138708303 tw6559726753757724721 tw6568002888734921922 tw6580157227140747215 tw662175254840116830 tw6654041730510630448 tw6702865145463392325 tw6712387013885872698 tw673322613599024852 tw6755843960504951329 tw6776004817663259714 tw6805051163107873458 tw6824681840761150523 tw6830724461243485279 tw6857844776631408471 tw6919870318151252028 tw6920104232232208306 tw6946876886024666920 tw694814177052842307 tw6965696570055226444 tw6979961098704011200 tw7050884068931326186 tw7068771215449323962 tw7074819862925979226 tw708609923237365237 tw71777973778564000 tw7183538749962763919 tw7247694372464590888 tw728444479151894336 tw7288149830692058455 tw7296441080655473718 tw7388614929990287413 tw738897175310514225 tw7392014818842369323 tw7408391169696780415 tw7409685139875925669 tw742763212949433422 tw7433162033183853552 tw7450680919820969558 tw7467786917694257085 tw7508540858478613112 tw751227518368523472 tw7541032232968328500 tw7563037933232386264 tw7581119929559344207 tw7636049814423837991 tw7659534529305862115 tw7668474256454675397 tw7731421560953160352 tw7748994057750643141 tw7762997091114299917 tw7784396439825148750 tw7799648178576087690 tw7809834076155117007 tw7833490211305091749 tw7849495472747150142 tw7883091199084842553 tw793377084173355519 tw7943363588505994616 tw7944807871995386998 tw7975065787398274216 tw7979207615876803940 tw7993548375646114929 tw8021280478122412599 tw8023133657074130032 tw8026436134608077878 tw8098387861769120864 tw8140460815366028754 tw8174376761305630265 tw8190593711546745413 tw829756205741731465 tw831310999269484505 tw8322860320388241374 tw8349502326329135767 tw8353253913522982464 tw8356253259587039371 tw8367845609590439761 tw8386745977238836131 tw8400967260259379833 tw841043605964674945 tw8501426009629138861 tw8564351479485212454 tw8572170783217916516 tw8635578828260916316 tw8637804152405182201 tw8717399740598187262 tw8746613040903188680 tw8768712371252047253 tw8772666387208067869 tw880560388438456490 tw8816999153775165741 tw8825145511212267968 tw885690535172506141 tw8900451223891942968 tw8909984605079976396 tw8920404248439593388 tw8941674703743311735 tw896164957433721413 tw8993987443525097748 tw9007502455202140831 tw9027793095035072220 tw9077219266266643092 tw9087345156565034408 tw9090368381079707153 tw913526553631703018 tw9148095635606896161 tw9269777747783053238 tw9271959822288140513 tw9288563165754356385 tw9321752185033338673 tw9329970332295879903 tw9363186440153579631 tw9386610902802288873 tw9423129563677908015 tw9430348556814758248 tw9439058613326736090 tw9484396835317206870 tw9519591397165498957 tw9535952798679503909 tw9589629795242665124 tw9612742948560359056 tw963404946203703153 tw9634129197603219571 tw9639362574360658101 tw9749260973612445342 tw9771032618784375070 tw9812042926430446147 tw9817702778476844283 tw9824742996789489327 tw9851379254033178585 tw9855124959020324602 tw987090217821399949:True)
namespace K34
open PySem L2 G
theorem all_mk{l:PM}{Rd Wy Sv Gw:Addr}(X:K.In h)(G:h.Ns DB mg)(hfa:mg "law" = u8 (.ref fa))
  (U_C:Kl K "Web" C) (U_D:Kl K "Rings" D) (U_Rd:Kl K "Rounds" Rd) (U_Wy:Kl K "Ways" Wy) (U_Sv:Kl K "Sieve" Sv) (U_Gw:Kl K "Growth" Gw) (h_init:Md K C "__init__" "Web.__init__" MJ) (h_size:Md K C "size" "Web.size" ADo) (h_ties:Md K C "ties" "Web.ties" ABm) (h_at:Md K C "at" "Web.at" sAt) (h_amt:Df K "refuse_amounts" AHl) (h_chk:Df K "checked_ties" AGi) (h_pts:Df K "refuse_points" AHL) (h_cell:Df K "_law_at" ACY) (h_mix:Df K "_law_mixed" AGr) (h_graph:Df K "least_graph" K34s.Lj) (h_reach:Df K "reached_knots" K34s.RV) (h_in:Df K "row_in_places" K34s.sIn) (h_sets:Df K "sets_of" K34s.Yi) (h_has:Df K "has_set" K34s.AHD) (h_knotof:Df K "knot_of" K34s.Es) (h_amts:Df K "refuse_amount" K34s.ADL) (h_below:Df K "is_set_below" K34s.Il) (h_sieve:Df K "sieve_of" K34s.Tc) (h_low:Df K "refuse_lower" K34s.AHm) (h_least:Df K "least_sieve" K34s.Xj) (h_grown:Df K "grown" Xz) (h_behp:Df K "points_behind" Kf) (h_tied:Df K "strands_tied" ABt) (h_reord:Df K "reordered" RM) (h_rows:Df K "_law_rows" Qu) (h_webl:Df K "_law_web" ABs) (h_turn:Df K "_law_turn" ABf) (h_byn:Df K "_law_by_names" AEv) (h_same:Df K "_law_same" AEQ) (h_made:Df K "_law_is_made" ABY) (h_alike:Df K "_law_alike" Mt) (h_law:Df K "law" ACi) (h_taken:Md K D "taken" "Strands.taken" Lx) (h_passed:Md K D "passed" "Strands.passed" Gs) (h_ful:Md K D "fulfilled" "Strands.fulfilled" ADQ) (h_left:Md K D "left" "Rule.left" Vd) (h_stay:Md K D "may_stay" "Strands.may_stay" Za) (h_closed:Md K D "closed" "Strands.closed" Fi) (h_wtaken:Md K Wy "taken" "Strands.taken" Lx) (h_wpassed:Md K Wy "passed" "Strands.passed" Gs) (h_wful:Md K Wy "fulfilled" "Strands.fulfilled" ADQ) (h_wleft:Md K Wy "left" "Rule.left" Vd) (h_wstay:Md K Wy "may_stay" "Strands.may_stay" Za) (h_wclosed:Md K Wy "closed" "Strands.closed" Fi) (h_otaken:Md K Rd "taken" "Strands.taken" Lx) (h_opassed:Md K Rd "passed" "Strands.passed" Gs) (h_oful:Md K Rd "fulfilled" "Strands.fulfilled" ADQ) (h_oleft:Md K Rd "left" "Rule.left" Vd) (h_ostay:Md K Rd "may_stay" "Rounds.may_stay" WQ) (h_oclosed:Md K Rd "closed" "Strands.closed" Fi) (h_begun:Md K D "begun" "Strands.begun" Rp) (h_obegun:Md K Rd "begun" "Strands.begun" Rp) (h_wbegun:Md K Wy "begun" "Ways.begun" TF) (h_wref:Md K Wy "refuse_web" "Ways.refuse_web" RL) (h_winit:Md K Wy "__init__" "Ways.__init__" Ws) (h_sinit:Md K Sv "__init__" "Sieve.__init__" K34s.MJ) (h_knots:Md K Sv "knots" "Sieve.knots" K34s.Xo) (h_stop:Md K Sv "top" "Sieve.top" K34s.AGt) (h_smany:Md K Sv "many" "Sieve.many" K34s.ADl) (h_ginit:Md K Gw "__init__" "Growth.__init__" RZ) (h_knotat:Md K Gw "knot_at" "Growth.knot_at" Lb) (h_past:Md K Gw "past_points" "Growth.past_points" ABv) (N_C:Na K C ["amount","joints"]) (N_Sv:Na K Sv ["amount","rows","head"]) (N_Wy:Na K Wy ["ends"]) (N_Gw:Na K Gw ["web","rule","amount","behind","rows","known"]) (N_N:Nn K ["len","range","int","max","min","sorted","tuple","list","bool","enumerate","isinstance","all","set","reversed"]) {t0:Tok} (v0:G8 K DB "MOST_POINTS" = u8 (u8 (.int 10 t0))) {t1:Tok} (v1:G8 K DB "MOST_TIES_webs" = u8 (u8 (.int 12 t1))) {t2:Tok} (v2:G8 K DB "MOST_TIES_making" = u8 (u8 (.int 12 t2))) (qJ:C2 K (.ref D) "__init__" = u8 (u8 (.builtin "object.__init__"))) (oH:C2 K (.ref Rd) "__init__" = u8 (u8 (.builtin "object.__init__"))){odd:Option Addr}{ndd:Nat}{sld:Array vS} (y_done:G8 K DB "DONE" = u8 (u8 (.ref da))) (j7:K.lookup da=u8 ⟨.type "tuple",odd,.seq #[] ndd,sld⟩) :
  ∃fd:BA,(∀(s:AA) (v:Au),QY s fd ⟨[v],[]⟩ [("_law_script",v)])/\∀base:Heap,K.In base->base.Ns DB mg->FnOk l.prog w K mg base CX0 20 fa fd ["_law_script"] (Tg K):=by
 obtain⟨_,_,j8,cM,aN⟩:=h_init.get (ps:=["self","many","ties"]) (bn3 (by intros;rfl));obtain⟨_,_,j9,aB,m_size⟩:=h_size.get (ps:=["self"]) (bn1 (by intros;rfl));obtain⟨_,_,kh,au,aA⟩:=h_ties.get (ps:=["self"]) (bn1 (by intros;rfl));obtain⟨_,_,qK,qL,qM⟩:=h_at.get (ps:=["self","point"]) (bn2 (by intros;rfl));obtain⟨_,_,oJ,oK,oM,oN⟩:=h_amt.get X G (ps:=["points","ties"]) (bn2 (by intros;rfl));obtain⟨_,_,oO,oR,oU,oW⟩:=h_chk.get X G (ps:=["many","ties"]) (bn2 (by intros;rfl));obtain⟨_,_,oX,oY,oZ,pA⟩:=h_pts.get X G (ps:=["many","tie"]) (bn2 (by intros;rfl));obtain⟨_,_,kj,kE,kI,kJ⟩:=h_cell.get X G (ps:=["_law_script","_law_k"]) (bn2 (by intros;rfl));obtain⟨_,_,pC,cG,cH,cI⟩:=h_mix.get X G (ps:=["_law_cell"]) (bn1 (by intros;rfl));obtain⟨_,_,gU,aC,aD,aF⟩:=h_graph.get X G (ps:=["n","rows","top"]) (bn3 (by intros;rfl));obtain⟨_,_,gW,gY,gZ,g8⟩:=h_reach.get X G (ps:=["rows","top"]) (bn2 (by intros;rfl));obtain⟨_,_,qN,qO,qP,k_in⟩:=h_in.get X G (ps:=["places","row"]) (bn2 (by intros;rfl));obtain⟨_,_,kO,cN,cP,cQ⟩:=h_sets.get X G (ps:=["sieve"]) (bn1 (by intros;rfl));obtain⟨_,_,pD,pF,pG,pH⟩:=h_has.get X G (ps:=["sieve","some"]) (bn2 (by intros;rfl));obtain⟨_,_,dU,bx,bC,bD⟩:=h_knotof.get X G (ps:=["rows","sets"]) (bn2 (by intros;rfl));obtain⟨_,_,kW,cR,cT,cU⟩:=h_amts.get X G (ps:=["n"]) (bn1 (by intros;rfl));obtain⟨_,_,iu,iw,iC,iD⟩:=h_below.get X G (ps:=["n","some"]) (bn2 (by intros;rfl));obtain⟨_,_,iG,iH,iI,iJ⟩:=h_sieve.get X G (ps:=["n","sets"]) (bn2 (by intros;rfl));obtain⟨_,_,pI,pJ,pK,pO⟩:=h_low.get X G (ps:=["rows","number","lower"]) (bn3 (by intros;rfl));obtain⟨_,_,iK,iM,iQ,iR⟩:=h_least.get X G (ps:=["n","rows","top"]) (bn3 (by intros;rfl));obtain⟨_,_,aX,iT,iU,iV⟩:=h_grown.get X G (ps:=["web","rule"]) (bn2 (by intros;rfl));obtain⟨_,_,kY,bF,bH,bJ⟩:=h_behp.get X G (ps:=["web","number"]) (bn2 (by intros;rfl));obtain⟨_,_,kZ,aO,aP,aQ⟩:=h_tied.get X G (ps:=["state","tie"]) (bn2 (by intros;rfl));obtain⟨_,_,iW,iY,iZ,jc⟩:=h_reord.get X G (ps:=["web","order"]) (bn2 (by intros;rfl));obtain⟨_,_,lg,lq,lu,lA⟩:=h_rows.get X G (ps:=["_law_many","_law_number"]) (bn2 (by intros;rfl));obtain⟨_,_,lC,lD,lE,lF⟩:=h_webl.get X G (ps:=["_law_cell"]) (bn1 (by intros;rfl));obtain⟨_,_,lG,lH,lJ,lK⟩:=h_turn.get X G (ps:=["_law_many","_law_number"]) (bn2 (by intros;rfl));obtain⟨_,_,pP,pQ,pR,pU⟩:=h_byn.get X G (ps:=["_law_some","_law_order"]) (bn2 (by intros;rfl));obtain⟨_,_,lM,lN,lQ,k_same⟩:=h_same.get X G (ps:=["_law_one","_law_other"]) (bn2 (by intros;rfl));obtain⟨_,_,lR,lU,lV,k_made⟩:=h_made.get X G (ps:=["_law_sieve","_law_many"]) (bn2 (by intros;rfl));obtain⟨_,_,jd,je,jf,jg⟩:=h_alike.get X G (ps:=["_law_web_here","_law_other","_law_rules","_law_order","_law_script"]) (bn5 (by intros;rfl));obtain⟨_,_,jk,jo,jr⟩:=h_taken.get (ps:=["self","web","state","number"]) (bn4 (by intros;rfl));obtain⟨_,_,dX,dY,dZ⟩:=h_passed.get (ps:=["self","web","state","point"]) (bn4 (by intros;rfl));obtain⟨_,_,pW,pX,pY⟩:=h_ful.get (ps:=["self","web","state"]) (bn3 (by intros;rfl));obtain⟨_,_,lW,lX,lY⟩:=h_left.get (ps:=["self","web","state","number"]) (bn4 (by intros;rfl));obtain⟨_,_,lZ,cV,cW⟩:=h_stay.get (ps:=["self","state","point"]) (bn3 (by intros;rfl));obtain⟨_,_,d9,eF,eG⟩:=h_closed.get (ps:=["self","state","tie"]) (bn3 (by intros;rfl));obtain⟨_,_,eN,eU,eV⟩:=h_wtaken.get (ps:=["self","web","state","number"]) (bn4 (by intros;rfl));obtain⟨_,_,cX,cY,cZ⟩:=h_wpassed.get (ps:=["self","web","state","point"]) (bn4 (by intros;rfl));obtain⟨_,_,mj,mq,mC⟩:=h_wful.get (ps:=["self","web","state"]) (bn3 (by intros;rfl));obtain⟨_,_,jt,ju,jx⟩:=h_wleft.get (ps:=["self","web","state","number"]) (bn4 (by intros;rfl));obtain⟨_,_,jy,bZ,cg⟩:=h_wstay.get (ps:=["self","state","point"]) (bn3 (by intros;rfl));obtain⟨_,_,dh,dj,dB⟩:=h_wclosed.get (ps:=["self","state","tie"]) (bn3 (by intros;rfl));obtain⟨_,_,fj,fD,fJ⟩:=h_otaken.get (ps:=["self","web","state","number"]) (bn4 (by intros;rfl));obtain⟨_,_,dD,dF,dG⟩:=h_opassed.get (ps:=["self","web","state","point"]) (bn4 (by intros;rfl));obtain⟨_,_,mD,mF,mH⟩:=h_oful.get (ps:=["self","web","state"]) (bn3 (by intros;rfl));obtain⟨_,_,jA,jB,jC⟩:=h_oleft.get (ps:=["self","web","state","number"]) (bn4 (by intros;rfl));obtain⟨_,_,jD,cj,cu⟩:=h_ostay.get (ps:=["self","state","point"]) (bn3 (by intros;rfl));obtain⟨_,_,dH,dI,dJ⟩:=h_oclosed.get (ps:=["self","state","tie"]) (bn3 (by intros;rfl));obtain⟨_,_,jE,jF,jG⟩:=h_begun.get (ps:=["self","web"]) (bn2 (by intros;rfl));obtain⟨_,_,fQ,fW,fY⟩:=h_obegun.get (ps:=["self","web"]) (bn2 (by intros;rfl));obtain⟨_,_,fZ,f9,gk⟩:=h_wbegun.get (ps:=["self","web"]) (bn2 (by intros;rfl));obtain⟨_,_,mJ,mO,mQ⟩:=h_wref.get (ps:=["self","web"]) (bn2 (by intros;rfl));obtain⟨_,_,jH,jJ,cA⟩:=h_winit.get (ps:=["self","a","b"]) (bn3 (by intros;rfl));obtain⟨_,_,jK,jL,cB⟩:=h_sinit.get (ps:=["self","n","rows","head"]) (bn4 (by intros;rfl));obtain⟨_,_,jM,aJ,aK⟩:=h_knots.get (ps:=["self"]) (bn1 (by intros;rfl));obtain⟨_,_,mV,aR,aU⟩:=h_stop.get (ps:=["self"]) (bn1 (by intros;rfl));obtain⟨_,_,jN,jO,jP⟩:=h_smany.get (ps:=["self"]) (bn1 (by intros;rfl));obtain⟨_,_,aY,aZ,aq⟩:=h_ginit.get (ps:=["self","web","rule"]) (bn3 (by intros;rfl));obtain⟨_,_,aM,ak,ao⟩:=h_knotat.get (ps:=["self","number","reached"]) (bn3 (by intros;rfl));obtain⟨_,_,bO,bQ,bV⟩:=h_past.get (ps:=["self","number","reached"]) (bn3 (by intros;rfl));obtain⟨n0,n1,_⟩:=N_C;obtain⟨gn,mW,mX,_⟩:=N_Sv;obtain⟨bW,_⟩:=N_Wy;obtain⟨pZ,mY,gq,gw,mZ,jQ,_⟩:=N_Gw;obtain⟨z0,z1,z2,z3,z4,z5,z6,z7,z8,z9,z10,bf,p7,cJ,_⟩:=N_N;obtain⟨_,_,_,_,_,_,_,_,_,_,p8,qd,qe,qj⟩:=h_law;have e:=hfa.symm.trans (EV X G p8);cases e;have qm:=Np (st:=ACi) qd qe qj;have law_all:∀base:Heap,FnOk l.prog w K mg base CX0 20 _ _ ["_law_script"] (Tg K):=λbase=>by
  have T:Txt K mg C:=⟨U_C.c,n0,n1,EV X G U_C.y,⟨_,EV X G v0⟩,⟨_,EV X G v1⟩,BN X G z0,BN X G z1,BN X G z2,BN X G z3,BN X G z4,BN X G z5,BN X G z6,BN X G z7,BN X G z8,BN X G z9,BN X G z10⟩;have qt:=AFL (P:=l.prog) (w:=w) (base:=base) kj T;have gA:=AGx (P:=l.prog) (w:=w) (mg:=mg) (base:=base) pC;have qQ:=Xn (P:=l.prog) (w:=w) (base:=base) oJ T;have qR:=AHB (P:=l.prog) (w:=w) (mg:=mg) (base:=base) oX;have qT:=AHG oO T ⟨qR,oY,pA,oZ⟩;have gM:=JC j8 T ⟨qQ,oK,oN,oM⟩ ⟨qT,oR,oW,oU⟩;have aL:=AEq (P:=l.prog) (w:=w) (base:=base) j9 T;have aG:=AEh (P:=l.prog) (w:=w) (base:=base) kh T;have rA:=AHu (P:=l.prog) (w:=w) (base:=base) qK T;have TS:K34s.Txt K mg Sv:=⟨U_Sv.c,gn,mW,mX,EV X G U_Sv.y,⟨_,EV X G v2⟩,BN X G z0,BN X G z1,BN X G z2,BN X G z5,BN X G p7,BN X G z6,BN X G z7,BN X G z8,BN X G z9,BN X G bf,BN X G z10,BN X G z4,BN X G cJ⟩;have Nd:Dn K mg da:=⟨EV X G y_done,λH=>.inr ⟨_,#[],ndd,j7,ξ,ξ,Bz _,.nil⟩⟩;have O:Gro K mg Gw:=⟨U_Gw.c,EV X G U_Gw.y,pZ,mY,gq,gw,mZ,jQ⟩;have m5:=K34s.JC (P:=l.prog) (w:=w) (base:=base) jK TS;have aV:=K34s.ACI (P:=l.prog) (w:=w) (base:=base) jM TS;have bw:=K34s.AHr (P:=l.prog) (w:=w) (base:=base) mV TS;have m8:=K34s.AEj (P:=l.prog) (w:=w) (base:=base) jN TS;have rB:=K34s.AIc (P:=l.prog) (w:=w) (mg:=mg) (base:=base) qN;have nq:=K34s.ADS (P:=l.prog) (w:=w) (base:=base) gW TS;have aH:=K34s.ACQ gU TS ⟨U_Sv.mk_,cB.at_,cB.fn,U_Sv.kp⟩ ⟨nq,gY,g8,gZ⟩ ⟨rB,qO,k_in,qP⟩ m5 jL;have gO:=K34s.AGD kO TS aV aJ aK bw aR aU;have qU:=K34s.AHp pD TS aV aJ aK bw aR aU;have jR:=K34s.Ot (P:=l.prog) (w:=w) (base:=base) dU TS bx bD bC;have gP:=K34s.Xn (P:=l.prog) (w:=w) (base:=base) kW TS;have nu:=K34s.ACd (P:=l.prog) (w:=w) (base:=base) iu TS;have nF:=K34s.ACm iG TS ⟨gP,cR,cU,cT⟩ ⟨nu,iw,iD,iC⟩ ⟨(jR 13),bx,bD,bC⟩ ⟨aH,aC,aF,aD⟩;have qW:=K34s.AHS (P:=l.prog) (w:=w) (mg:=mg) (base:=base) pI;have nG:=K34s.ADj iK TS ⟨gP,cR,cU,cT⟩ ⟨qW,pJ,pO,pK⟩ ⟨aH,aC,aF,aD⟩;have cL:=AFf kY T aL aB m_size rA qL qM;have aW:=AFr (P:=l.prog) (w:=w) (base:=base) kZ T;have cD:Cls K D:=U_D.c;have gQ:=ZF (P:=l.prog) (w:=w) (mg:=mg) (base:=base) lZ;have jT:=λκ=>Jm (rd:=false) (hf:=noK κ) d9 T cD (BN X G bf) Nd gQ cV cW;have nQ:=λκ=>Mu (hf:=noK κ) jk T cD Nd (jT κ) eF eG aG au aA ⟨aW,aO,aQ,aP⟩;have jU:=λκ=>Jd (rd:=false) (hf:=noK κ) dX T cD Nd gQ cV cW;have qX:=λκ=>WL (rd:=false) (hf:=noK κ) (P:=l.prog) (w:=w) (base:=base) pW Nd;have qu:=RQ (P:=l.prog) (w:=w) (mg:=mg) (base:=base) lW;have nZ:=λκ=>Lz (u:=uK (false,κ)) (D:=D) aY T O aG au aA ⟨cL,bF,bJ,bH⟩;have qw:=λκ=>RX (C:=C) bO cD O (jU κ) dY dZ;have jV:=λκ=>HB aM T cD O (qw κ) bQ bV qu lX lY (nQ κ) jo jr (qX κ) pX pY ak ao;have nw:Cls K Wy:=U_Wy.c;have dM:=ZF (P:=l.prog) (w:=w) (mg:=mg) (base:=base) jy;have gC:=λκ=>Jm (rd:=false) (hf:=noK κ) dh T nw (BN X G bf) Nd dM bZ cg;have jW:=λκ=>Mu (hf:=noK κ) eN T nw Nd (gC κ) dj dB aG au aA ⟨aW,aO,aQ,aP⟩;have gF:=λκ=>Jd (rd:=false) (hf:=noK κ) cX T nw Nd dM bZ cg;have qy:=λκ=>WL (rd:=false) (hf:=noK κ) (P:=l.prog) (w:=w) (base:=base) mj Nd;have n6:=RQ (P:=l.prog) (w:=w) (mg:=mg) (base:=base) jt;have jX:=λκ=>Lz (u:=uK (false,κ)) (D:=Wy) aY T O aG au aA ⟨cL,bF,bJ,bH⟩;have oh:=λκ=>RX (C:=C) bO nw O (gF κ) cY cZ;have gG:=λκ=>HB aM T nw O (oh κ) bQ bV n6 ju jx (jW κ) eU eV (qy κ) mq mC ak ao;have sZ:Cls K Rd:=U_Rd.c;have dN:=ACk (P:=l.prog) (w:=w) (mg:=mg) (base:=base) jD;have gH:=λκ=>Jm (rd:=true) (hf:=noK κ) dH T sZ (BN X G bf) Nd dN cj cu;have jY:=λκ=>Mu (hf:=noK κ) fj T sZ Nd (gH κ) dI dJ aG au aA ⟨aW,aO,aQ,aP⟩;have gJ:=λκ=>Jd (rd:=true) (hf:=noK κ) dD T sZ Nd dN cj cu;have qC:=λκ=>WL (rd:=true) (hf:=noK κ) (P:=l.prog) (w:=w) (base:=base) mD Nd;have ou:=RQ (P:=l.prog) (w:=w) (mg:=mg) (base:=base) jA;have jZ:=λκ=>Lz (u:=uK (true,κ)) (D:=Rd) aY T O aG au aA ⟨cL,bF,bJ,bH⟩;have oA:=λκ=>RX (C:=C) bO sZ O (gJ κ) dF dG;have gK:=λκ=>HB aM T sZ O (oA κ) bQ bV ou jB jC (jY κ) fD fJ (qC κ) mF mH ak ao;have oE:=Vg (D:=D) jE T aL aB m_size;have j4:=Vg (D:=Rd) fQ T aL aB m_size;have qY:=AEp mJ T nw bW aL aB m_size;have j6:=ABN fZ T nw bW qY mO mQ aL aB m_size ⟨aW,aO,aQ,aP⟩;have oF:=ADy (P:=l.prog) (w:=w) (mg:=mg) (base:=base) jH nw bW;have dR:=Nk (κ:=(false,u9)) aX cD O ⟨U_Gw.mk_,aq.at_,aq.fn,U_Gw.kp⟩ (nZ u9) aZ (jV u9) ak ao oE jF jG ⟨aH,aC,aF,aD⟩;have cC:=Nk (κ:=(true,u9)) aX sZ O ⟨U_Gw.mk_,aq.at_,aq.fn,U_Gw.kp⟩ (jZ u9) aZ (gK u9) ak ao j4 fW fY ⟨aH,aC,aF,aD⟩;have cF:=λx=>Nk (κ:=(false,u8 x)) aX nw O ⟨U_Gw.mk_,aq.at_,aq.fn,U_Gw.kp⟩ (jX (u8 x)) aZ (gG (u8 x)) ak ao (j6 x) f9 gk ⟨aH,aC,aF,aD⟩;have qD:=ADg lg T ⟨gA,cG,cI,cH⟩;have qF:=AFH lC ⟨gA,cG,cI,cH⟩ ⟨qD,lq,lA,lu⟩;have oG:=ACw iW T aL aB m_size aG au aA ⟨U_C.mk_,aN.at_,aN.fn,U_C.kp⟩ gM cM;have qG:=AGI lG T ⟨gA,cG,cI,cH⟩;have qZ:=AHT (P:=l.prog) (w:=w) (base:=base) pP T;have qH:=AFw lM TS aV aJ aK bw aR aU m8 jO jP;have qI:=AEg lR TS aV aJ aK bw aR aU ⟨gO,cN,cQ,cP⟩ ⟨qH,lN,k_same,lQ⟩ ⟨nF,iH,iJ,iI⟩ ⟨nG,iM,iR,iQ⟩;have bY:=λ{κ κ'}{D1 D2} (g1:FnOk l.prog w K mg base CX0 18 _ _ ["web","rule"] (JV κ K C D1 Sv)) (g2:FnOk l.prog w K mg base CX0 18 _ _ ["web","rule"] (JV κ' K C D2 Sv))=>ADh jd T g1 g2 iT iV iU ⟨qI,lU,k_made,lV⟩ ⟨qZ,pQ,pU,pR⟩ ⟨gO,cN,cQ,cP⟩ ⟨qU,pF,pH,pG⟩;exact AHn qm T ⟨U_C.mk_,aN.at_,aN.fn,U_C.kp⟩ ⟨U_Wy.mk_,cA.at_,cA.fn,U_Wy.kp⟩ (EV X G U_Wy.y) U_D.mk_ qJ U_D.kp (EV X G U_D.y) U_Rd.mk_ oH U_Rd.kp (EV X G U_Rd.y) ⟨qt,kE,kJ,kI⟩ ⟨qF,lD,lF,lE⟩ ⟨qG,lH,lK,lJ⟩ gM cM oF jJ ⟨oG,iY,jc,iZ⟩ (λx=>bY (cF x.1) (cF x.2)) (λi=>match i with| false=>bY dR dR| true=>bY cC cC) je jg jf
 exact⟨_,λs v=>.of_eq rfl,λbase _ _=>law_all base⟩
theorem walk{l:PM}{q:AL}{d:DefRec}{K:YU->As}(hn:l.most=u8 63)(tY:d.params.defaults=[])
  (hY:∀(w:AR) (h:Heap),YP w h->(K w.params).In h)
  (F:∀(w:AR) (mg:vM) (fa:Addr) (h:Heap),(K w.params).In h->h.Ns DB mg->mg d.name=u8 (.ref fa) ->
   ∃fd:BA,(∀(s:AA) (u:Au),QY s fd ⟨[u],[]⟩ [("_law_script",u)])/\∀base:Heap,(K w.params).In base->base.Ns DB mg->FnOk l.prog w (K w.params) mg base CX0 20 fa fd ["_law_script"] (Tg (K w.params))) :
  W3 q eJ XP YP l.row.toRowW d [] (λf vs=>VQ f vs) :=
 L2.AEo (n:=63) (k:=20) (x:="_law_script") (CX:=λ_=>CX0) (sp:=λw=>Tg (K w.params)) hn ζ tY ⟨ξ,ζ,ζ,ξ⟩ hY F (λ_ _ a ns hl _ hS=>⟨a,ns,ξ,hS,hl,λ_=>rfl⟩) λ_ _ _ _ _ z=>z
end K34
open PySem PySem.W PyProof.Rows
set_option maxRecDepth 100000 in
set_option maxHeartbeats 0 in
theorem PySem.Challenge.cw_frontways_k34_whole_in_any_order_holds : PySem.Challenge.rw_frontways_k34_whole_in_any_order.Holds := by
 w_on;o_law;k_head;(case hw=>w_witness2)
 k_fill
 refine K34.walk (l:=PySem.Challenge.rw_frontways_k34_whole_in_any_order) rfl rfl (λw h Y=>PySem.W.kIn_of Y) ?F
 case F =>
  intro w mg fa h KX G hmg;apply K34.all_mk KX G hmg
  all_goals first
   | (refine' L2.Df.of ?a ?l ?c ?k;(case a=>k_is);(case l=>k_is);(case c=>k_is);(case k=>k_is))
   | (refine' L2.Md.of ?a ?i ?l ?c ?k;(case a=>k_is);(case i=>k_is);(case l=>k_is);(case c=>k_is);(case k=>k_is))
   | (refine' L2.Kl.of ?y ?a ?b ?c ?d ?m ?k;(case y=>k_is);(case a=>k_is);(case b=>k_is);(case c=>k_is);(case d=>k_is);(case m=>k_is);(case k=>k_is))
   | ((first| refine L2.Nn.one ?_ ?_| refine L2.Na.one ?_ ?_);(repeat' first| exact True.intro| refine L2.Nn.one ?_ ?_| refine L2.Na.one ?_ ?_);all_goals k_is)
   | k_is
