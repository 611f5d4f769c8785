import PyProof.Rows.All
import Wide.All
import OpenK.AllK
import Wide.FinOn
import PyProof.EqAt
import PyProof.EqKinds
import PyProof.NeKinds
import PyProof.TupleCall
import KE.KIsAll
import KE.KIsNot
import KE.RegKIsAll
import OpenK.KOwn
import PyProof.NsDelKeeps
import PyProof.ReprRoads
import PyProof.ExcArgsOwn
import PyProof.IsiH_list
import Lean
import PyProof.StationsW
import PyProof.Rows.Catch
import OpenK.KMake
import PyProof.DictIter
import KE.KDictList
import PyProof.DictItems
import PyProof.DictWalks
import PyProof.TupleOfSeq
import PySem.SetTable
import PyProof.SetKind
import PyProof.IsRules
import PyProof.Rows.SetFrom
import PyProof.FactsAll.set
import KE.KSortTup
import PyProof.Meets
import PyProof.AutoListH
import PyProof.ListMulRoad
import PyProof.FactsAll.tuple_2
import Wide.Seal
import PyProof.Rows.Range3
import PyProof.CallType
import PyProof.EnumMake
import PyProof.Rows.CallKwBuiltin
import KE.LcSums
import KE.KRevIter
import PyProof.Rows.SortLt
import PySem.Challenge.RW_frontways_k32_whole_rings
set_option linter.all false
set_option autoImplicit false
set_option Elab.async false
set_option maxRecDepth 100000
set_option maxHeartbeats 4000000
set_option maxHeartbeats 8000000
set_option tactic.hygienic false
universe u
noncomputable section
set_option compiler.extract_closed false
theorem zA0(h:True:=by rfl):True:=h
theorem zA1(h:True:=by decide):True:=h
theorem zA2(h:True:=by intro _;rfl):True:=h
open Option renaming some->uA,none->uB
theorem uC{c:Prop}{h:Decidable c}(n:¬c){α:Sort u}{t e:α}:ite c t e=e:=if_neg n
theorem uD{c:Prop}{h:Decidable c}(n:c){α:Sort u}{t e:α}:ite c t e=t:=if_pos n
theorem uE{p:Prop}[Decidable p](h:p):decide p=true:=decide_eq_true h
theorem uF{p:Prop}[Decidable p](h:¬p):decide p=false:=decide_eq_false h
theorem uG{p:Prop}[Decidable p](h:decide p=true):p:=of_decide_eq_true h
theorem uH{a b:Prop}(h:a)(k:¬a):b:=(k h).elim
abbrev uI:=List Int
abbrev uJ:=List uI
abbrev uL:=List Nat
abbrev uN:=Bool->PySem.Shared->Prop
abbrev uO:=Unit->PySem.Shared->Prop
abbrev uQ:=List (PySem.Addr×PySem.Obj)
abbrev uU:=List PySem.Str
abbrev uV:=List PySem.Expr
abbrev uX:=Option Nat
abbrev uY:=List PySem.Addr
open PySem.W renaming Frag->Ap,mg_none_of->BO,findIn->CS,keepIn->DL,emptyDict->EL,fnOf->Fh,mg_of->FA,instObj->FK,nsIn->Ha,makesIn->Ix,codeIn->IP,kitOne->KW,plainGet->K4,hasDictIn->LX,isFn->MR,plainGet_of->Nc,lookIn->NC,callWith_K->NS,plainOver->Oy,takerIn->Pm,OpenLaw->Ps,cellsFrom_some->PY,methodCall_KW->QE,looks_findIn->Q6,callWith_K0->Sb,make_core->Ts,specialIn->TN,handedIn->UB,InitBack->UC,makes_of->UD,takesIn->VT,WalkO->WH,mroIn->WZ,kas_item->YR
open PySem renaming Value->As,wpAny_bind->Au,Shared->AA,wpAny_pure->AC,Program->AL,model->AM,World->AQ,FuncData->Bn,Paired->BI,Around->BV,boot_len->Cn,starEach->CI,cLine->C0,SetTable->Da,mainGlobals->DD,wpAny_newObj_type->DS,wpAny_call_entry->D1,wpAny_holding->EA,sysModules->EC,compareOp->ED,codeAny_builtin->EE,wpAny_mono->EK,wpAny_setState_of->FH,codeAny_mono->FU,wpAny_forIn_list->FY,wpAny_Call_Name_kw->F4,Scope->F9,sizeLine_eq->Go,binaryOp->G1,wpAny_truthy_bool->Hc,wpAny_typeNameOfWhole_keyiter->Hd,rawInt->Hm,mem_of_lookup->Hn,wpAny_passesOwn->Iq,wpAny_specialOf->Iy,behindInMarks->IB,wpAny_rule->IJ,wpAny_setField->IQ,bootBuiltins->IR,NameKind->IS,wpAny_typeNameOf_keyiter->IU,wpAny_isInstance->IX,plainId_quiet->JY,atKey->J4,backTo->KF,wpAny_seqItems->KI,firstArgMember->KM,assignEach->K3,wpAny_askSetting->K6,sliceBounds->Lc,wpAny_ite_split->Lv,wpAny_pyIter_tuple->LF,tupleKind_room_in1->LJ,intKind->LN,call_meets->LO,wpAny_dictEntries->L6,pyNext->L8,wpAny_of_eq->Me,attributeBase->Mo,swapsWith->MC,isSubtype_tuple_tuple->MH,wpAny_execs_nil->MO,letOwnedTupleGo->MQ,wpAny_typeOf->MW,tupleKeyHash->M1,holding->NB,wpAny_runValue->NF,tupleKind->NN,DictEntry->NV,wpAny_tupleItemsOf->N1,wpAny_newList->N5,wpAny_attempt->N7,setSearchFrom->N9,wpAny_pyIter_list->Op,foldedSetIterable->Os,wpAny_pyIter_enum->OA,wpAny_pyIter_slot->OB,getItem->OO,callerA->OP,valueAt->OQ,wpAny_execs_cons->OU,concat_meets->OW,noFill_tuple_add->OX,wpAny_comprehension_free->OY,wpAny_dictEpoch->Pt,wpAny_updateSeq->PD,wpAny_pyNext_range_end->PM,wpAny_pyIter_rangeiter->PQ,keywordEach->PV,subscripted->P3,wpAny_field->P5,wpAny_Assign_Subscript->P7,wpAny_isTrue_Compare1->Qb,pyIter->Qr,BindsTo->QA,collect->QI,wpAny_fieldsOf->QO,wpAny_isOneOf_keyiter->QP,wpAny_eqIsQuiet_tuple->QU,builtinLookup_eq_fast->QY,isSubtype_type->Q0,wpAny_load->Q5,wpAny_call->Q7,bindL->Q8,bindC->Q9,isInstance->Rs,codeAny_call_builtin->RC,reduceHash->RE,wpAny_standAt->RR,rangeSize_one->RU,seq_tuple_add->RY,wpAny_handled->R6,wpAny_setEntries_of->Sf,Within->Sz,assign->SC,wpAny_pyIter_range->SD,getMethod->SE,Result->SF,IsEnum->SK,wpAny_getItem_heap->SR,wpAny_setItem_heap->SS,call_meetsIn->SU,wpAny_pyHash_tuple->SV,wpAny_eqBool_tuple->SW,eqIsQuiet->SY,pickOrder->S5,CmpOp->Tb,storedH->Th,wpAny_assign_Name->To,slot_list_getitem->Tu,eqIsQuiet_byValue->TB,ofAClassStatement->TC,searchCouldBeSeen->TD,wpAny_storeSet_of->TH,seqIndex_of->TU,wpAny_throw->TZ,wpAny_pyHash_int->T8,wpAny_eqBool_int->T9,GenState->Uf,bindArgs->UE,backToKw->UF,beq_builtin_none->UP,builtinsNs->UV,isTrue->UX,wpAny_Name->UY,typeIs_int->U1,call->U4,IsTupleKey->U6,wpAny_ret_mkInt->U7,codeAny_of_tree->VC,typeLookup_type->VI,setsByText->VM,wpAny_Compare1->VW,standAt->VX,setItem->VY,recursionLimit->V1,Keyword->V2,isSubtype_stop->V7,carriedByValue->V9,small_one->Wp,cellsFrom->WA,Model->W0,data2->XA,Params->X6,compEnvC->X7,setRelay->Ya,entryFor->YA,argsOk->YE
open List renaming length_map->AB,getD_eq_getElem?_getD->AD,mem_cons_self->AG,getElem?_eq_some_iff->AH,getElem?_eq_getElem->AI,mem_cons_of_mem->AK,getElem?_map->AS,size_toArray->AT,range->AW,mem_of_getElem?->AX,length_append->AZ,mem_map->A1,mem_range->A8,getElem?_append_left->By,mem_singleton->BG,mem_cons->BH,map_append->BM,mem_filter->BQ,length_take->B0,map_cons->B4,append_nil->Co,length_eq_zero_iff->Cs,mem_append->Ct,length_range->CB,replicate->CC,getElem?_append_right->CF,mem_append_right->CH,filter_append->CL,take_length->CM,pairwise_iff_getElem->CO,append_assoc->CU,pairwise_map->CY,mem_iff_getElem->C1,filter_cons_of_neg->C3,pairwise_append->C8,length_cons->C9,filter_cons_of_pos->De,length_filter_le->Do,pairwise_cons->Dx,mem_of_mem_erase->DA,nodup_cons->DC,map_eq_nil_iff->DM,not_mem_nil->D5,length_singleton->Eg,getElem?_eq_none->Ev,take_add_one->Ex,lookup_cons->EI,length_erase_of_mem->EN,length_set->ET,mem_append_left->EV,all_eq_true->EW,getElem?_range->E7,getElem_mem->Fn,length->Fu,ext_getElem?->FG,range_succ->FM,replicate_succ->FO,lookup->FS,drop_eq_nil_of_le->FV,mem_iff_getElem?->F6,take_append_drop->F8,getElem?_take_of_lt->G3,find?_cons->G4,mem_erase_of_ne->G5,map_map->G6,reverse_reverse->G9,getElem?_replicate->He,mem_map_of_mem->HH,map_congr_left->HI,reverse_append->HK,filter_cons->HL,nodup_range->HM,mem_reverse->HP,length_pos_of_mem->HU,perm_append_comm->IA,drop_sublist->IF,perm_cons_erase->IM,filterMap_cons->JE,length_pos_iff->JJ,pairwise_singleton->JS,any_cons->JU,length_nil->J2,map_singleton->J3,filter_map->J6,getElem?_set_self->J9,length_eq_one_iff->Kj,take_sublist->Kk,flatten_cons->Kn,getElem_take->Kt,getElem?_inj->Kx,nodup_append->KB,nodup_nil->KP,getElem?_set_ne->K2,length_drop->K5,drop_eq_getElem_cons->LD,map_nil->LI,toArray->LL,Nodup->LP,reverse_cons->LZ,filter_eq_nil_iff->Mn,getElem_map->MA,pairwise_reverse->ML,foldl_cons->MV,mem_of_mem_take->M6,length_eraseIdx->M7,getElem?_of_mem->M8,take_succ_cons->NA,mem_filterMap->NR,getElem_drop->OE,reverse_perm->OF,getLast?_eq_none_iff->OI,getLast?_eq_some_iff->OK,map_set->O8,of_mem_zip->Po,nil_append->Pp,filter_nil->Pw,pairwise_lt_range->P6,take_of_length_le->P9,length_replicate->QH,drop_drop->Q2,take_zero->Q3,getElem_toArray->Rl,mem_of_mem_drop->RH,map_take->R7,map_drop->R8,length_reverse->Sc,filter_sublist->Se,perm_iff_count->Sj,zip_cons_cons->SH,getElem?_drop->S4,extract->S6,all_map->S7,mapM_toArray->TJ,getElem_inj->UA,cons_append->UN,foldl->U2,take->WC,all_cons->WF,map_id'->YO
open PyProof.Rows renaming Keyed->AE,wpS_bind->AO,arrOf->AR,wpS_pure->A2,SortSt->BD,pendingOf->BN,boot_tuple->Db,wpS_forRange->DT,elem'->DZ,callWith_type1->Ee,wpS_mono->EJ,SortKind->ER,boot_list->E6,seqObj->E9,IntsAre->F5,failedOf->G7,wpS_modify->IN,boot_sorted->IY,wpS_get->KU,boot_isinstance->K0,AllBare->MB,callWith_builtin1->MS,wpS_lift->NI,envOfC->NU,listUpdate_at->N6,reverseSlice'->On,listItems_at->OZ,boot_range->Pl,ltAt'->PF,subscriptTail_builtinR->P4,boot_all->Q4,gallopOf->RI,Constant_none->RO,IsTup->Ta,seqEpoch_at->T5,general'->UR,Subscript_->UZ,entry_list_sort->U5,setArr->VQ,keyLt'->VS,wpAny_notIn_heap->VU,boot_enumerate->V4,slot_list_sort->V5,args_list_sort->V6,keyLt'_oneType->We,Call_->W1,boot_max->Y6,boot_min->Y7,boot_int->Y8,lt_int->ZA
open Nat renaming le_refl->AF,zero_le->AY,ne_of_lt->BU,le_trans->BY,lt_of_lt_of_le->CD,le_of_lt->DB,lt_succ_self->DI,lt_or_ge->DJ,lt_of_le_of_lt->EB,add_sub_cancel->EU,lt_irrefl->EX,lt_succ_of_lt->FI,zero_add->G0,pow_le_pow_right->IL,sub_self->IZ,not_lt_zero->J0,le_succ->L9,add_le_add_right->MM,pow_succ->M3,add_zero->M4,mod_lt->M5,eq_of_lt_succ_of_not_lt->NL,lt_trichotomy->OC,le_succ_of_le->OG,le_add_right->OR,le_of_eq->OS,zero_lt_succ->OT,lt_of_lt_of_eq->Sk,lt_of_le_of_ne->So,eq_zero_or_pos->S3,one_le_two_pow->S8,le_of_lt_succ->Tk,add_sub_of_le->Tl,le_of_not_lt->T6,sub_sub_self->T7,succ_ne_self->UK,div_eq_of_lt->UQ,lt_trans->XE,ne_of_gt->XI,mul_comm->X5,succ_pos->X9,not_lt->Y9
open PySem.Heap renaming get?_push_of_some->AJ,get?_push_size->AU,lt_size->Bz,get?_update_self->EM,SameBut->EZ,get?_update_other->E3,size_push->FB,ExtBut->TW
open Option.some renaming inj->AN
open PySem.Paired renaming length->AV,snoc->T4
open PySem.Value renaming ref->A7,none->DE,type->DU,isInt_shape->Hb,bool->K1,isInt->NJ,int->NM,isStrOf->WE,str->ZB
open Array renaming length_toList->A9,getElem?_eq_getElem->Bi,getElem?_toList->Cf,getElem?_eq_some_iff->C7,toList_append->DF,getD->EH,toList_extract->G8,getElem?_eq_none->HR,getD_eq_getD_getElem?->HZ,perm_iff_toList_perm->IE,size_setIfInBounds->Jn,forIn_toList->J5,toList_push->KA,toList_reverse->K7,getElem_mem_toList->O4,eraseIdxIfInBounds->O5,toList_map->O6,toArray_toList->Re,toList_modify->Si,toList->SA,getElem_mem->TK,toList_inj->US,replicate->U8
open Bool renaming false_ne_true->Be,false_eq_true->B3,eq_iff_iff->FL,not_true->FX,and_eq_true->F0,beq_eq_decide_eq->ME,noConfusion->O7,not_eq_true->UT,false_and->VZ,and_false->V3,not_false->V8,and_true->WI,false_or->WO,or_false->WV
open ForInStep renaming done->BS,yield->C4
open Ne renaming symm->Cb
open Int renaming toNat_natCast->Cc,toNat_of_nonneg->DH,emod_lt_of_pos->EG,le_trans->ES,emod_nonneg->Fa,toNat->Ff,le_of_lt->FR,eq_ofNat_of_zero_le->Hk,le_refl->HQ,not_lt->J7,fdiv_eq_ediv_of_nonneg->N4,lt_irrefl->Sa,natCast_nonneg->Sm,zero_add->Sn,mul_one->TR,ofNat_lt->XG
open Classical renaming byContradiction->CA,choose->Fm,propDecidable->FE,choose_spec->F7
open PySem.F renaming plainAttrs_list->C2,slot_list_append->D7,type_list_append->D8,slot_dict_keyiterator_next->FC,slot_tuple_iterator_next->ID,called_set->JA,plain_list_iadd->JO,slot_tuple_hash->JP,slot_tuple_eq->KS,args_tuple_add_2->LH,entry_tuple_add->LW,slot_tuple_add->Mb,slot_tuple_lt->MD,slot_dict_get->MG,args_dict_keyiterator_next_1->MY,entry_dict_keyiterator_next->M9,args_tuple_iterator_next_1->NE,entry_tuple_iterator_next->NX,entry_proto_collect->NY,plain_proto_collect->N0,slot_dict_getitem->OH,slot_list_remove->O9,type_list_remove->Pc,args_tuple_lt_2->Pd,args_dict_get_3->Pe,entry_list_iadd->Pf,entry_tuple_lt->P0,entry_dict_get->P8,slot_dict_len->QQ,slot_set_iter->Q1,slot_dict_iter->UO,slot_int_rmul->U3,plain_set_new->VE
open PySem.PassesOwn renaming never->C5
open PySem.NameKind renaming free->C6,cell->IC
open PySem.Obj renaming mapSeq->DV,data_mapFields->Fk,isFreed_of_fields->KL,cls_mapFields->L4,mapFields->N8,putSet->U9
open PySem.Heap.SameBut renaming update->D9,refl->ZT
open PySem.Around renaming under_plainId->EF,under->OV
open List.Pairwise renaming imp_of_mem->EO,nil->L3,cons->SO,imp->ZU
open PySem.SetTable renaming insertAt->EQ,runEnd->FF,Probe->JI,turns->OL,grown->VA
open False renaming elim->E8
open List.Perm renaming append_left->Fc,refl->LU,swap->LV,append_right->Mm,nodup_iff->Nw,trans->PH,cons->QR
open PySem.Builtin.Range renaming rangeSize->FD,small->Ll,rangeFitsLong->WB
open Sum renaming inl->F3,inr->ON
open Option renaming isSome_iff_exists->G2,map_eq_some_iff->Kb,isSome_map->L5,map_some->MX,isSome_iff_ne_none->OM,getD_none->UH,none->Y4
open PySem.Builtin.List renaming listExtendWith->HV,listTooLong->IT,listLengthHint->N2,listSameRef->O3,listFitsIndex->WG
open PyProof.Rows.F renaming plain_set_update_loop->Ic,entry_set_update_loop->LM
open True renaming intro->IG
open PySem.Builtin.SmallTypes renaming nextOf->IH
open PySem.Calls renaming spliced_cons->J1,call_function_entry->Lm,spliced_nil->LY,callWith_builtin->Mc,Name_function_global->N3,evalArgs_plain->Rc
open PyProof.Rows.SortSt renaming mk'->J8
open PySem.Challenge renaming pw_frontways_k32_whole_rings->Ki
open PySem.Str renaming ofString->KG
open Or renaming inl->K8,inr->NO
open PySem.SetTable.layClean renaming free->K9
open PySem.Builtin.Tuple renaming tupleHashOf->Lu,tupleExact->O0,tupleCompareSizes->UU,tupleItemsOf->WS
open PySem.SeqAt.EqAt renaming int_int->LG,same->MU,none_int->Nl,int_none->No,int_str->Sr,str_int->Su
open PySem.MeetsSeq renaming plain_remove_loop->L7,entry_remove_loop->TL
open Int.ofNat renaming inj->My
open PySem.SeqAt renaming EqAt->MT,in_tupleAt->UI,in_listAt->U0
open PySem.Builtin.Dict_items renaming ownsTuple->NG
open PySem.SetTable.probe renaming go->NH
open PyProof renaming noPylong_small->PU
open PySem.Builtin.Dict renaming showsAll->QN,dictSlotNone->XB
open Prod renaming ext->RF
open List.cons renaming inj->R9
open PySem.Code renaming isFrame->SG,quiet_builtin->SL,frames->Y3
open Eq renaming symm->S9
open PySem.WalksT renaming enumerateD->Tx
open PySem.Builtin renaming sorted->UM
open Array.Perm renaming refl->VO
open PySem.Builtin.Frozenset renaming updateFrom->Wl,newClass->WU,sizeOf->YI
open PySem.SeqAt.RcNeAt renaming lists_lengths->WJ,lists->ZN
open PySem.W.Looks renaming of_pure->WN,ld->X8,here->Zs
open PySem.Shared renaming TypeIs->WP
open PySem.EqNone renaming eq_none_none->W2,eq_none_bool->W3,eq_bool_none->W4,ne_none_none->W7,ne_none_bool->W8,ne_bool_none->W9,eq_none_int->XN,eq_none_str->XO,eq_int_none->XT,eq_str_none->XW,ne_none_int->XY,ne_none_str->XZ,ne_int_none->X0,ne_str_none->X3
open PySem.EqMixed renaming eq_bool_str->W5,eq_str_bool->W6,ne_bool_str->Xs,ne_str_bool->Xt,eq_int_str->XU,eq_str_int->XX,ne_int_str->X1,ne_str_int->X4
open PySem.pickOrder renaming go->Yf
open String.Pos.Raw renaming mk_le_mk->YU
open PySem.CmpOp renaming NotIn->YV,In->ZZ
open PySem.Walks renaming range->YY,list->Zp
open PySem.IsRange renaming new->Y0
open PySem.Moved renaming trans->Y5
open PySem.W.WShape renaming has->Zl
open PySem.Heap.IsSliceOf renaming new->ZE
open PyProof.Rows.IsTup renaming new->ZH
open PySem.W.WData renaming int->ZI
open PySem.Within renaming cons->ZO
open List.Sublist renaming refl->ZY
open PySem.Heap.DictOfH renaming new->Z0
open PySem.Heap.DictOf renaming new->Z3
theorem dl{a b c:Nat}(h0:a<c)(h1:b=c):a<b:=Sk h0 h1.symm
theorem uT{a b c:Nat}:a<c->c<b->a<b:=XE
theorem uM{a b:Nat}:(↑a:Int)=(↑b:Int)->a=b:=Int.ofNat_inj.mp
theorem vg{a b:Nat}  : a<=b+a:=Nat.le_add_left a b
theorem va{a b c:Nat}:a<c->c<=b->a<b:=CD
theorem uW{a b c:Nat}:a+c<b->a<b:=Nat.lt_of_add_right_lt
theorem uR{a b:Nat}:¬b<a->a<=b:=T6
theorem vh{a b c:Nat}(h0:c=a)(h1:c<=b):a<=b:=le_of_eq_of_le h0.symm h1
theorem vP{a b c:Nat}:a<c->c=b->a<b:=Sk
theorem xw{a b c:Nat}:a+(c+1)=b->a<b:=by lia
theorem vi{a b:Nat}:b<=a->¬a<b:=Y9.mpr
theorem vj{a:Nat}  : ¬a<0:=J0 a
theorem u9{a b:Nat}  : a<=a+b:=OR a b
theorem fv{a:Nat}  : (0:Int)<=(↑a:Int):=Sm a
theorem vb{a b c:Nat}(h0:a<b):a<b+c:=Nat.lt_add_right c h0
theorem vo{a b c:Nat}:a<b-c+c->c<=b->a<b:=by lia
theorem vk{a b:Nat}(h0:b=a):a<=b:=OS h0.symm
theorem wA{a b c:Nat}:b<=c->min a b<=c:=by lia
theorem vc{a b c:Nat}:a+c<=b->a<=b:=Nat.le_of_add_right_le
theorem vE{a:Nat}  : a<a+1:=Nat.lt_add_one a
theorem vp{a:Int}  : (0:Int)+a=a:=Sn a
theorem vq{a b:Nat}:a<b->a=b->False:=by lia
theorem ve{a b c:Nat}:a<=c->c<b->a<b:=EB
theorem uP{a b:Nat}:a<b->(↑a:Int)<(↑b:Int):=XG.mpr
theorem xx{a b:Nat}:(↑a:Int)<(↑b:Int)->a<b:=XG.mp
theorem xA{a b c:Nat}:a=c->c<=b->a<=b:=le_of_eq_of_le
theorem vx{a b:Nat}:a<b+1->a<=b:=Tk
theorem vy{a b:Nat}:a<=b->a+(b-a)=b:=Tl
theorem vX{a b:Nat}:a<b->a<=b:=Nat.le_of_succ_le
theorem vt{a b:Nat}  : a-b<=a:=Nat.sub_le a b
theorem wB{a b c d:Nat}:a+(c+b)=d->a+b+c=d:=by lia
theorem vQ{a b:Int}:b<=a->¬a<b:=Int.not_lt_of_ge
theorem vR{a b:Nat}:a<b+1->¬a=b->a<b:=by lia
theorem vF{a b c d:Nat}:a+(c+b)<d->a+b+c<d:=by lia
theorem vw{a:Int}{b:Nat}(h0:(0:Int)<=a)(h1:a<(↑b:Int)):Ff a<b:=(Int.toNat_lt h0).mpr h1
theorem vA{a b c:Nat}:a+b+c=a+(c+b):=by lia
theorem vd{a b c:Nat}:a<=b->a<=b+c:=Nat.le_add_right_of_le
theorem wC{a b:Int}:a<b->a<=b:=FR
theorem vf{a b:Nat}:1<=a->a<=b->a-1<b:=Nat.sub_one_lt_of_le
theorem vn{a:Nat}:¬a<=1->2<=a:=by lia
theorem wD{a:Nat}  : ¬(↑a:Int)<(0:Int):=Int.not_ofNat_neg a
theorem vB{a b:Nat}:a=b->a<=b:=by lia
theorem vY{a:Nat}:a<2->a<=1:=Tk
theorem vG{a b:Nat}:a<=b->¬a<b->a=b:=by lia
theorem vZ{a:Nat}  : 0<a+1:=OT a
theorem wE{a b:Nat}:a<b+1->¬a<b->a=b:=NL
theorem xB{a b c:Nat}:b-a=c+1->a<b:=by lia
theorem xC{a b c d:Nat}:a-b=d+c->a-(b+c)=d:=by lia
theorem v5{a:Nat}:1<=a->a-1<a:=Nat.sub_one_lt_of_lt
theorem v6{a b:Nat}:a+2<b->a+1+1<b:=by lia
theorem vH{a:Nat}  : a<=a:=AF a
theorem wF{a b c:Nat}:a<c->a-b<c:=Nat.sub_lt_of_lt
theorem vI{a b:Nat}:a<=b->¬b=a->a+1<=b:=by lia
theorem v7{a b:Nat}:¬b<=a->a<b:=Nat.lt_of_not_le
theorem wG{a:Nat}  : 0<a+2:=OT (a+1)
theorem v8{a:Nat}  : 0<=a:=AY a
theorem wH{a b:Int}(h0:b<a):a≠b:=Cb (Int.ne_of_lt h0)
theorem vS{a b c:Nat}:a<=c->c<=b->a<=b:=BY
theorem vT{a:Nat}  : ¬a<a:=EX a
theorem xD{a b:Nat}:a<=b->b-a=0->a=b:=by lia
theorem vJ{a b:Nat}:a<b->a<=b-1:=Nat.le_sub_one_of_lt
theorem vK{a:Nat}:¬a=0->1<=a:=Nat.one_le_iff_ne_zero.mpr
theorem vC{a b:Nat}:a<b->¬a+1=b->a+1<b:=So
theorem wI{a b c:Nat}(h0:a<c):a+b<c+b:=Nat.add_lt_add_right h0 b
theorem vU{a b:Nat}(h0:b<a):a-(b+1)<a-b:=Nat.sub_succ_lt_self a b h0
theorem wJ{a b c:Nat}:a-(b+c)=a-c-b:=by lia
theorem wK{a:Nat}:a<=4100->a<=100000:=by lia
theorem v9{a b c:Nat}:a<min b c->a<b:=by lia
theorem wa{a:Nat}:2<=a->¬a<=1:=Nat.not_le_of_lt
theorem vL{a b c d:Nat}:a+d<=c->b<d->a+b<c:=by lia
theorem vD{a b c:Nat}(h0:a<=c):a+b<=c+b:=MM h0 b
theorem xE{a b c:Nat}:a=c->c<b->a<b:=lt_of_eq_of_lt
theorem wb{a b c:Nat}(h0:a<c+b)(h1:b<=a):a-b<c:=Nat.sub_lt_right_of_lt_add h1 h0
theorem wL{a:Nat}  : 1<a+2:=Nat.one_lt_succ_succ a
theorem wc{a b:Nat}:a >= b->¬a<b:=Y9.mpr
theorem we{a b c:Nat}(h0:c<b)(h1:c=a):a<b:=lt_of_eq_of_lt h1.symm h0
theorem wf{a:Nat}:a<=1->a=0\/a=1:=Nat.le_one_iff_eq_zero_or_eq_one.mp
theorem wM{a b:Nat}:a<=b->a<b+1:=Nat.lt_succ_of_le
theorem wg{a:Nat}:a<2->a=0\/a=1:=by lia
theorem vM{a b:Int}:¬b<=a->a<b:=Int.lt_of_not_ge
theorem wN{a b c:Nat}:a<=c->a-b<=c:=by lia
theorem wO{a b c:Nat}:a<b+1-c->a<=b-c:=by lia
theorem wj{a b:Nat}:a<=b->¬a=b->a<b:=So
theorem wP{a b:Nat}:a<=b->a >= b->a=b:=Nat.le_antisymm
theorem vV{a b c:Nat}:b<=a/\a<b+c->a-b<c:=by lia
theorem vW{a:Nat}:a >= 2->¬a<=1:=by lia
theorem xF{a b c:Nat}:a<min c b->a<b:=by lia
theorem xG{a b c d:Nat}:a=c-d->c<=b+d->a<=b:=by lia
theorem xH{a b:Nat}:a<=b->b<=a->a=b:=by lia
theorem xI{a b:Nat}:a≠0->a<=b->a-1<b:=by lia
theorem xJ{a b c:Nat}:a<=b->c<a->a-1<b:=by lia
theorem wQ{a:Nat}  : a*2=a+a:=Nat.mul_two a
theorem wk{a b c:Nat}:a<c-2+2->c<b+1->¬c<=1->a<b:=by lia
theorem xK{a b c d e:Nat}:c<d->c=e->d=e->a=b:=by lia
theorem xL{a b c:Nat}:b<=a->¬b+c<a->¬b+c=a->a-b<c:=by lia
theorem xM{a b c d e:Nat}:d+e<=c->d=a->e=b->a+b<=c:=by lia
theorem xN{a b:Nat}:b<=a->a-(a-b)=b:=T7
theorem wR{a b:Nat}:b<=a->a-b+b=a:=Nat.sub_add_cancel
theorem wm{a b:Nat}:2<=a->a<=b->a-1<b:=by lia
theorem wo{a b:Nat}(h0:a<b):0+a<b:=(Nat.add_lt_of_lt_sub' h0)
theorem xO{a b:Nat}:a<b+1->a≠0->a-1<b:=by lia
theorem wS{a b:Nat}:a+1<=b->a<b:=Nat.lt_of_succ_le
theorem wq{a b c:Nat}(h0:a<b+c)(h1:b<=a):a-b<c:=Nat.sub_lt_left_of_lt_add h1 h0
theorem wt{a b c:Nat}:c+a<=b->a<=b-c:=Nat.le_sub_of_add_le'
theorem wu{a b c:Nat}:a+c<=b->a+(b-a)=b:=by lia
theorem xP{a:Nat}  : 0+a=a:=G0 a
theorem xQ{a:Nat}  : ¬a>a:=EX a
theorem xR{a b:Int}:b<a->¬a<b:=Int.lt_asymm
theorem xS{a:Nat}:2<=a->(↑a:Int)-(2:Int)=(↑(a-(2:Nat)):Int):=by lia
theorem xT{a b c d:Nat}:(↑a:Int)-(↑c:Int)=(↑d:Int)->a<b+(c+1)->¬b=d->a<b+c:=by lia
theorem xU{a b c d e:Nat}:(↑b:Int)-(↑c:Int)=(↑d:Int)->a=e->e<d->a<=b:=by lia
theorem xV{a b:Nat}:a<=b->a<Ff ((↑b:Int)+(1:Int)-(2:Int))+(2:Nat):=by lia
theorem xW{a b c d:Nat}:a<c-d+d->c<=b->d<=c->a<=b:=by lia
theorem xX{a b:Nat}:2<=b->a<b+Ff ((↑a:Int)-(1:Int)):=by lia
theorem wT{a:Int}{b:Nat}{c:Int}:(0:Int)<=c->a<(↑b:Int)->c<(↑b:Int)->Ff a<b:=by lia
theorem wU{a b c:Nat}  : a+(b+c)=a+b+c:=S9 (Nat.add_assoc a b c)
theorem wV{a:Nat}  : a+1≠0:=Cb (Nat.zero_ne_add_one a)
theorem xY{a b c d:Nat}:a+(c+b)=d->a+b+(c+b-b)=d:=by lia
theorem wW{a b c:Nat}:a<c->c<=b->a<=b:=by lia
theorem xZ{a b:Nat}:b<a->(0:Int)<(↑a:Int):=by lia
theorem ww{a:Nat}:a<=12->a<=1000:=by lia
theorem wX{a:Int}:a<=(1000:Int)->Ff a<=(1000:Nat):=Int.toNat_le.mpr
theorem wY{a b c:Nat}:a<=c+1->c<b->a<=b:=by lia
theorem wZ{a b c d e:Nat}:a+e<=d->b<e->a+b-c<d:=by lia
theorem x5{a b:Nat}:a<b->min a b=a:=by lia
theorem x6{a b:Nat}:a+b=b+a:=by lia
theorem wx{a:Int}:(0:Int)<=a->(↑(Ff a):Int)=a:=by lia
theorem x8{a b:Nat}:a<b->(0:Int)<=(↑a:Int)/\(↑a:Int)<(↑b:Int):=by lia
theorem x9{a b c d e:Nat}:a+3*(c+b)+d<e->a+b+3*c+d<e:=by lia
theorem ya{a b c:Nat}:c<b->c=a->a<=b:=by lia
theorem w4{a b:Int}:b<=a->-a<=-b:=Int.neg_le_neg
theorem w6{a:Nat}:2<=a->1<=a:=by lia
theorem w9{a:Nat}:2<=a->¬a-1=1->2<=a-1:=by lia
theorem yb{a b:Nat}(h0:a<b+1)(h1:b<=a):a=b:=Nat.eq_of_le_of_lt_succ h1 h0
theorem xc{a b c d:Nat}:a<=b+d->a<=b+c+d:=by lia
theorem xf{a b c:Nat}:a=c->¬b<c->a<=b:=by lia
theorem xg{a b c d:Nat}:a<b+d->d<=c->a<b+c:=by lia
theorem xi{a b c d:Nat}:a<c-d+d->c<b+1->c >= d->a<b:=by lia
theorem yc{a b:Nat}:¬a<=b->¬a<b:=by lia
theorem yd{a b:Nat}:¬a<=b->¬a=b:=by lia
theorem xj{a b c d:Nat}:a<=c->c=b-1->d<b->a+1<=b:=by lia
theorem vN{a:Nat}:1<=a->(1:Int)<=(↑a:Int):=by lia
theorem xq{a b c d:Nat}:b=min (c-a) d->¬a >= c->a+b<=c:=by lia
theorem xr{a b c:Nat}:a<b-c+c->c<=b->a+1+(b-a-1)=b:=by lia
theorem xt{a b:Nat}{c:Int}:c<(↑b:Int)->c=(↑a:Int)->a<b:=by lia
theorem ye{a b c:Nat}:a<=min b c->c<=12->a<=1000:=by lia
theorem yf{a b c:Nat}:b<a->¬(a<=b/\b<c):=by lia
theorem yg{a b c:Nat}:a<b+(c+1)->¬a<b+c->a=b+c:=NL
theorem yh{a b c:Nat}(h0:c<=b):a-b<=a-c:=Nat.sub_le_sub_left h0 a
theorem yj{a b:Nat}:¬a+b<b:=by lia
theorem yk{a b c:Nat}(h0:b<c):a+b<a+c:=Nat.add_lt_add_left h0 a
theorem ym{a:Int}{b c:Nat}(h0:a=(↑c:Int))(h1:c=b):a=(↑b:Int):=S9 (Nat.ToInt.of_eq rfl h0.symm h1.symm)
theorem yp{a b:Nat}:a<=b->(↑a:Int)-(↑b:Int)<=(0:Int):=by lia
theorem yq{a b:Int}:a<(0:Int)->max (0:Int) (min (a+b) b)=(↑(Ff (a+b)):Int):=by lia
theorem yr{a:Int}{b:Nat}:max (0:Int) (min a (↑b:Int))=(↑(min (Ff a) b):Int):=by lia
theorem yt{a b c:Nat}:b<=a->c<=b->a-(b-c)=a-b+c:=by lia
theorem yu{a b:Nat}(h0:a<=b):a=b-(b-a):=S9 (T7 h0)
theorem yv{a b:Nat}:a<b-1+(b-(b-1))->b-1<=a->a=b-1:=by lia
theorem yw{a b c:Nat}(h0:b<=c)(h1:c<=a):a-b=a-c+(c-b):=S9 (Nat.sub_add_sub_cancel h1 h0)
theorem yx{a b c:Nat}:a<c+(b-c)->c<=b->a<b:=by lia
theorem yy{a b c d e:Nat}:a+c+d<=e->b<=a->a-b+c+(d+b)<=e:=by lia
theorem yA{a b c d:Nat}:2<=b->a+b+c<=d->a+(b-1)+(c+1)<=d:=by lia
theorem yB{a b c d e:Nat}:a+c+d<=e->a-b+c+d<=e:=by lia
theorem yC{a b:Nat}:a<b->0+a<=b:=by lia
theorem yD{a b c:Nat}:a<c->¬c-b>0->a<b:=by lia
theorem yE{a b:Nat}:a<=b->0+a<=b:=by lia
theorem yF{a b c d:Nat}:a<=c+d->a+b<=c+(d+b):=by lia
theorem yG{a b c d:Nat}:a<=c+d->a+b<=c+b+d:=by lia
theorem yH{a b:Nat}:a<b->a+1+(b-(a+1))<=b:=by lia
theorem yI{a b c:Nat}:a<=b->b<c->a+(b-a)<c:=by lia
theorem yJ{a b c d:Nat}:a<c->b+d<=a->a-b<c-b:=by lia
theorem yK{a b c d:Nat}:a+d<=b->b<c->a+(b-a)<c:=by lia
theorem yL{a:Nat}:¬a>0->a=0:=Nat.eq_zero_of_not_pos
theorem yM{a b c:Nat}:a+c<b->a+(b-a)<=b:=by lia
theorem yN{a b:Nat}:a<=b->a+0<=b:=YU.mp
theorem yO{a:Nat}:(↑a:Int)=(↑((0:Nat)+a):Int):=by lia
theorem yP{a b c d:Nat}:a<b+c->b+d<=a->a-b<c:=by lia
theorem yQ{a b c d:Nat}:a<c->d<b->d=c->a<b:=by lia
theorem yR{a b c d e:Nat}:a+d<=e->b<=d->c=e->a+b<=c:=by lia
theorem yS{a b c d:Nat}:b<d->d=c->a+b<a+c:=by lia
theorem yT{a b c d e:Nat}:c=a+d-e->¬(e<=b/\b<e+c)->¬b<e->a<=b:=by lia
theorem yU{a b:Nat}:a=b->¬b=0->1<=a:=by lia
theorem yV{a:Nat}:2<=a->a<=1->False:=by lia
theorem yW{a b c:Nat}:b<=c->c<a->a≠b:=by lia
theorem yX{a b:Nat}(h0:b+1<=a):a≠b:=Cb (BU h0)
theorem yY{a b c d:Nat}:a-d<=c+1->d<b->a-b<=c:=by lia
theorem yZ{a b c:Nat}:b<=c->¬a >= b->a+(b-a) / 2<c:=by lia
theorem y4{a b c d:Nat}:a<=b->b-a<=c-max d c->a=b:=by lia
theorem y6:(0:Nat)<(1:Nat):=by lia
theorem y8{a:Nat}:0+a<=a:=by lia
theorem y9{a b c:Nat}:¬b >= c-a->a+b<c:=by lia
theorem za{a:Nat}:a<2*a+1:=by lia
theorem zb{a b c:Nat}:a<=c->a+b<=2*c+b:=by lia
theorem zc{a:Int}{b c:Nat}:(0:Int)<=a/\a<(↑c:Int)->b=c->Ff a<b:=by lia
theorem zd{a b c:Int}:a<c->c<=b->a<=b:=by lia
theorem ze{a b c d e f g:Nat}:a<=c->b<=e->e<=f->e<g->d=min f g->a+b<=c+d:=by lia
theorem zf{a b:Nat}:a>b->a-2<a:=by lia
theorem zg{a:Nat}:a>1->a-2+1<a:=by lia
theorem zh{a b c d:Nat}:a<=c->b<=d->a+b<=c+d:=Nat.add_le_add
theorem zi{a b c:Nat}:b<=c-a->¬a >= c->a+b<=c:=by lia
theorem zj{a b c:Nat}(h0:c >= a):a+b<=c+b:=MM h0 b
theorem zk{a b:Nat}(h0:b<=a):a=b+(a-b):=S9 (Tl h0)
theorem zm{a b c d:Nat}:b<min d (c-a)->a+b<c:=by lia
theorem zn{a b c d:Nat}:a+d<=c->b>1->b<=d->a+b-1<c:=by lia
theorem zo{a b:Nat}:1+1<=b->a+b-1<a+b:=by lia
theorem wz{a b:Nat}:b<a->¬a<b+1:=by lia
theorem vO{a:Nat}:a<=10->(↑a:Int)<=(10:Int):=by lia
theorem zq{a:Nat}{b:Int}:a<Ff b->(↑a:Int)<b:=by lia
theorem zr{a:Nat}{b:Int}{c:Nat}:a<c->c<Ff b->(↑a:Int)<b:=by lia
theorem zt{a b c:Nat}:b<=a/\a<c->¬a<b:=by lia
theorem zu{a b c d:Nat}:c=b->d<=a/\a<c->a<b:=by lia
theorem zv{a b c d:Nat}:a<b->b=c->c<=a/\a<d->False:=by lia
theorem zw{a:Int}:(3:Int)+a%(5:Int)<=(10:Int):=by lia
theorem zx{a b:Nat}:a=b->b<=10->a<=11:=by lia
theorem xu{a b:Nat}:b=0\/b=2->b=1+a->a=1:=by lia
theorem xv{a b c d:Nat}:a<d->a=c\/b=c->b<d->a+b-c<d:=by lia
theorem zy{a b:Nat}:a=1+1->a=b\/a=2:=by lia
theorem zA{a:Nat}{b:Int}:a=Ff b->b<=(10:Int)->a<=10:=by lia
theorem zB{a b c:Nat}:a=c->a+b-c=b:=by lia
theorem zC{a b c:Nat}:b=c->a+b-c=a:=by lia
theorem zD{a b:Nat}:b<=10->min a b<=(1000:Nat):=by lia
theorem zE{a:Nat}:1+a=0\/1+a=2->a=1:=by lia
theorem zF{a b:Nat}:b=b+a->a=0:=by lia
theorem zG{a b:Nat}:a<=b->b<10->a<=1000:=by lia
theorem zH{a:Int}{b:Nat}{c:Int}:a<c->b=Ff c->a<(↑b:Int):=by lia
theorem zI{a b:Int}:a<b->a<(↑(Ff b):Int):=by lia
theorem zJ{a:Int}:(1:Int)<=(3:Int)+a%(5:Int):=by lia
theorem zK{a b:Int}:a<=a+b%(10:Int):=by lia
theorem zL{a:Int}:(1:Int)+a%(10:Int)<=(10:Int):=by lia
variable{a b d f it D l R p C dx fa S fP fA fC fS I fR fI fK fT Gc fL fU fB da fG fX fO fH fW D2 r0 r1 fF fE fY V0:PySem.Addr}{c e tg a5 dC:PySem.Expr}{us vs ag its':List As}{x name qual q:PySem.Str}{u cd be pm a7 ct oc dc:As}{o ob:PySem.Obj}{P prog:AL}{w:AQ}{h h' base:PySem.Heap}{α β:Type}{aa:List (PySem.Addr×PySem.Obj)}{s s':AA}{g':Array Uf}{t' i j M n lo hi tk k' m z ep hd kl kr i' a9 ia ib ac bc na nb sa l' k0 h0:Nat}{ch fp wr:List PySem.Addr}{A:BV}{E Q:As->AA->Prop}{pos bg tU bE p2 bt tp p1 kP:PySem.Pos}{op:Tb}{ar body:List PySem.Stmt}{K:Ap}{st ah bo:BD}{es dL df:List PySem.Expr}{pl f':Nat->uX}{mA mg:PySem.Str->Option As}{ns ms hs:uI}{kw:List (PySem.Str×As)}{fd g5 dS pM cK qW ku oo cE qM qA qZ p6 fdX ny fdH fdW rQ fdE fdY:Bn}{ps c5 own fr:List PySem.Str}{sc scope:F9}{an od:Option PySem.Addr}{l6 sl:Array (Option As)}{T:String}{items:Array As}{vals:Nat->uI×PySem.Addr}{XP:(PySem.Str->Option As)->PySem.Heap->Prop}{YP:AQ->PySem.Heap->Prop}{B:As->As->As->Option PySem.Addr->As->As->List As->PySem.Sem (List (PySem.Str×As))}{ix rc left ly su:uL}{tn:Nat->PySem.Heap->Prop}{as:uJ}{κ:ER}{ks:List (uI×PySem.Addr)}{ss L:List uL}{owner:Array uX}{hashes:Array Int}{a₀ arr out ik:Array AE}{E':List (Nat×Nat)}{rd:Bool}
namespace L2
inductive E2 {α0 α1:Type} (p:α0->α1->Prop):Prop
 | mk (a0:α0) (a1:α1) (h:p a0 a1):E2 p
inductive E4 {α0 α1 α2 α3:Type} (p:α0->α1->α2->α3->Prop):Prop
 | mk (a0:α0) (a1:α1) (a2:α2) (a3:α3) (h:p a0 a1 a2 a3):E4 p
inductive E5 {α0 α1 α2 α3 α4:Type} (p:α0->α1->α2->α3->α4->Prop):Prop
 | mk (a0:α0) (a1:α1) (a2:α2) (a3:α3) (a4:α4) (h:p a0 a1 a2 a3 a4):E5 p
inductive A3 (p0 p1 p2:Prop):Prop
 | mk (h0:p0) (h1:p1) (h2:p2):A3 p0 p1 p2
inductive A4 (p0 p1 p2 p3:Prop):Prop
 | mk (h0:p0) (h1:p1) (h2:p2) (h3:p3):A4 p0 p1 p2 p3
inductive A5 (p0 p1 p2 p3 p4:Prop):Prop
 | mk (h0:p0) (h1:p1) (h2:p2) (h3:p3) (h4:p4):A5 p0 p1 p2 p3 p4
inductive A6 (p0 p1 p2 p3 p4 p5:Prop):Prop
 | mk (h0:p0) (h1:p1) (h2:p2) (h3:p3) (h4:p4) (h5:p5):A6 p0 p1 p2 p3 p4 p5
end L2
namespace L2
open PySem PySem.Spec PyProof.Rows
abbrev Key:=Sum Int Str
def keyIs:Key->As->Bool
 | .inl k,v=>NJ k v
 | .inr x,v=>WE x v
def keyH(w:AQ):Key->Int
 | .inl k=>hashInt k
 | .inr x=>hashStr w x
theorem CQ:∀{k:Key}{v:As},keyIs k v=true->(∃i t,k=F3 i/\v=NM i t)\/(∃x t,k=ON x/\v=ZB x t)
 | .inl i,v,h=>by
  obtain⟨t,e⟩:=Hb (k:=i) (v:=v) h;exact .inl ⟨i,t,rfl,e⟩
 | .inr x,v,h=>by
  obtain⟨t,e⟩:=Value.isStrOf_shape (x:=x) (v:=v) h;exact .inr ⟨x,t,rfl,e⟩
theorem Zy(i:Int)(t:Tok):keyIs (.inl i) (.int i t)=true:=by simp[keyIs,NJ]
theorem Zw(x:Str)(t:Tok):keyIs (.inr x) (.str x t)=true:=by simp[keyIs,WE]
theorem AGS(a b:Int):decide ((F3 a:Key)=F3 b)=(a==b):=by
 by_cases e:a=b
 .subst e;simp
 .have h:¬ (F3 a:Key)=F3 b:=λq=>e (Sum.inl.inj q)
  rw[uF h];exact(beq_eq_false_iff_ne.mpr e).symm
theorem AHA(a b:Str):decide ((ON a:Key)=ON b)=decide (a=b):=by
 by_cases e:a=b
 .subst e;simp
 .have h:¬ (ON a:Key)=ON b:=λq=>e (Sum.inr.inj q)
  rw[uF h,uF e]
theorem AGQ(a:Int)(b:Str):decide ((F3 a:Key)=ON b)=false:=uF (λq=>nomatch q)
theorem AGM(a:Str)(b:Int):decide ((ON a:Key)=F3 b)=false:=uF (λq=>nomatch q)
def CV(prog:AL)(w:AQ):PySem.KeyKind prog w Key where
 is:=keyIs
 hash:=keyH w
 inj:=λv a b ha hb=>by
  rcases CQ ha with⟨i,t,rfl,rfl⟩| ⟨x,t,rfl,rfl⟩
  .rcases CQ hb with⟨j,u,rfl,e⟩| ⟨y,u,rfl,e⟩
   .injection e with e1 _;rw[e1]
   .exact nomatch e
  .rcases CQ hb with⟨j,u,rfl,e⟩| ⟨y,u,rfl,e⟩
   .exact nomatch e
   .injection e with e1 _;rw[e1]
 byValue:=λk v h=>by
  rcases CQ h with⟨i,t,rfl,rfl⟩| ⟨x,t,rfl,rfl⟩<;>rfl
 pyHash:=λhv h=>by
  rcases CQ hv with⟨i,t,rfl,rfl⟩| ⟨x,t,rfl,rfl⟩
  .exact T8 h
  .exact wpAny_pyHash_str h
 eqBool:=λhu hv h=>by
  rcases CQ hu with⟨i,t,rfl,rfl⟩| ⟨x,t,rfl,rfl⟩
  .rcases CQ hv with⟨j,u,rfl,rfl⟩| ⟨y,u,rfl,rfl⟩
   .rw[AGS] at h;exact T9 h
   .rw[AGQ] at h;exact Sr i t y u _ _ _ _ h
  .rcases CQ hv with⟨j,u,rfl,rfl⟩| ⟨y,u,rfl,rfl⟩
   .rw[AGM] at h;exact Su x t j u _ _ _ _ h
   .rw[AHA] at h;exact wpAny_eqBool_str h
 «strs»:=λk x t v h=>by
  rcases CQ h with⟨i,u,rfl,e⟩| ⟨y,u,rfl,e⟩
  .exact nomatch e
  .injection e with e1 _
   subst e1;cases v<;>rfl
theorem Rq(prog:AL)(w:AQ)(i:Int)(t:Tok):(CV prog w).is (.inl i) (.int i t)=true:=Zy i t
theorem Sw(prog:AL)(w:AQ)(x:Str)(t:Tok):(CV prog w).is (.inr x) (.str x t)=true:=Zw x t
inductive V where
 | non| bl (b:Bool)| int (i:Int)| str (x:Str)| byt (b:Array UInt8)| flt (b:UInt64)| ref (a:Addr)| ty (n:String)
 deriving DecidableEq
variable{xs:List L2.V}{v y:L2.V}
def RelV:V->As->Prop
 | .non,u=>u=DE
 | .bl b,u=>u=K1 b
 | .int i,u=>∃t,u=NM i t
 | .str x,u=>∃t,u=ZB x t
 | .byt b,u=>∃t,u=Value.bytes b t
 | .flt b,u=>∃t,u=Value.float b t
 | .ref a,u=>u=A7 a
 | .ty n,u=>u=DU n
abbrev Vals:List V->List As->Prop:=BI RelV
theorem Vals.length(r:Vals xs us):xs.length=us.length:=AV r
theorem Vals.get:∀{xs:List V}{us:List As}{i:Nat}{x:V},Vals xs us->xs[i]?=uA x->∃u,us[i]?=uA u/\RelV x u
 | _,_,_,_,.nil,e=>by simp at e
 | _,_,0,_,.cons r _,e=>by simp at e;subst e;exact⟨_,rfl,r⟩
 | _,_,i+1,x,.cons _ t,e=>by
  obtain⟨u,h1,h2⟩:=Vals.get (i:=i) (x:=x) t (by simpa using e);exact⟨u,by simpa using h1,h2⟩
theorem Vals.set{x:V}(r:RelV x u):∀{xs:List V}{us:List As} (i:Nat),Vals xs us->Vals (xs.set i x) (us.set i u)
 | _,_,_,.nil=>.nil
 | _,_,0,.cons _ t=>.cons r t
 | _,_,i+1,.cons q t=>.cons q (Vals.set r i t)
theorem Vals.append:∀{xs ys:List V}{us ws:List As},Vals xs us->Vals ys ws->Vals (xs++ys) (us++ws):=by
 intro xs ys us ws h s
 induction h with
 | nil=>exact s
 | cons r t ih=>exact .cons r ih
theorem Vals.take:∀{xs:List V}{us:List As} (n:Nat),Vals xs us->Vals (xs.take n) (us.take n)
 | _,_,0,_=>.nil
 | _,_,_+1,.nil=>.nil
 | _,_,n+1,.cons r t=>.cons r (Vals.take n t)
theorem Vals.drop:∀{xs:List V}{us:List As} (n:Nat),Vals xs us->Vals (xs.drop n) (us.drop n)
 | _,_,0,r=>r
 | _,_,_+1,.nil=>.nil
 | _,_,n+1,.cons _ t=>Vals.drop n t
def RelO:Option V->Option As->Prop
 | some v,uA u=>RelV v u
 | none,uB=>True
 | _,_=>False
def KV{κ:Type}:List (κ×V)->List (κ×As)->Prop:=BI λ(p:κ×V) (q:κ×As)=>p.1=q.1/\RelV p.2 q.2
noncomputable def kV:Key->V
 | .inl i=>.int i
 | .inr x=>.str x
inductive HO where
 | lst (xs:List V)
 | tup (xs:List V)
 | dK (af:List (Key×V))| dT (af:List (List Key×V))
 | set (S:Int->Bool) (n:Nat)
 | ins (C dx:Addr) (fs:List (Str×V))
 | own (x:Addr)
 | xd (fs:List (Str×V))
 | met (f x:Addr)
 | rng (lo hi:Int)
 | frz (o:Obj) (u:HO)
 | tbl (ps:Array As)
 | ext (φ:Heap->Prop)
abbrev Hp:=Addr->Option HO
variable{H H':L2.Hp}
def upd(H:Hp)(a:Addr)(o:HO):Hp:=λb=>if b=a then uA o else H b
theorem Ab{o:HO}:upd H a o a=uA o:=by unfold upd;rw[uD rfl]
theorem Af{o:HO}(h:b≠a):upd H a o b=H b:=by unfold upd;rw[uC h]
theorem Hw{o u:HO}:upd (upd H a o) a u=upd H a u:=by
 funext b;unfold upd;split<;>rfl
theorem DQ{o u:HO}(h:H a=uA o)(h':H b=uA u)(d:o≠u):a≠b:=by
 intro e;subst e;rw[h] at h';exact d (AN h')
theorem Ae{o:HO}(h:H a=uA o)(h':H b=uB):a≠b:=by
 intro e;subst e;rw[h] at h';cases h'
section
variable (P:AL)(w:AQ)
def ObjOk(H:Hp)(h:Heap)(a:Addr):HO->Prop
 | .lst xs=>xs.length<=sizeLine/\∃(ag:List As) (n:Nat),Vals xs ag/\h.get? a=uA {cls:=.type "list",data:=.seq ag.toArray n}
 | .tup xs=>xs.length<=sizeLine/\∃ag:List As,Vals xs ag/\Ta h a ag.toArray
 | .dK af=>af.length<=sizeLine/\(a==EC)=false/\∃vs,KV af vs/\h.DictOf (CV P w) a vs
 | .dT af=>af.length<=sizeLine/\(a==EC)=false/\∃xs:List (List Key×Addr×As),
   BI (λ(p:List Key×V) (q:List Key×Addr×As)=>p.1=q.1/\H q.2.1=uA (.tup (p.1.map kV))/\RelV p.2 q.2.2) af xs /\
   ∃o es ep,h.get? a=uA o/\o.ExactDict/\o.data=.dict es ep/\es.toList=xs.map (entryOfKey (NN (CV P w)))/\(xs.map (·.1)).Nodup
 | .set S n=>h.SetOf (LN P w) a S n
 | .ins C dx fs=>H dx=uA (.own a)/\fs.length<=1000/\dx≠a/\h.get? a=uA (FK C dx) /\
   ∃mA,h.Ns1 dx mA/\(∀f,RelO (fs.lookup f) (mA f))/\Sz mA (fs.map (·.1))
 | .own _=>∃o,h.get? a=uA o
 | .xd fs=>∃mA,h.Ns1 a mA/\∀f,RelO (fs.lookup f) (mA f)
 | .rng lo hi=>∃t u v,h.get? a=uA {cls:=.type "range",data:=.fields #[.int lo t,.int hi u,.int 1 v]}
 | .frz o u=>h.get? a=uA o/\ObjOk H h a u
 | .tbl ps=>h.get? a=uA {cls:=.none,data:=.fields ps}
 | .met f x=>h.get? a=uA (PySem.W.methodObj (.ref f) (.ref x))
 | .ext φ=>φ h/\(∃o,h.get? a=uA o)/\∀h1 h2:Heap,φ h1->(∀o,h1.get? a=uA o->h2.get? a=uA o)->φ h2
def HOk(H:Hp)(h:Heap):Prop:=∀a o,H a=uA o->ObjOk P w H h a o
end
section
variable{o:HO}
theorem ObjOk.lt(x:ObjOk P w H h a o):a<h.objs.size:=by
 cases o with
 | lst xs=>obtain⟨_,_,_,_,e⟩:=x;exact Bz e
 | tup xs=>obtain⟨_,_,_,p⟩:=x;exact p.lt
 | dK af=>obtain⟨_,_,_,_,o,_,_,e,_⟩:=x;exact Bz e
 | dT af=>obtain⟨_,_,_,_,o,_,_,e,_⟩:=x;exact Bz e
 | set S n=>obtain⟨o,_,_,_,e,_⟩:=x;exact Bz e
 | ins C dx fs=>obtain⟨_,_,_,e,_⟩:=x;exact Bz e
 | own y=>obtain⟨_,e⟩:=x;exact Bz e
 | xd fs=>obtain⟨_,⟨_,_,_,e,_⟩,_⟩:=x;exact Bz e
 | rng lo hi=>obtain⟨_,_,_,e⟩:=x;exact Bz e
 | frz ob u=>obtain⟨e,_⟩:=x;exact Bz e
 | tbl ps=>exact Bz x
 | met f y=>exact Bz x
 | ext φ=>obtain⟨_,⟨_,e⟩,_⟩:=x;exact Bz e
theorem uZ{F G:α->β->Prop}:∀{l₁:List α}{l₂:List β},BI F l₁ l₂->(∀a b,F a b->G a b)->BI G l₁ l₂:=by
 intro l m h f
 induction h with
 | nil=>exact .nil
 | cons r t ih=>exact .cons (f _ _ r) ih
theorem ObjOk.stay(x:ObjOk P w H h a o)(k:∀b u,(b=a\/H b=uA (.own a))->h.get? b=uA u->h'.get? b=uA u)
  (ho:∀b,H b=uA (.own a)->H' b=uA (.own a)) (ht:∀b xs,H b=uA (.tup xs)->H' b=uA (.tup xs)):ObjOk P w H' h' a o:=by
 induction o with
 | lst xs=>obtain⟨z,ag,n,r,e⟩:=x;exact⟨z,ag,n,r,k _ _ (.inl rfl) e⟩
 | tup xs=>obtain⟨z,ag,r,ob,e,c⟩:=x;exact⟨z,ag,r,ob,k _ _ (.inl rfl) e,c⟩
 | dK af=>obtain⟨z,y,vs,r,ob,es,ep,e,c⟩:=x;exact⟨z,y,vs,r,ob,es,ep,k _ _ (.inl rfl) e,c⟩
 | dT af =>
  obtain⟨z,y,xs,r,ob,es,ep,e,c⟩:=x;exact⟨z,y,xs,uZ r λp q z=>⟨z.1,ht _ _ z.2.1,z.2.2⟩,ob,es,ep,k _ _ (.inl rfl) e,c⟩
 | set S n=>obtain⟨ob,es,ep,t,e,c⟩:=x;exact⟨ob,es,ep,t,k _ _ (.inl rfl) e,c⟩
 | ins C dx fs =>
  obtain⟨d,z,ne,e,mA,⟨od,es,ep,e2,c⟩,r⟩:=x;exact⟨ho _ d,z,ne,k _ _ (.inl rfl) e,mA,⟨od,es,ep,k _ _ (.inr d) e2,c⟩,r⟩
 | own y=>obtain⟨ob,e⟩:=x;exact⟨ob,k _ _ (.inl rfl) e⟩
 | xd fs=>obtain⟨mA,⟨od,es,ep,e,c⟩,r⟩:=x;exact⟨mA,⟨od,es,ep,k _ _ (.inl rfl) e,c⟩,r⟩
 | rng lo hi=>obtain⟨t,u,v,e⟩:=x;exact⟨t,u,v,k _ _ (.inl rfl) e⟩
 | frz ob u ih=>obtain⟨e,q⟩:=x;exact⟨k _ _ (.inl rfl) e,ih q⟩
 | tbl ps =>
  have e:=x;exact k a _ (.inl rfl) e
 | met f y =>
  have e:=x;exact k a _ (.inl rfl) e
 | ext φ=>obtain⟨p,⟨o,e⟩,st⟩:=x;exact⟨st _ _ p λo q=>k _ _ (.inl rfl) q,⟨o,k _ _ (.inl rfl) e⟩,st⟩
theorem HOk.lt(x:HOk P w H h)(e:H a=uA o):a<h.objs.size:=(x a o e).lt
theorem HOk.fresh(x:HOk P w H h)(e:h.objs.size<=a):H a=uB:=by
 cases q:H a with
 | none=>rfl
 | some u=>exact uH (CD (x.lt q) e) (EX _)
theorem HOk.kept(x:HOk P w H h)(k:∀b u,h.get? b=uA u->h'.get? b=uA u):HOk P w H h':=λa o e =>
 (x a o e).stay (λb u _ q=>k b u q) (λ_ q=>q) λ_ _ q=>q
theorem HOk.laid(x:HOk P w H h)(k:∀b u,h.get? b=uA u->h'.get? b=uA u)(hp:h.objs.size<=a)(new:ObjOk P w (upd H a o) h' a o):HOk P w (upd H a o) h':=λb u e=>by
 have hn:=x.fresh hp;by_cases hb:b=a
 .subst hb;rw[Ab] at e;cases e;exact new
 .rw[Af hb] at e
  exact(x b u e).stay (λc v _ q=>k c v q) (λc q=>by rw[Af (Ae q hn)];exact q) λc xs q=>by rw[Af (Ae q hn)];exact q
end
def Rd(H:Hp)(a:Addr)(u:HO):Prop:=H a=uA u\/∃o,H a=uA (.frz o u)
theorem Rd.ok{u:HO}(r:Rd H a u)(x:HOk P w H h):ObjOk P w H h a u:=by
 rcases r with r| ⟨o,r⟩
 .exact x a u r
 .obtain⟨_,q⟩:=x a _ r
  exact q
def Mut:Option HO->Prop
 | some (.lst _)=>True
 | some (.dK _)=>True
 | some (.dT _)=>True
 | some (.set _ _)=>True
 | some (.ins _ _ _)=>True
 | some (.ext _)=>True
 | _=>False
section
variable{x e:Addr}{o':HO}
theorem HOk.write(ok:HOk P w H h)(mu:Mut (H x))(he:e=x\/H e=uA (.own x))(k:∀b u,b≠e->h.get? b=uA u->h'.get? b=uA u)(qP:∃u,h'.get? e=uA u)
  (new:ObjOk P w (upd H x o') h' x o'):HOk P w (upd H x o') h':=λb u q=>by
 have rZ:∀c y,H c=uA (.own y)->c≠x:=λc y r z=>by subst z;rw[r] at mu;exact mu
 have ntup:∀c xs,H c=uA (.tup xs)->c≠x:=λc xs r z=>by subst z;rw[r] at mu;exact mu
 by_cases hb:b=x
 .subst hb;rw[Ab] at q;cases q;exact new
 .rw[Af hb] at q
  by_cases hbe:b=e
  .have q':H b=uA (.own x):=by
    rcases he with z| z
    .exact uH (hbe.trans z) hb
    .rw[hbe];exact z
   rw[q] at q';cases q';obtain⟨v,hv⟩:=qP;exact⟨v,by rw[hbe];exact hv⟩
  .refine(ok b u q).stay (λc v hc r=>k c v ?_ r) (λc r=>by rw[Af (rZ c b r)];exact r) λc xs r=>by rw[Af (ntup c xs r)];exact r
   rcases hc with rfl| hc
   .exact hbe
   .rintro rfl
    rcases he with z| z
    .exact rZ c b hc z
    .rw[hc] at z;cases z;exact hb rfl
end
structure Un(fs ex:uY)(H H':Hp)(h h':Heap):Prop where
 keep:∀b o,h.get? b=uA o->H b=none->b∉fs->b∉ex->h'.get? b=uA o
 slot:∀b o,h.get? b=uA o->H b=none->b∈fs->b∉ex->∃sl,h'.get? b=uA {o with slots:=sl}
 free:∀b o,h.get? b=uA o->H b=none->b∉ex->H' b=uB
 there:∀b o,h.get? b=uA o->b∉ex->∃o',h'.get? b=uA o'
 tups:∀b xs,H b=uA (.tup xs)->H' b=uA (.tup xs)
 frzs:∀b o u,H b=uA (.frz o u)->H' b=uA (.frz o u)
 tbls:∀b ps,H b=uA (.tbl ps)->∃more,H' b=uA (.tbl (ps++more))
section
variable{fs fs' ex ex':uY}{H1 H2:Hp}{h1 h2:Heap}{x e:Addr}{o:HO}
theorem Un.any(u:Un fs ex H H1 h h1)(q:h.get? b=uA ob)(n:H b=uB)(hx:b∉ex):∃sl,h1.get? b=uA {ob with slots:=sl}:=by
 by_cases hb:b∈fs
 .exact u.slot b ob q n hb hx
 .exact⟨ob.slots,u.keep b ob q n hb hx⟩
theorem Un.kept(k:∀b u,h.get? b=uA u->h'.get? b=uA u):Un fs ex H H h h' :=
 ⟨λb ob q _ _ _=>k b ob q,λb ob q _ _ _=>⟨ob.slots,k b ob q⟩,λ_ _ _ n _=>n,λb ob q _=>⟨ob,k b ob q⟩,λ_ _ q=>q,λ_ _ _ q=>q,λ_ ps q=>⟨#[],by rw[q];simp⟩⟩
theorem Un.refl:Un fs ex H H h h:=Un.kept λ_ _ q=>q
theorem Un.laid(k:∀b u,h.get? b=uA u->h'.get? b=uA u)(hp:h.objs.size<=a)(hn:H a=uB):Un fs ex H (upd H a o) h h' where
 keep:=λb u q _ _ _=>k b u q
 slot:=λb u q _ _ _=>⟨u.slots,k b u q⟩
 free:=λb u q n _=>by rw[Af (BU (CD (Bz q) hp))];exact n
 there:=λb u q _=>⟨u,k b u q⟩
 tups:=λb xs q=>by rw[Af (Ae q hn)];exact q
 frzs:=λb u xs q=>by rw[Af (Ae q hn)];exact q
 tbls:=λb ps q=>⟨#[],by rw[Af (Ae q hn),q];simp⟩
theorem Un.write(mu:Mut (H x))(he:e=x\/H e=uA (.own x))(k:∀b u,b≠e->h.get? b=uA u->h'.get? b=uA u)(qP:∃u,h'.get? e=uA u):Un fs ex H (upd H x o) h h':=by
 have hx:∀b,H b=none->b≠x:=λb n z=>by subst z;rw[n] at mu;exact mu
 have hb:∀b,H b=none->b≠e:=λb n z=>by
  subst z;rcases he with r| r
  .exact hx b n r
  .rw[n] at r;cases r
 have hm:∀b u,H b=uA u->¬ Mut (uA u)->b≠x:=λb u q nm z=>by subst z;rw[q] at mu;exact nm mu
 refine⟨λb u q n _ _=>k b u (hb b n) q,λb u q n _ _=>⟨u.slots,k b u (hb b n) q⟩,λb u q n _=>by rw[Af (hx b n)];exact n,λb u q _=>?_,
  λb xs q=>by rw[Af (hm b _ q λz=>z)];exact q,λb u xs q=>by rw[Af (hm b _ q λz=>z)];exact q,λb ps q=>⟨#[],by rw[Af (hm b _ q λz=>z),q];simp⟩⟩
 by_cases hbe:b=e
 .subst hbe;exact qP
 .exact⟨u,k b u hbe q⟩
end
noncomputable def trk(h:Heap)(H:Hp):uY:=(AW h.objs.size).filter λa=>(H a).isSome
def hidT(h:Heap)(H:Hp):Heap:=PySem.W.hideAll h (trk h H)
theorem AAc(h:Heap)(H:Hp):(hidT h H).objs.size=h.objs.size:=PySem.W.hideAll_size _ _
theorem ABo(e:h.get? b=uA o)(n:H b=uB):(hidT h H).get? b=uA o :=
 PySem.W.hideAll_get _ e λhm=>by
  have q:=(BQ.mp hm).2;rw[n] at q;simp at q
theorem ADs(e:(hidT h H).get? b=uA o):h.get? b=uA o/\H b=uB:=by
 have e':=PySem.W.of_hideAll (trk h H) e;refine⟨e',?_⟩;cases q:H b with
 | none=>rfl
 | some x =>
  have hm:b∈trk h H:=BQ.mpr ⟨A8.mpr (Bz e'),by simp[q]⟩;have z:(hidT h H).get? b=uB:=PySem.W.hideAll_none (trk h H) hm;rw[z] at e;cases e
structure Mod(K:Ap)(mg:Str->Option As)(base:Heap):Prop where
 kin:K.In base
 glob:base.Ns DD mg
 blt:∃mb,base.Ns UV mb/\∀x:Str,x≠"__name__"->mb x=IR x
 nolimit:base.NoLimit
structure Cx where
 prog:AL
 w:AQ
 K:Ap
 mg:Str->Option As
 base:Heap
 A:BV
 N:uU
 s₀:AA
 H₀:Hp
 env:Env
 outer:List Env
 stack:List Env
 ex:uY
 fn:Str->Bool
 calm:Bool
 pn:uQ
 xe:As->AA->Prop
variable{X:L2.Cx}
noncomputable def frs(l:List Env):uY:=l.filterMap (·.frame)
abbrev Cx.fs(X:Cx):uY:=frs X.outer
def Vis(sc:F9)(x:Str):Prop:=sc.names.lookup x=uA .local\/sc.names.lookup x=uA .cell\/sc.names.lookup x=uA .free
def Loc(sc:F9)(x:Str):Prop:=sc.names.lookup x=uA .local\/sc.names.lookup x=uA .cell
def Look(env:Env)(h:Heap)(m:Str->Option As)(x:Str)(u:As):Prop :=
 (env.kindOf x=uA .local/\m x=uA u)\/((env.kindOf x=uA .cell\/env.kindOf x=uA .free)/\∃c,env.cells.lookup x=uA c/\h.IsCell c (uA u))
structure Cx.Ok(X:Cx):Prop where
 mod:Mod X.K X.mg X.base
 kind:X.env.scope.kind=.function
 glob:X.env.globals=DD
 blt:X.env.builtins=UV
 above:X.s₀.heap.objs.size<=X.env.locals
 inj:∀x y c,X.env.cells.lookup x=uA c->X.env.cells.lookup y=uA c->x=y
 has:∀x,(X.env.kindOf x=uA .cell\/X.env.kindOf x=uA .free)->∃c,X.env.cells.lookup x=uA c
 cab:∀x c,X.fn x=true->X.env.cells.lookup x=uA c->X.s₀.heap.objs.size<=c
 hd:X.calm=true->X.A.handled=uB
 frames:X.A.frames=uA X.stack
 stk:X.stack=X.outer\/(X.stack=X.env::X.outer/\X.env.frame=uA X.env.locals)
 exf:∀b∈X.ex,b≠X.env.locals/\∀x c,X.env.cells.lookup x=uA c->c≠b
 bs:∀b o,X.base.get? b=uA o->X.s₀.heap.get? b=uA o/\X.H₀ b=uB
 bsz:X.base.objs.size<=X.s₀.heap.objs.size
 noex:∀b o,X.base.get? b=uA o->b∉X.ex
 exfs:∀b∈X.ex,b∉X.fs
 funs:X.s₀.heap.FunFrames X.base X.outer
 frf:∀b∈X.fs,X.H₀ b=uB
structure Inv(X:Cx)(aa:uQ)(σ:List (Option V))(H:Hp)(s:AA):Prop where
 ok:X.Ok
 os:s.os=X.s₀.os
 bare:MB s.gens
 base:Un X.fs X.ex X.H₀ H X.s₀.heap s.heap
 loc:∃m,s.heap.Ns X.env.locals m/\∀(i:Nat) (x:Str) (v:V),X.N[i]?=uA x->σ[i]?=uA (uA v)->Vis X.env.scope x->∃u,RelV v u/\Look X.env s.heap m x u
 cell:∀x c,X.env.cells.lookup x=uA c->∃v,s.heap.IsCell c v
 free:H X.env.locals=uB
 freeC:∀x c,X.env.cells.lookup x=uA c->H c=uB
 pin:∀p∈X.pn++aa,s.heap.get? p.1=uA p.2/\H p.1=uB/\p.1≠X.env.locals/\p.1∉X.fs/\∀v,p.2.data≠.cell v
 hok:HOk X.prog X.w H s.heap
 len:σ.length=X.N.length
section
variable{σ:List (Option V)}
theorem Cx.Ok.nofr(ok:X.Ok)(e:X.base.get? b=uA o):b∉X.fs:=λhb=>by
 have:=(ok.funs.mem hb).1;rw[e] at this;cases this
theorem Inv.bs(I:Inv X aa σ H s):∀b o,X.base.get? b=uA o->s.heap.get? b=uA o/\H b=uB:=λb o e =>
 ⟨I.base.keep b o (I.ok.bs b o e).1 (I.ok.bs b o e).2 (I.ok.nofr e) (I.ok.noex b o e),I.base.free b o (I.ok.bs b o e).1 (I.ok.bs b o e).2 (I.ok.noex b o e)⟩
theorem Inv.bk(I:Inv X aa σ H s):∀b o,X.base.get? b=uA o->s.heap.get? b=uA o:=λb o e=>(I.bs b o e).1
theorem Inv.mod(I:Inv X aa σ H s):Mod X.K X.mg X.base:=I.ok.mod
theorem Inv.kIn(I:Inv X aa σ H s):X.K.In s.heap:=I.ok.mod.kin.keeps I.bk
theorem Inv.lt(I:Inv X aa σ H s):X.env.locals<s.heap.objs.size:=by obtain⟨_,hn,_⟩:=I.loc;exact hn.lt
theorem Inv.sz(I:Inv X aa σ H s):X.s₀.heap.objs.size<=s.heap.objs.size:=BY I.ok.above (DB I.lt)
theorem Inv.nofs(I:Inv X aa σ H s)(h:s.heap.objs.size<=a):a∉X.fs:=λhb=>by
 obtain⟨_,o,ho,_⟩:=I.ok.funs.mem hb;exact uH (CD (Bz ho) (BY I.sz h)) (EX _)
theorem Inv.cne(I:Inv X aa σ H s):∀x c,X.env.cells.lookup x=uA c->c≠X.env.locals:=λx c e z=>by
 obtain⟨v,o,ho,hd⟩:=I.cell x c e;obtain⟨m,⟨o',es,ep,dA,cz,_⟩,_⟩:=I.loc;rw[z,dA] at ho;cases ho;rw[cz] at hd;cases hd
theorem Inv.funs(I:Inv X aa σ H s):s.heap.FunFrames X.base X.outer:=by
 have all:∀(l:List Env),(∀b∈frs l,b∈X.fs)->X.s₀.heap.FunFrames X.base l->s.heap.FunFrames X.base l:=by
  intro l
  induction l with
  | nil=>intro _ _;trivial
  | cons env r ih =>
   intro hs hl;obtain⟨hk,⟨L,o,hf,hn,ho,hd⟩,hr⟩:=hl;have hL:=hs L (by unfold frs;rw[JE,hf];exact AG);obtain⟨sl,e⟩:=I.base.slot L o ho (I.ok.frf L hL) hL λz=>I.ok.exfs L z hL;exact⟨hk,⟨L,_,hf,hn,e,hd⟩,ih (λb hb=>hs b (by unfold frs;rw[JE,hf];exact AK _ hb)) hr⟩
 exact all X.outer (λ_ hb=>hb) I.ok.funs
theorem Inv.stack(I:Inv X aa σ H s):s.heap.FunFrames X.base X.stack:=by
 rcases I.ok.stk with e| ⟨e,hf⟩
 .rw[e];exact I.funs
 .rw[e]
  obtain⟨m,hn,_⟩:=I.loc;refine .cons (by rw[I.ok.kind];decide) hf hn ?_ I.funs;exact Heap.get?_none_of_le (BY I.ok.bsz I.ok.above)
theorem Inv.stkSub(I:Inv X aa σ H s):∀b∈frs X.stack,b∈X.env.locals::X.fs:=λb hb=>by
 rcases I.ok.stk with e| ⟨e,hf⟩
 .rw[e] at hb;exact AK _ hb
 .rw[e] at hb
  unfold frs at hb;rw[JE,hf] at hb;exact hb
theorem Inv.stkFree(I:Inv X aa σ H s):∀b∈frs X.stack,H b=uB:=λb hb=>by
 rcases BH.mp (I.stkSub b hb) with e| hb
 .rw[e];exact I.free
 .obtain⟨_,o,ho,_⟩:=I.ok.funs.mem hb
  exact I.base.free b o ho (I.ok.frf b hb) λz=>I.ok.exfs b z hb
theorem Inv.step{d':Drawn}(I:Inv X aa σ H s)
  (gz:∀b∈ch,(b∈X.ex\/X.s₀.heap.objs.size<=b)/\b≠X.env.locals/\(∀x c,X.env.cells.lookup x=uA c->c≠b)/\∀p∈X.pn++aa,p.1≠b)
  (keep:∀b o,b≠X.env.locals->b∉X.fs->b∉ch->s.heap.get? b=uA o->H b=none->h'.get? b=uA o)
  (slot:∀b o,b≠X.env.locals->b∈X.fs->b∉ch->s.heap.get? b=uA o->H b=none->∃sl,h'.get? b=uA {o with slots:=sl}) (free:∀b o,b∉ch->s.heap.get? b=uA o->H b=none->H' b=uB)
  (there:∀b o,b∉ch->s.heap.get? b=uA o->∃o',h'.get? b=uA o')
  (tups:∀b xs,H b=uA (.tup xs)->H' b=uA (.tup xs)) (frzs:∀b o u,H b=uA (.frz o u)->H' b=uA (.frz o u)) (tbls:∀b ps,H b=uA (.tbl ps)->∃more,H' b=uA (.tbl (ps++more)))
  (ns:∀m,s.heap.Ns X.env.locals m->h'.Ns X.env.locals m) (hok:HOk X.prog X.w H' h') (hg:MB g') :
  Inv X aa σ H' {s with heap:=h',gens:=g',drawn:=d',toks:=t'}:=by
 have se:∀b o,X.s₀.heap.get? b=uA o->b≠X.env.locals:=λb o e=>BU (CD (Bz e) I.ok.above);have neC:∀b o,X.s₀.heap.get? b=uA o->b∉X.ex->b∉ch:=λb o e hx hb=>by
  rcases (gz b hb).1 with z| z
  .exact hx z
  .exact uH (CD (Bz e) z) (EX _)
 have me:∀x c,X.env.cells.lookup x=uA c->∀v,s.heap.IsCell c v->h'.IsCell c v:=by
  rintro x c e v ⟨o,ho,hd⟩;have ue:c∉ch:=λz=>(gz c z).2.2.1 x c e rfl;by_cases hc:c∈X.fs
  .obtain⟨sl,q⟩:=slot c o (I.cne x c e) hc ue ho (I.freeC x c e)
   exact⟨_,q,hd⟩
  .exact⟨o,keep c o (I.cne x c e) hc ue ho (I.freeC x c e),hd⟩
 refine⟨I.ok,I.os,hg,⟨λb o e n hb hx=>?_,λb o e n hb hx=>?_,λb o e n hx=>?_,λb o e hx=>?_,λb xs e=>tups b xs (I.base.tups b xs e),λb o xs e=>frzs b o xs (I.base.frzs b o xs e),λb ps e=>?_⟩,?_,λx c e=>?_,?_,λx c e=>?_,λp hp=>?_,hok,I.len⟩
 .exact keep b o (se b o e) hb (neC b o e hx) (I.base.keep b o e n hb hx) (I.base.free b o e n hx)
 .obtain⟨sl,e1⟩:=I.base.slot b o e n hb hx
  obtain⟨sl',e2⟩:=slot b _ (se b o e) hb (neC b o e hx) e1 (I.base.free b o e n hx);exact⟨sl',e2⟩
 .obtain⟨o',e1⟩:=I.base.there b o e hx
  exact free b o' (neC b o e hx) e1 (I.base.free b o e n hx)
 .obtain⟨o',e1⟩:=I.base.there b o e hx
  exact there b o' (neC b o e hx) e1
 .obtain⟨m1,e1⟩:=I.base.tbls b ps e
  obtain⟨m2,e2⟩:=tbls b _ e1;exact⟨m1++m2,by rw[e2,Array.append_assoc]⟩
 .obtain⟨m,hn,hl⟩:=I.loc
  refine⟨m,ns m hn,λi x v e1 e2 e3=>?_⟩;obtain⟨u,r,l⟩:=hl i x v e1 e2 e3;refine⟨u,r,?_⟩;rcases l with l| ⟨k,c,e,z⟩
  .exact .inl l
  .exact .inr ⟨k,c,e,me x c e _ z⟩
 .obtain⟨v,z⟩:=I.cell x c e
  exact⟨v,me x c e v z⟩
 .obtain⟨m,⟨o,_,_,ho,_⟩,_⟩:=I.loc
  exact free _ o (λz=>(gz _ z).2.1 rfl) ho I.free
 .obtain⟨v,o,ho,hd⟩:=I.cell x c e
  exact free c o (λz=>(gz c z).2.2.1 x c e rfl) ho (I.freeC x c e)
 .obtain⟨e,n,ne,nf,d⟩:=I.pin p hp
  have ue:p.1∉ch:=λz=>(gz p.1 z).2.2.2 p hp rfl;exact⟨keep p.1 p.2 ne nf ue e n,free p.1 p.2 ue e n,ne,nf,d⟩
theorem Inv.un(I:Inv X aa σ H s)(u:Un X.fs [] H H' s.heap h')(hok:HOk X.prog X.w H' h'):Inv X aa σ H' {s with heap:=h',toks:=t'}:=by
 obtain⟨m,⟨o,es,ep,ho,r⟩,_⟩:=id I.loc;obtain⟨sl,hL⟩:=u.any ho I.free (by simp);exact I.step (g':=s.gens) (d':=s.drawn) (ch:=[]) (λ_ z=>nomatch z) (λb o _ hb _ e n=>u.keep b o e n hb (by simp)) (λb o _ hb _ e n=>u.slot b o e n hb (by simp)) (λb o _ e n=>u.free b o e n (by simp)) (λb o _ e=>u.there b o e (by simp)) u.tups u.frzs u.tbls (λm' hm=>by
  obtain⟨o',bv,h7,dA,r'⟩:=hm;rw[ho] at dA;cases dA;exact⟨_,bv,h7,hL,r'⟩) hok I.bare
theorem Inv.call{d':Drawn}(I:Inv X aa σ H s)(u:Un (frs X.stack) ch H H' s.heap h')(hok:HOk X.prog X.w H' h')(hg:MB g')
  (gz:∀b∈ch,(b∈X.ex\/X.s₀.heap.objs.size<=b)/\b≠X.env.locals/\(∀x c,X.env.cells.lookup x=uA c->c≠b)/\∀p∈X.pn++aa,p.1≠b) :
  Inv X aa σ H' {s with heap:=h',gens:=g',drawn:=d',toks:=t'}:=by
 obtain⟨m,⟨o,es,ep,ho,r⟩,_⟩:=id I.loc;obtain⟨sl,hL⟩:=u.any ho I.free λz=>(gz _ z).2.1 rfl;exact I.step (ch:=ch) gz (λb o hL hb hc e n=>u.keep b o e n (λz=>(BH.mp (I.stkSub b z)).elim hL hb) hc) (λb o _ _ hc e n=>u.any e n hc) (λb o hc e n=>u.free b o e n hc) (λb o hc e=>u.there b o e hc) u.tups u.frzs u.tbls (λm' hm=>by
  obtain⟨o',bv,h7,dA,r'⟩:=hm;rw[ho] at dA;cases dA;exact⟨_,bv,h7,hL,r'⟩) hok hg
theorem Inv.turned(I:Inv X aa σ H s)(k:∀b o,b≠it->s.heap.get? b=uA o->h'.get? b=uA o)(hn:H it=uB)(hL:it≠X.env.locals)
  (h1:it∈X.ex\/X.s₀.heap.objs.size<=it) (h2:∀x c,X.env.cells.lookup x=uA c->c≠it) (h3:∀p∈X.pn++aa,p.1≠it):Inv X aa σ H {s with heap:=h',toks:=t'}:=by
 have sQ:∀b u,H b=uA u->b≠it:=λb u e z=>by rw[z,hn] at e;cases e
 refine I.step (g':=s.gens) (d':=s.drawn) (ch:=[it]) (λb hb=>?_) (λb o _ _ hc e _=>k b o (λz=>hc (by simp[z])) e) (λb o _ _ hc e _=>⟨o.slots,k b o (λz=>hc (by simp[z])) e⟩) (λ_ _ _ _ n=>n)
  (λb o hc e=>⟨o,k b o (λz=>hc (by simp[z])) e⟩) (λ_ _ e=>e) (λ_ _ _ e=>e) (λb ps e=>⟨#[],by rw[e];simp⟩) (λm hm=>?_) (λb u e=>?_) I.bare
 .have e:b=it:=by simpa using hb
  subst e;exact⟨h1,hL,h2,h3⟩
 .obtain⟨o,es,ep,ho,r⟩:=hm
  exact⟨o,es,ep,k _ o (Cb hL) ho,r⟩
 .refine(I.hok b u e).stay (λc v hc q=>k c v ?_ q) (λ_ q=>q) λ_ _ q=>q
  rcases hc with z| z
  .rw[z];exact sQ b u e
  .exact sQ c _ z
theorem Inv.tok(I:Inv X aa σ H s)(t:Nat):Inv X aa σ H {s with toks:=t}:=I.un (h':=s.heap) (t':=t) Un.refl I.hok
theorem Inv.kept(I:Inv X aa σ H s)(k:∀b u,s.heap.get? b=uA u->h'.get? b=uA u):Inv X aa σ H {s with heap:=h',toks:=t'}:=I.un (Un.kept k) (I.hok.kept k)
theorem Inv.laid{o:HO}(I:Inv X aa σ H s)(k:∀b u,s.heap.get? b=uA u->h'.get? b=uA u)(hp:s.heap.objs.size<=a)(new:ObjOk X.prog X.w (upd H a o) h' a o) :
  Inv X aa σ (upd H a o) {s with heap:=h',toks:=t'}:=I.un (Un.laid k hp (I.hok.fresh hp)) (I.hok.laid k hp new)
theorem Inv.write{x e:Addr}{o:HO}(I:Inv X aa σ H s)(mu:Mut (H x))(he:e=x\/H e=uA (.own x))(k:∀b u,b≠e->s.heap.get? b=uA u->h'.get? b=uA u)(qP:∃u,h'.get? e=uA u)
  (new:ObjOk X.prog X.w (upd H x o) h' x o):Inv X aa σ (upd H x o) {s with heap:=h',toks:=t'}:=I.un (Un.write mu he k qP) (I.hok.write mu he k qP new)
theorem Inv.pins_of{md:uQ}(I:Inv X aa σ H s)(h:∀p∈md,s.heap.get? p.1=uA p.2/\H p.1=uB/\p.1≠X.env.locals/\p.1∉X.fs/\∀v,p.2.data≠.cell v):Inv X md σ H s :=
 ⟨I.ok,I.os,I.bare,I.base,I.loc,I.cell,I.free,I.freeC,λp hp=>(Ct.mp hp).elim (λz=>I.pin p (EV _ z)) (h p),I.hok,I.len⟩
theorem Uq{N:uU}(hN:N.Nodup)(a:N[i]?=uA x)(b:N[j]?=uA x):i=j:=by
 obtain⟨h1,e1⟩:=AH.mp a;obtain⟨h2,e2⟩:=AH.mp b;exact(UA hN).mp (e1.trans e2.symm)
theorem zB1(h:True:=by first| exact .inl rfl| exact .inr rfl| assumption):True:=h
theorem Ph{M:W0}{Q:uO}(I:Inv X aa σ H s)(hN:X.N.Nodup)(hi:X.N[i]?=uA x)(hx:Loc X.env.scope x)(r:RelV v u)
  (h:∀s',Inv X aa (σ.set i (uA v)) H s'->(∃a,EZ a s.heap s'.heap/\(a=X.env.locals\/X.env.cells.lookup x=uA a))->Q () s') (hf:autoParam (X.fn x=true\/X.env.scope.names.lookup x=uA .local) zB1._auto_1):wpAny M A (storeName X.env x u) Q E s:=by
 obtain⟨m,hn,hl⟩:=id I.loc;have hcls:(X.env.scope.kind == .class||(X.env.scope.kind == .module&&X.env.locals != X.env.globals))=false:=by rw[I.ok.kind];rfl
 have hiσ:i<σ.length:=by rw[I.len];exact(AH.mp hi).1
 have cne:=I.cne;have eW:∀{a:Addr}{h':Heap},(∃o,s.heap.get? a=uA o/\H a=uB)->EZ a s.heap h'->HOk X.prog X.w H h':=λ{a h'} ha hs b ob e=>by
  obtain⟨_,_,ow⟩:=ha;refine(I.hok b ob e).stay (λc w' hc q=>(hs.2 c ?_).trans q) (λ_ q=>q) λ_ _ q=>q;rintro rfl;rcases hc with rfl| hc
  .rw[ow] at e;cases e
  .rw[ow] at hc;cases hc
 rcases hx with hk| hk
 .refine wpAny_storeName_local hk hn (λh' rL hs=>?_) hcls
  obtain⟨oL,_,_,nE,_⟩:=id hn;refine h _ ⟨I.ok,I.os,I.bare,⟨λb o e n hb hx=>?_,λb o e n hb hx=>?_,I.base.free,λb o e hx=>?_,I.base.tups,I.base.frzs,I.base.tbls⟩,⟨_,rL,λj y v' e1 e2 e3=>?_⟩,λy c e=>?_,I.free,I.freeC,λp hp=>?_,eW ⟨oL,nE,I.free⟩ hs,by simpa using I.len⟩ ⟨_,hs,.inl rfl⟩
  .exact(hs.2 b (BU (CD (Bz e) I.ok.above))).trans (I.base.keep b o e n hb hx)
  .obtain⟨sl,e1⟩:=I.base.slot b o e n hb hx
   exact⟨sl,(hs.2 b (BU (CD (Bz e) I.ok.above))).trans e1⟩
  .obtain⟨o',e1⟩:=I.base.there b o e hx
   exact⟨o',(hs.2 b (BU (CD (Bz e) I.ok.above))).trans e1⟩
  .by_cases hj:j=i
   .subst hj
    rw[hi] at e1;cases e1;rw[J9 hiσ] at e2;cases e2;exact⟨u,r,.inl ⟨hk,by simp⟩⟩
   .rw[K2 (Cb hj)] at e2
    obtain⟨u',r',q⟩:=hl j y v' e1 e2 e3;refine⟨u',r',?_⟩;rcases q with⟨k,e⟩| ⟨k,c,e,z⟩
    .refine .inl ⟨k,?_⟩
     have:y≠x:=λe=>hj (Uq hN e1 (e ▸ hi));simp[this,e]
    .exact .inr ⟨k,c,e,z.sameBut hs (cne y c e)⟩
  .obtain⟨w',z⟩:=I.cell y c e
   exact⟨w',z.sameBut hs (cne y c e)⟩
  .obtain⟨e,n,ne,nf,d⟩:=I.pin p hp
   exact⟨(hs.2 p.1 ne).trans e,n,ne,nf,d⟩
 .have hfn:X.fn x=true:=by
   rcases hf with z| z
   .exact z
   .rw[z] at hk;cases hk
  obtain⟨c,hc⟩:=I.ok.has x (.inl hk);obtain⟨w',z⟩:=I.cell x c hc;refine wpAny_storeName_cell I.ok.kind hk hc z (λh' tO hs=>?_);obtain⟨oc,hoc,hocd⟩:=id z;refine h {s with heap:=h'} ⟨I.ok,I.os,I.bare,⟨λb o e n hb hx=>?_,λb o e n hb hx=>?_,I.base.free,λb o e hx=>?_,I.base.tups,I.base.frzs,I.base.tbls⟩,⟨m,hn.sameBut hs (Cb (cne x c hc)),λj y v' e1 e2 e3=>?_⟩,λy c' e=>?_,I.free,I.freeC,λp hp=>?_,eW ⟨oc,hoc,I.freeC x c hc⟩ hs,by simpa using I.len⟩ ⟨c,hs,.inr hc⟩
  .exact(hs.2 b (BU (CD (Bz e) (I.ok.cab x c hfn hc)))).trans (I.base.keep b o e n hb hx)
  .obtain⟨sl,e1⟩:=I.base.slot b o e n hb hx
   exact⟨sl,(hs.2 b (BU (CD (Bz e) (I.ok.cab x c hfn hc)))).trans e1⟩
  .obtain⟨o',e1⟩:=I.base.there b o e hx
   exact⟨o',(hs.2 b (BU (CD (Bz e) (I.ok.cab x c hfn hc)))).trans e1⟩
  .by_cases hj:j=i
   .subst hj
    rw[hi] at e1;cases e1;rw[J9 hiσ] at e2;cases e2;exact⟨u,r,.inr ⟨.inl hk,c,hc,tO⟩⟩
   .rw[K2 (Cb hj)] at e2
    obtain⟨u',r',q⟩:=hl j y v' e1 e2 e3;refine⟨u',r',?_⟩;rcases q with q| ⟨k,c',e,z'⟩
    .exact .inl q
    .refine .inr ⟨k,c',e,z'.sameBut hs ?_⟩
     rintro rfl;exact hj (Uq hN e1 (I.ok.inj _ _ _ e hc ▸ hi))
  .by_cases hcc:c'=c
   .subst hcc;exact⟨_,tO⟩
   .obtain⟨w2,z2⟩:=I.cell y c' e
    exact⟨w2,z2.sameBut hs hcc⟩
  .obtain⟨e,n,ne,nf,d⟩:=I.pin p hp
   refine⟨(hs.2 p.1 ?_).trans e,n,ne,nf,d⟩;intro q;rw[q,hoc] at e;have q':=AN e;exact d w' (by rw[<- q'];exact hocd)
theorem VB{M:W0}{Q:uO}(I:Inv X aa σ H s)(hN:X.N.Nodup)(hi:X.N[i]?=uA x)(hx:Loc X.env.scope x)(r:RelV v u)
  (h:∀s',Inv X aa (σ.set i (uA v)) H s'->Q () s') (hf:autoParam (X.fn x=true\/X.env.scope.names.lookup x=uA .local) zB1._auto_1):wpAny M A (storeName X.env x u) Q E s :=
 Ph I hN hi hx r (λs' I' _=>h s' I') hf
theorem Inv.call'(I:Inv X aa σ H s)(ho:s'.os=s.os)(u:Un (frs X.stack) ch H H' s.heap s'.heap)(hok:HOk X.prog X.w H' s'.heap)(hg:MB s'.gens)
  (gz:∀b∈ch,(b∈X.ex\/X.s₀.heap.objs.size<=b)/\b≠X.env.locals/\(∀x c,X.env.cells.lookup x=uA c->c≠b)/\∀p∈X.pn++aa,p.1≠b):Inv X aa σ H' s':=by
 obtain⟨h',g',d',t',o'⟩:=s';have e:=ho;subst e;exact I.call (g':=g') (t':=t') (d':=d') u hok hg gz
end
abbrev XK:=As->Option Addr->Hp->Prop
abbrev St:=List (Option V)
variable{σ:L2.St}
abbrev VK:=V->Hp->Prop
abbrev TE:=St->Hp->VK->Prop
variable{te:L2.TE}
abbrev TT:=St->Hp->(Bool->Hp->Prop)->Prop
variable{tc:L2.TT}
abbrev TA:=St->Hp->(List V->Hp->Prop)->Prop
structure Ends where
 nx:St->Hp->Prop
 rt:VK
 bk:St->Hp->Prop:=λ_ _=>False
 ct:St->Hp->Prop:=λ_ _=>False
abbrev TS:=Ends->St->Hp->Prop
variable{tb:L2.TS}
def EP(X:Cx)(aa:uQ)(σ:St)(Q:VK)(u:As)(s':AA):Prop:=∃v H',Inv X aa σ H' s'/\RelV v u/\Q v H'
def TP(X:Cx)(aa:uQ)(σ:St)(Q:Bool->Hp->Prop)(b:Bool)(s':AA):Prop:=∃H',Inv X aa σ H' s'/\Q b H'
def AP(X:Cx)(aa:uQ)(σ:St)(Q:List V->Hp->Prop)(us:List As)(s':AA):Prop:=∃vs H',Inv X aa σ H' s'/\Vals vs us/\Q vs H'
def SP(X:Cx)(aa:uQ)(D:Ends)(f:Flow)(s':AA):Prop :=
 match f with
 | .next=>∃σ' H',Inv X aa σ' H' s'/\D.nx σ' H'
 | .brk=>∃σ' H',Inv X aa σ' H' s'/\D.bk σ' H'
 | .cont=>∃σ' H',Inv X aa σ' H' s'/\D.ct σ' H'
 | .ret u=>∃v σ' H',Inv X aa σ' H' s'/\RelV v u/\D.rt v H'
def PE(X:Cx)(e:Expr)(t:TE):Prop :=
 ∀(aa:uQ) (s:AA) (σ:St) (H:Hp) (Q:VK),Inv X aa σ H s->t σ H Q->wpAny (AM X.prog X.w) X.A (eval e X.env) (EP X aa σ Q) X.xe s
def PT(X:Cx)(e:Expr)(t:TT):Prop :=
 ∀(aa:uQ) (s:AA) (σ:St) (H:Hp) (Q:Bool->Hp->Prop),Inv X aa σ H s->t σ H Q->wpAny (AM X.prog X.w) X.A (UX e X.env (eval e X.env)) (TP X aa σ Q) X.xe s
def PW(X:Cx)(e:Expr)(t:TT):Prop :=
 ∀(ff:Sem As) (aa:uQ) (s:AA) (σ:St) (H:Hp) (Q:Bool->Hp->Prop),Inv X aa σ H s->t σ H Q->wpAny (AM X.prog X.w) X.A (UX e X.env ff) (TP X aa σ Q) X.xe s
theorem uq{t:TT}(h:PW X e t):PT X e t:=h _
def PA(X:Cx)(es:uV)(t:TA):Prop :=
 ∀(pos:Pos) (aa:uQ) (s:AA) (σ:St) (H:Hp) (Q:List V->Hp->Prop),Inv X aa σ H s->t σ H Q->wpAny (AM X.prog X.w) X.A (spliced (KF pos (CI es X.env))) (AP X aa σ Q) X.xe s
def PS(X:Cx)(st:Stmt)(t:TS):Prop :=
 ∀(aa:uQ) (s:AA) (σ:St) (H:Hp) (D:Ends),Inv X aa σ H s->t D σ H->wpAny (AM X.prog X.w) X.A (exec st X.env) (SP X aa D) X.xe s
def PSs(X:Cx)(st:List Stmt)(t:TS):Prop :=
 ∀(aa:uQ) (s:AA) (σ:St) (H:Hp) (D:Ends),Inv X aa σ H s->t D σ H->wpAny (AM X.prog X.w) X.A (execs st X.env) (SP X aa D) X.xe s
theorem thn{t:Sem α}{Q Q':α->AA->Prop}{M:W0}(h:wpAny M A t Q E s)(hQ:∀a s,Q a s->Q' a s):wpAny M A t Q' E s:=EK h hQ λ_ _ x=>x
section
def AHo(i:Nat):TE:=λσ H Q=>∃v,σ[i]?=uA (uA v)/\Q v H
def tC(v:V):TE:=λ_ H Q=>Q v H
theorem AGz(hN:X.N[i]?=uA x)(hv:Vis X.env.scope x)(hd:autoParam ((x==("__debug__" : Str))=false) zA1._auto_1)(jv:autoParam ((x==("__classdict__" : Str))=false) zA1._auto_1):PE X (.Name x pos) (AHo i):=by
 intro aa s σ H Q I h;obtain⟨v,e,h⟩:=h;obtain⟨m,hn,hl⟩:=I.loc;obtain⟨u,r,l⟩:=hl i x v hN e hv;have fin:EP X aa σ Q u s:=⟨v,H,I,r,h⟩;rcases l with⟨hk,hm⟩| ⟨hk,c,hc,eK⟩
 .exact UY (wpAny_loadName_local I.ok.kind hk hn hm fin) hd
 .rcases hk with hk| hk
  .exact UY (wpAny_loadName_cell I.ok.kind hk hc eK fin) hd
  .exact UY (wpAny_loadName_free I.ok.kind hk hc eK fin jv) hd
theorem Ag{i j pos}:PE X (.Constant (.int i) j pos) (tC (.int i)):=λ_ _ _ H _ I h=>wpAny_Constant_int ⟨.int i,H,I.tok _,⟨_,rfl⟩,h⟩
theorem Fo{b j pos}:PE X (.Constant (.bool b) j pos) (tC (.bl b)):=λ_ _ _ H _ I h=>Constant_bool ⟨.bl b,H,I,rfl,h⟩
theorem Ib{j pos}:PE X (.Constant .none j pos) (tC .non):=λ_ _ _ H _ I h=>RO ⟨.non,H,I,rfl,h⟩
def Gl(X:Cx)(x:Str):Prop:=X.env.kindOf x=uA .globalImplicit
theorem Ku(I:Inv X aa σ H s)(hg:Gl X x)(hm:X.mg x=uA u)(h:Q u s)
  (hd:autoParam ((x==("__debug__" : Str))=false) zA1._auto_1):wpAny (AM X.prog X.w) X.A (eval (.Name x pos) X.env) Q E s :=
 N3 I.ok.kind hg (Calls.loadGlobal_global (by rw[I.ok.glob];exact I.mod.glob.keeps I.bk) hm h) hd
theorem Fb(I:Inv X aa σ H s)(hg:Gl X x)(hm:X.mg x=uB)(hv:IR x=uA u)(h:Q u s)
  (hn:autoParam (x≠"__name__") zA1._auto_1) (hd:autoParam ((x==("__debug__" : Str))=false) zA1._auto_1):wpAny (AM X.prog X.w) X.A (eval (.Name x pos) X.env) Q E s:=by
 obtain⟨mb,h1,h2⟩:=I.mod.blt;exact N3 I.ok.kind hg (Calls.loadGlobal_builtin (by rw[I.ok.glob];exact I.mod.glob.keeps I.bk) hm (by rw[I.ok.blt];exact h1.keeps I.bk) ((h2 x hn).trans hv) h) hd
theorem FP(hg:Gl X x)(hm:X.mg x=uA u)(r:RelV v u)(hd:autoParam ((x==("__debug__" : Str))=false) zA1._auto_1):PE X (.Name x pos) (tC v) :=
 λ_ _ _ H _ I h=>Ku I hg hm ⟨v,H,I,r,h⟩ hd
theorem AFJ(hg:Gl X x)(hm:X.mg x=uB)(hv:IR x=uA u)(r:RelV v u)(hn:autoParam (x≠"__name__") zA1._auto_1)(hd:autoParam ((x==("__debug__" : Str))=false) zA1._auto_1):PE X (.Name x pos) (tC v) :=
 λ_ _ _ H _ I h=>Fb I hg hm hv ⟨v,H,I,r,h⟩ hn hd
variable{a b:Expr}{ta tb:TE}
def PC(X:Cx)(op:Tb)(a b:Expr)(t:TE):Prop :=
 ∀(aa:uQ) (s:AA) (σ:St) (H:Hp) (Q:VK),Inv X aa σ H s->t σ H Q ->
  wpAny (AM X.prog X.w) X.A (eval a X.env) (λv s₁=>wpAny (AM X.prog X.w) X.A (eval b X.env) (λu s₂=>wpAny (AM X.prog X.w) X.A (ED op v u) (EP X aa σ Q) X.xe s₂) X.xe s₁) X.xe s
theorem Uo(b:Expr)(h:op≠.In)(h2:op≠.NotIn):IB op b=false:=by
 have e1:(op==ZZ)=false:=by cases op<;>first| rfl| exact uH rfl h
 have e2:(op==YV)=false:=by cases op<;>first| rfl| exact uH rfl h2
 cases b<;>simp[IB,e1,e2]
def AHt(ta:TE):TE:=λσ H Q=>ta σ H λx H1=>Q (.bl (decide (x=.non))) H1
def AHh(ta:TE):TE:=λσ H Q=>ta σ H λx H1=>Q (.bl (!decide (x=.non))) H1
theorem RelV.none_iff{x:V}{v:As}(r:RelV x v):(v==DE)=decide (x=.non):=by
 cases x with
 | non=>cases r;rfl
 | bl _=>cases r;rfl
 | int _=>obtain⟨t,rfl⟩:=r;rfl
 | str _=>obtain⟨t,rfl⟩:=r;rfl
 | byt _=>obtain⟨t,rfl⟩:=r;rfl
 | flt _=>obtain⟨t,rfl⟩:=r;rfl
 | ref _=>cases r;rfl
 | ty _=>cases r;rfl
theorem QF{j bg}(ha:PE X a ta):PC X .Is a (.Constant .none j bg) (AHt ta):=by
 intro aa s σ H Q I h;refine thn (ha aa s σ H _ I h) λv s1 hq=>?_;obtain⟨x,H1,I1,r1,q1⟩:=hq;exact RO (is_none_gen ⟨.bl _,H1,I1,by rw[r1.none_iff];rfl,q1⟩)
theorem ADz{j bg}(ha:PE X a ta):PC X .IsNot a (.Constant .none j bg) (AHh ta):=by
 intro aa s σ H Q I h;refine thn (ha aa s σ H _ I h) λv s1 hq=>?_;obtain⟨x,H1,I1,r1,q1⟩:=hq;exact RO (isnot_none_gen ⟨.bl _,H1,I1,by rw[r1.none_iff];rfl,q1⟩)
def tB(t:TE):TT:=λσ H Q=>t σ H λx H1=>∃c,x=.bl c/\Q c H1
theorem zB2(h:True:=by first| exact Uo _ (by decide) (by decide)| rfl):True:=h
theorem AGY{t:TE}(h:PC X op a b t)(h1:autoParam (IB op b=false) zB2._auto_1):PE X (.Compare a [op] [b] pos) t:=λaa s σ H Q I hw=>VW (h aa s σ H Q I hw) h1
theorem Ia{t:TE}(h:PC X op a b t)(h1:autoParam (IB op b=false) zB2._auto_1):PT X (.Compare a [op] [b] pos) (tB t):=by
 intro aa s σ H Q I hw;refine Qb (thn (h aa s σ H _ I hw) λv s1 h1=>thn h1 λu s2 h2=>thn h2 λc s3 hq=>?_) h1;obtain⟨x,H1,I1,r1,q1⟩:=hq;obtain⟨d,rfl,q⟩:=q1;cases r1;exact Hc ⟨H1,I1,q⟩
theorem Ei{t:TE}(h:PE X e t)(he:autoParam (∀ff,UX e X.env ff=(do let v <- ff;VX e.pos;NB [v] (truthy v))) zA2._auto_1):PT X e (tB t):=by
 intro aa s σ H Q I hw;refine isTrue_plain (thn (h aa s σ H _ I hw) λv s1 hq=>?_) (he _);obtain⟨x,H1,I1,r1,q1⟩:=hq;obtain⟨d,rfl,q⟩:=q1;cases r1;exact Hc ⟨H1,I1,q⟩
variable{tA tB':TT}{ar:uV}
def AIK(t u:TT):TT:=λσ H Q=>t σ H λc H1=>if c=true then u σ H1 Q else Q false H1
def tOr(t u:TT):TT:=λσ H Q=>t σ H λc H1=>if c=true then Q true H1 else u σ H1 Q
def AIH(t:TT):TT:=λσ H Q=>t σ H λc H1=>Q (!c) H1
theorem Hs(ha:PT X a tA):PW X (.BoolOp .And [a] pos) tA:=by
 intro wh aa s σ H Q I h;refine isTrue_and (thn (ha aa s σ H Q I h) λc s1 e=>?_);cases c with
 | true=>exact isTrue_and_nil e
 | false=>exact e
theorem FT(ha:PT X a tA):PW X (.BoolOp .Or [a] pos) tA:=by
 intro wh aa s σ H Q I h;refine isTrue_or (thn (ha aa s σ H Q I h) λc s1 e=>?_);cases c with
 | false=>exact isTrue_or_nil e
 | true=>exact e
theorem Gj(ha:PT X a tA)(hb:PW X (.BoolOp .And (b::ar) pos) tB'):PW X (.BoolOp .And (a::b::ar) pos) (AIK tA tB'):=by
 intro wh aa s σ H Q I h;refine isTrue_and (thn (ha aa s σ H _ I h) λc s1 hq=>?_);obtain⟨H1,I1,q1⟩:=hq;cases c with
 | true=>exact hb wh aa s1 σ H1 Q I1 q1
 | false=>exact⟨H1,I1,q1⟩
theorem Gg(ha:PT X a tA)(hb:PW X (.BoolOp .Or (b::ar) pos) tB'):PW X (.BoolOp .Or (a::b::ar) pos) (tOr tA tB'):=by
 intro wh aa s σ H Q I h;refine isTrue_or (thn (ha aa s σ H _ I h) λc s1 hq=>?_);obtain⟨H1,I1,q1⟩:=hq;cases c with
 | true=>exact⟨H1,I1,q1⟩
 | false=>exact hb wh aa s1 σ H1 Q I1 q1
theorem Io(ha:PT X a tA):PT X (.UnaryOp .Not a pos) (AIH tA):=by
 intro aa s σ H Q I h;exact isTrue_not (ha aa s σ H (λc H1=>Q (!c) H1) I h)
def AHf(ta tb:TE):TE:=λσ H Q=>ta σ H λx H1=>∃c,x=.bl c/\if c=true then tb σ H1 Q else Q (.bl false) H1
theorem Ww{op}{t:TE}(h:PE X a t):PE X (.BoolOp op [a] pos) t:=λaa s σ H Q I hw=>BoolOp_one (h aa s σ H Q I hw)
theorem Vh(ha:PE X a ta)(hb:PE X (.BoolOp .And (b::ar) pos) tb):PE X (.BoolOp .And (a::b::ar) pos) (AHf ta tb):=by
 intro aa s σ H Q I h;refine BoolOp_and (thn (ha aa s σ H _ I h) λv s1 hq=>?_);obtain⟨x,H1,I1,r1,q1⟩:=hq;obtain⟨c,rfl,q1⟩:=q1;cases r1;refine Hc ?_;cases c with
 | true=>exact hb aa s1 σ H1 Q I1 q1
 | false=>exact⟨.bl false,H1,I1,rfl,q1⟩
def tIf(t:TT)(ta tb:TE):TE:=λσ H Q=>t σ H λc H1=>if c=true then ta σ H1 Q else tb σ H1 Q
theorem MN(hc:PT X c tA)(ha:PE X a ta)(hb:PE X b tb):PE X (.IfExp c a b pos) (tIf tA ta tb):=by
 intro aa s σ H Q I h;refine wpAny_IfExp (thn (hc aa s σ H _ I h) λd s1 hq=>?_);obtain⟨H1,I1,q1⟩:=hq;cases d with
 | true=>exact ha aa s1 σ H1 Q I1 q1
 | false=>exact hb aa s1 σ H1 Q I1 q1
end
def SqL(K:Ap)(H:Hp)(a:Addr)(xs:List V):Prop :=
 Rd H a (.lst xs) \/
  ∃(o:Obj) (ag:Array As) (n:Nat),K.lookup a=uA o/\o.cls=.type "list"/\o.dict=uB/\o.data=.seq ag n/\ag.size<=sizeLine/\Vals xs ag.toList
def SqT(K:Ap)(H:Hp)(a:Addr)(xs:List V):Prop :=
 Rd H a (.tup xs) \/
  ∃(o:Obj) (ag:Array As) (n:Nat),K.lookup a=uA o/\o.cls=.type "tuple"/\o.data=.seq ag n/\ag.size<=sizeLine/\Vals xs ag.toList
noncomputable def absV:As->Option V
 | .none=>uA .non
 | .bool b=>uA (.bl b)
 | .int i _=>uA (.int i)
 | .str x _=>uA (.str x)
 | .bytes b _=>uA (.byt b)
 | .float b _=>uA (.flt b)
 | .ref a=>uA (.ref a)
 | .type n=>uA (.ty n)
 | _=>uB
theorem RelV.abs{x:V}(r:RelV x u):absV u=uA x:=by
 cases x with
 | non=>cases r;rfl
 | bl _=>cases r;rfl
 | int _=>obtain⟨t,rfl⟩:=r;rfl
 | str _=>obtain⟨t,rfl⟩:=r;rfl
 | byt _=>obtain⟨t,rfl⟩:=r;rfl
 | flt _=>obtain⟨t,rfl⟩:=r;rfl
 | ref _=>cases r;rfl
 | ty _=>cases r;rfl
theorem RelV.inj{x:V}(r:RelV x u)(q:RelV y u):x=y:=AN (r.abs.symm.trans q.abs)
theorem Vals.inj:∀{xs ys:List V}{us:List As},Vals xs us->Vals ys us->xs=ys:=by
 intro xs ys us h
 induction h generalizing ys with
 | nil=>intro h;cases h;rfl
 | cons r t ih=>intro h;cases h with| cons r' t'=>rw[r.inj r',ih t']
section
variable{ys:List V}
theorem SqL.of(h:H a=uA (.lst xs)):SqL K H a xs:=.inl (.inl h)
def uy:=@SqL.of
theorem SqT.of(h:H a=uA (.tup xs)):SqT K H a xs:=.inl (.inl h)
def uz:=@SqT.of
theorem Inv.list(I:Inv X aa σ H s)(h:SqL X.K H a xs):∃ag:List As,Vals xs ag/\PlainL s.heap a ag.toArray/\xs.length<=sizeLine:=by
 rcases h with h| ⟨o,ag,n,hk,hc,hd,hs,hz,r⟩
 .obtain⟨z,ag,n,r,e⟩:=h.ok I.hok
  exact⟨ag,r,⟨_,n,e,rfl,rfl,rfl⟩,z⟩
 .refine⟨ag.toList,r,⟨o,n,I.kIn a o hk,hc,hd,by simpa using hs⟩,?_⟩
  have e:=r.length;simp only[A9] at e;exact xA e hz
theorem Inv.tuple(I:Inv X aa σ H s)(h:SqT X.K H a xs):∃ag:List As,Vals xs ag/\Ta s.heap a ag.toArray/\xs.length<=sizeLine:=by
 rcases h with h| ⟨o,ag,n,hk,hc,hs,hz,r⟩
 .obtain⟨z,ag,r,p⟩:=h.ok I.hok
  exact⟨ag,r,p,z⟩
 .refine⟨ag.toList,r,⟨o,I.kIn a o hk,hc,n,by simpa using hs⟩,?_⟩
  have e:=r.length;simp only[A9] at e;exact xA e hz
theorem Inv.list_inj(I:Inv X aa σ H s)(h:SqL X.K H a xs)(h':SqL X.K H a ys):xs=ys:=by
 obtain⟨ag,r,⟨o,n,e,_,_,d⟩,_⟩:=I.list h;obtain⟨its',r',⟨o',n',e',_,_,d'⟩,_⟩:=I.list h';rw[e] at e';cases e';rw[d] at d';injection d' with d1 _
 have:ag=its':=by simpa using congrArg SA d1
 subst this;exact r.inj r'
theorem Inv.tuple_inj(I:Inv X aa σ H s)(h:SqT X.K H a xs)(h':SqT X.K H a ys):xs=ys:=by
 obtain⟨ag,r,⟨o,e,_,n,d⟩,_⟩:=I.tuple h;obtain⟨its',r',⟨o',e',_,n',d'⟩,_⟩:=I.tuple h';rw[e] at e';cases e';rw[d] at d';injection d' with d1 _
 have:ag=its':=by simpa using congrArg SA d1
 subst this;exact r.inj r'
end
noncomputable abbrev Cx.wish(X:Cx)(E:As->AA->Prop):Cx:={X with xe:=E}
noncomputable abbrev Cx.nox(X:Cx):Cx:=X.wish λ_ _=>False
theorem Cx.Ok.wish(ok:X.Ok)(E:As->AA->Prop):(X.wish E).Ok :=
 ⟨ok.mod,ok.kind,ok.glob,ok.blt,ok.above,ok.inj,ok.has,ok.cab,ok.hd,ok.frames,ok.stk,ok.exf,ok.bs,ok.bsz,ok.noex,ok.exfs,ok.funs,ok.frf⟩
theorem Cx.Ok.unwish(ok:(X.wish E).Ok):X.Ok :=
 ⟨ok.mod,ok.kind,ok.glob,ok.blt,ok.above,ok.inj,ok.has,ok.cab,ok.hd,ok.frames,ok.stk,ok.exf,ok.bs,ok.bsz,ok.noex,ok.exfs,ok.funs,ok.frf⟩
theorem Inv.wish(I:Inv X aa σ H s)(E:As->AA->Prop):Inv (X.wish E) aa σ H s:=⟨I.ok.wish E,I.os,I.bare,I.base,I.loc,I.cell,I.free,I.freeC,I.pin,I.hok,I.len⟩
theorem Inv.unwish(I:Inv (X.wish E) aa σ H s):Inv X aa σ H s:=⟨I.ok.unwish,I.os,I.bare,I.base,I.loc,I.cell,I.free,I.freeC,I.pin,I.hok,I.len⟩
theorem SP.unwish{D:Ends}{f:Flow}(h:SP (X.wish E) aa D f s'):SP X aa D f s':=by
 cases f with
 | next=>obtain⟨σ',H',I,q⟩:=h;exact⟨σ',H',I.unwish,q⟩
 | brk=>obtain⟨σ',H',I,q⟩:=h;exact⟨σ',H',I.unwish,q⟩
 | cont=>obtain⟨σ',H',I,q⟩:=h;exact⟨σ',H',I.unwish,q⟩
 | ret u=>obtain⟨v,σ',H',I,r,q⟩:=h;exact⟨v,σ',H',I.unwish,r,q⟩
theorem PSs.nox{st:List Stmt}{t:TS}(h:PSs X.nox st t):PSs X st t:=λaa s σ H D I hw =>
 EK (h aa s σ H D (I.wish _) hw) (λ_ _ q=>q.unwish) λ_ _ z=>E8 z
section
variable{st:Stmt}{t u:TS}
def AHj:TS:=λD σ H=>D.nx σ H
def AHz(t u:TS):TS:=λD σ H=>t {D with nx:=u D} σ H
theorem BJ:PSs X [] AHj:=λ_ _ σ H _ I h=>MO ⟨σ,H,I,h⟩
theorem Ad(h1:PS X st t)(h2:PSs X ar u):PSs X (st::ar) (AHz t u):=by
 intro aa s σ H D I h;refine OU (thn (h1 aa s σ H {D with nx:=u D} I h) λf s1 q=>?_);cases f with
 | next =>
  obtain⟨σ',H',I',q⟩:=q;exact h2 aa s1 σ' H' D I' q
 | ret v=>exact q
 | brk=>exact q
 | cont=>exact q
theorem Ai(h1:PS X st t):PSs X [st] t:=by
 intro aa s σ H D I h;refine OU (thn (h1 aa s σ H D I h) λf s1 q=>?_);cases f with
 | next=>exact MO q
 | ret v=>exact q
 | brk=>exact q
 | cont=>exact q
theorem Inv.quiet(I:Inv X aa σ H s):interactive X.env=false:=by simp[interactive,I.ok.kind]
def AHe(te:TE):TS:=λD σ H=>te σ H λ_ H1=>D.nx σ H1
theorem Cw(he:PE X e te)(hs:autoParam (MC e uB pos.line X.env=pure false) zA0._auto_1):PS X (.Expr e pos) (AHe te):=by
 intro aa s σ H D I h;exact wpAny_Expr_any (thn (he aa s σ H _ I h) λv s1 ⟨x,H1,I1,r1,q1⟩=>⟨σ,H1,I1,q1⟩) I.quiet hs
def AIE(te:TE):TS:=λD σ H=>te σ H D.rt
theorem Ao(he:PE X e te):PS X (.Return (uA e) pos) (AIE te):=by
 intro aa s σ H D I h;exact wpAny_Return_some (thn (he aa s σ H _ I h) λv s1 ⟨x,H1,I1,r1,q1⟩=>⟨x,σ,H1,I1,r1,q1⟩)
def AHv(c:TT)(t u:TS):TS:=λD σ H=>c σ H λb H1=>if b=true then t D σ H1 else u D σ H1
theorem Bl{a b:List Stmt}(hc:PT X c tc)(ha:PSs X a t)(hb:PSs X b u):PS X (.If c a b pos) (AHv tc t u):=by
 intro aa s σ H D I h;refine wpAny_If (thn (hc aa s σ H _ I h) λd s1 hq=>?_);obtain⟨H1,I1,q1⟩:=hq;cases d with
 | true=>exact ha aa s1 σ H1 D I1 q1
 | false=>exact hb aa s1 σ H1 D I1 q1
def AFu:TS:=λ_ _ _=>False
theorem Fi{sts:List Stmt}:PSs X sts AFu:=λ_ _ _ _ _ _ h=>h.elim
end
abbrev TG:=V->St->Hp->(St->Hp->Prop)->Prop
abbrev TGs:=List V->St->Hp->(St->Hp->Prop)->Prop
def PG(X:Cx)(cm:Expr)(t:TG):Prop :=
 ∀(aa:uQ) (s:AA) (σ:St) (H:Hp) (v:V) (u:As) (Q:St->Hp->Prop),Inv X aa σ H s->RelV v u->t v σ H Q ->
  wpAny (AM X.prog X.w) X.A (SC cm X.env u) (λ_ s'=>∃σ' H',Inv X aa σ' H' s'/\Q σ' H') X.xe s
def PGs(X:Cx)(ts:uV)(t:TGs):Prop :=
 ∀(aa:uQ) (s:AA) (σ:St) (H:Hp) (vs:List V) (us:List As) (Q:St->Hp->Prop),Inv X aa σ H s->Vals vs us->t vs σ H Q ->
  wpAny (AM X.prog X.w) X.A (assignInOrder ((K3 ts X.env).map (·.2)) us) (λ_ s'=>∃σ' H',Inv X aa σ' H' s'/\Q σ' H') X.xe s
abbrev TSet:=V->V->V->Hp->(Hp->Prop)->Prop
def PSet(X:Cx)(t:TSet):Prop :=
 ∀(aa:uQ) (s:AA) (σ:St) (H:Hp) (o i v:V) (ov iv u:As) (Q:Hp->Prop),Inv X aa σ H s->RelV o ov->RelV i iv->RelV v u->t o i v H Q ->
  wpAny (AM X.prog X.w) X.A (VY ov iv u) (λ_ s'=>∃H',Inv X aa σ H' s'/\Q H') X.xe s
def gName(i:Nat):TG:=λv σ H Q=>Q (σ.set i (uA v)) H
theorem Yy(hN:X.N.Nodup)(hi:X.N[i]?=uA x)(hx:Loc X.env.scope x)(hf:autoParam (X.fn x=true\/X.env.scope.names.lookup x=uA .local) zB1._auto_1):PG X (.Name x pos) (gName i):=by
 intro aa s σ H v u Q I r h;exact To (VB I hN hi hx r (λs' I'=>⟨_,H,I',h⟩) hf)
theorem zB0(h:True:=by first| exact K8 rfl| exact NO rfl):True:=h
theorem BX(hN:X.N.Nodup)(hi:autoParam (X.N[i]?=uA x) zA0._auto_1)(hx:autoParam (Loc X.env.scope x) zB0._auto_1)(hf:autoParam (X.fn x=true\/X.env.scope.names.lookup x=uA .local) zB0._auto_1):PG X (.Name x pos) (gName i):=Yy hN hi hx hf
theorem BK(hN:X.N.Nodup:=by exact uG rfl)(hi:autoParam (X.N[i]?=uA x) zA0._auto_1)(hx:autoParam (Loc X.env.scope x) zB0._auto_1)(hf:autoParam (X.fn x=true\/X.env.scope.names.lookup x=uA .local) zB0._auto_1):PG X (.Name x pos) (gName i):=Yy hN hi hx hf
def gNil:TGs:=λvs σ H Q=>vs=[]/\Q σ H
def gCons(t:TG)(u:TGs):TGs:=λvs σ H Q=>∃v r,vs=v::r/\t v σ H λσ' H'=>u r σ' H' Q
theorem Dp:PGs X [] gNil:=by
 intro aa s σ H vs us Q I r h;obtain⟨e,h⟩:=h;subst e;cases r;exact assignInOrder_nil ⟨σ,H,I,h⟩
theorem Bd{t:TG}{u:TGs}(h1:PG X e t)(h2:PGs X es u)
  (hs:autoParam ((K3 (e::es) X.env).map (·.2)=SC e X.env::(K3 es X.env).map (·.2)) zA0._auto_1):PGs X (e::es) (gCons t u):=by
 intro aa s σ H vs us Q I r h;obtain⟨v,vr,e1,h⟩:=h;subst e1;cases r with
 | cons r rr =>
  rw[hs];refine assignInOrder_cons (thn (h1 aa s σ H _ _ _ I r h) λ_ s1 hq=>?_);obtain⟨σ1,H1,I1,q1⟩:=hq;exact h2 aa s1 σ1 H1 _ _ Q I1 rr q1
def gTup(K:Ap)(n:Nat)(t:TGs):TG:=λv σ H Q=>∃a xs,v=.ref a/\SqT K H a xs/\xs.length=n/\t xs σ H Q
theorem Ju{k:Nat}{t:TGs}(hc:X.calm=true)(h:PGs X es t)
  (hn:autoParam ((K3 es X.env).length=n) zA0._auto_1) (dk:autoParam ((K3 es X.env).findIdx? (·.1)=uB) zA0._auto_1):PG X (.Tuple es k pos) (gTup X.K n t):=by
 intro aa s σ H v u Q I r hw;obtain⟨a,xs,e1,hq,hl,hw⟩:=hw;subst e1;cases r;obtain⟨ag,rv,ht,hz⟩:=I.tuple hq;refine assign_Tuple_tuple (I.ok.hd hc) ht (by simp[hn,<- hl,rv.length]) dk λh' hx=>?_;have I1:=I.kept (t':=s.toks) λb o e=>hx b o (BU (Bz e)) e;exact h aa _ σ H xs _ Q I1 (by simpa using rv) hw
def gSub(to ti:TE)(t:TSet):TG:=λv σ H Q=>to σ H λo H1=>ti σ H1 λi H2=>t o i v H2 λH3=>Q σ H3
theorem Qz{o i:Expr}{to ti:TE}{t:TSet}(ho:PE X o to)(hi:PE X i ti)(hs:PSet X t)
  (ha:autoParam (∀v,SC (.Subscript o i pos) X.env v=(do
   let ov <- NB [v] (eval o X.env)
   let iv <- NB [v,ov] (eval i X.env)
   VX pos
   NB [v,ov,iv] (VY ov iv v)
   release [v,ov,iv] [])) zA2._auto_1):PG X (.Subscript o i pos) (gSub to ti t):=by
 intro aa s σ H v u Q I r h;rw[ha];refine Au (EA (thn (ho aa s σ H _ I h) λov s1 hq=>?_));obtain⟨x,H1,I1,r1,q1⟩:=hq;refine Au (EA (thn (hi aa s1 σ H1 _ I1 q1) λiv s2 hq=>?_));obtain⟨y,H2,I2,r2,q2⟩:=hq;refine Au (RR (Au (EA (thn (hs aa s2 σ H2 x y v ov iv u _ I2 r1 r2 r q2) λ_ s3 hq=>?_))));obtain⟨H3,I3,q3⟩:=hq;exact wpAny_release ⟨σ,H3,I3,q3⟩
def AFL(te:TE)(g:TG):TS:=λD σ H=>te σ H λx H1=>g x σ H1 D.nx
theorem Jp{g:TG}(he:PE X e te)(hg:PG X tg g)(hs:autoParam (swapsWithSole [tg] e pos.line X.env=pure false) zA0._auto_1)(hw:autoParam (swappedStores [tg] e X.env=pure uB) zA0._auto_1)
  (h1:autoParam ((K3 [tg] X.env).map (·.2)=[SC tg X.env]) zA0._auto_1):PS X (.Assign [tg] e pos) (AFL te g):=by
 intro aa s σ H D I h;refine wpAny_Assign_stores (thn (he aa s σ H _ I h) λv s1 hq=>?_) hs hw;obtain⟨x,H1,I1,r1,q1⟩:=hq;rw[h1];exact thn (hg aa s1 σ H1 x v _ I1 r1 q1) λ_ s2 q=>q
theorem AGO(hN:X.N.Nodup)(hi:X.N[i]?=uA x)(hx:Loc X.env.scope x)(he:PE X e te)(hs:autoParam (MC e (uA (.Name x bg)) pos.line X.env=pure false) zA0._auto_1)(hf:autoParam (X.fn x=true\/X.env.scope.names.lookup x=uA .local) zB1._auto_1) :
  PS X (.Assign [.Name x bg] e pos) (AFL te (gName i)):=by
 intro aa s σ H D I h;refine wpAny_Assign_Name (thn (he aa s σ H _ I h) λv s1 hq=>?_) hs;obtain⟨y,H1,I1,r1,q1⟩:=hq;exact VB I1 hN hi hx r1 (λs2 I2=>⟨_,H1,I2,q1⟩) hf
theorem Ak(hN:X.N.Nodup)(he:PE X e te)(hi:autoParam (X.N[i]?=uA x) zA0._auto_1)(hx:autoParam (Loc X.env.scope x) zB0._auto_1)(hs:autoParam (MC e (uA (.Name x bg)) pos.line X.env=pure false) zA0._auto_1)(hf:autoParam (X.fn x=true\/X.env.scope.names.lookup x=uA .local) zB0._auto_1) :
  PS X (.Assign [.Name x bg] e pos) (AFL te (gName i)):=AGO hN hi hx he hs hf
def AGp(c:TT)(tb:TS):TS:=λD σ H=>∃W:Nat->St->Hp->Prop,(∃m,W m σ H)/\∀m σ H,W m σ H ->
 c σ H λb H1=>if b=true then ∃N:St->Hp->Prop,(∀σ' H',N σ' H'->∃m',m'<m/\W m' σ' H')/\tb {D with nx:=N,ct:=N,bk:=D.nx} σ H1 else D.nx σ H1
theorem Ud(hp:PassesOwn (AM X.prog X.w) X.A X.env X.xe)(hc:PT X c tc)(hb:PSs X body tb):PS X (.While c body [] pos) (AGp tc tb):=by
 intro aa s σ H D I h;obtain⟨W,⟨m0,w0⟩,turn⟩:=h;refine wpAny_While (codeAny_whileLoop (λn s'=>∃σ' H',Inv X aa σ' H' s'/\W n σ' H') ?_ m0 ⟨σ,H,I,w0⟩);rintro n s1 ⟨σ1,H1,I1,w1⟩;refine Iq hp (thn (hc aa s1 σ1 H1 _ I1 (turn n σ1 H1 w1)) λb s2 hq=>?_);obtain⟨H2,I2,q2⟩:=hq;cases b with
 | true =>
  obtain⟨N,hN,q2⟩:=q2;rw[uD rfl];refine Iq hp (thn (hb aa s2 σ1 H2 _ I2 q2) λf s3 q3=>?_);cases f with
  | next =>
   obtain⟨σ3,H3,I3,n3⟩:=q3;obtain⟨m',hm,w3⟩:=hN σ3 H3 n3;exact⟨m',hm,σ3,H3,I3,w3⟩
  | cont =>
   obtain⟨σ3,H3,I3,n3⟩:=q3;obtain⟨m',hm,w3⟩:=hN σ3 H3 n3;exact⟨m',hm,σ3,H3,I3,w3⟩
  | brk=>exact q3
  | ret v=>exact q3
 | false =>
  rw[uC Be];exact MO ⟨σ1,H2,I2,q2⟩
structure It where
 go:Nat->Hp->Prop
 yld:Nat->Hp->V->Hp->Prop
 stop:Nat->Hp->Prop
def FpOk(X:Cx)(aa:uQ)(H:Hp)(b:Addr):Prop :=
 H b=uB/\b≠X.env.locals/\b∉X.fs/\(b∈X.ex\/X.s₀.heap.objs.size<=b)/\(∀x c,X.env.cells.lookup x=uA c->c≠b)/\∀p∈X.pn++aa,p.1≠b
theorem Inv.fpOk(I:Inv X aa σ H s)(hb:s.heap.objs.size<=b)(hn:H' b=uB):FpOk X aa H' b:=by
 refine⟨hn,XI (CD I.lt hb),I.nofs hb,.inr (BY I.sz hb),λx c e z=>?_,λp hp z=>?_⟩
 .obtain⟨v,q⟩:=I.cell x c e
  exact uH (CD q.lt (by rw[z];exact hb)) (EX _)
 .exact uH (CD (Bz (I.pin p hp).1) (by rw[z];exact hb)) (EX _)
structure Turn(P:AL)(w:AQ)(K:Ap)(tg:Expr)(J:It)(fp:uY)(it:Addr)(tn:Nat->Heap->Prop):Prop where
 mem:it∈fp
 obj:∀i h,tn i h->∀b∈fp,∃o,h.get? b=uA o/\∀v,o.data≠.cell v
 keep:∀i h h',tn i h->(∀b∈fp,∀o,h.get? b=uA o->h'.get? b=uA o)->tn i h'
 item:∀(X:Cx),X.prog=P->X.w=w->X.K=K->X.calm=true->∀(i:Nat) (aa:uQ) (s:AA) (σ:St) (H:Hp) (E:As->AA->Prop),Inv X aa σ H s->(∀b∈fp,FpOk X aa H b)->tn i s.heap->J.go i H ->
  wpAny (AM P w) X.A (L8 (.ref it)) (λr s1=>∃u,r=uA u /\
   wpAny (AM P w) X.A (MQ tg (.ref it) u) (λ_ s2=>∃x H',Inv X aa σ H' s2/\RelV x u/\J.yld i H x H'/\tn (i+1) s2.heap/\∀b∈fp,H' b=uB) E s1) E s
 done:∀(X:Cx),X.prog=P->X.w=w->X.K=K->X.calm=true->∀(i:Nat) (aa:uQ) (s:AA) (σ:St) (H:Hp) (E:As->AA->Prop),Inv X aa σ H s->(∀b∈fp,FpOk X aa H b)->tn i s.heap->J.stop i H ->
  wpAny (AM P w) X.A (L8 (.ref it)) (λr s1=>r=uB/\Inv X aa σ H s1) E s
 self:∀(A:BV) (i:Nat) (s:AA) (Q:As->AA->Prop) (E:As->AA->Prop),tn i s.heap->Q (.ref it) s->wpAny (AM P w) A (Qr (.ref it)) Q E s
abbrev TI:=St->Hp->(It->Hp->Prop)->Prop
def PIE(X:Cx)(aa:uQ)(σ:St)(tg:Expr)(R:It->Hp->Prop)(itv:As)(s2:AA):Prop :=
 ∃(it:Addr) (fp:uY) (tn:Nat->Heap->Prop) (J:It) (H':Hp),itv=.ref it/\Inv X aa σ H' s2/\Turn X.prog X.w X.K tg J fp it tn/\tn 0 s2.heap/\(∀b∈fp,FpOk X aa H' b)/\R J H'
def PI(X:Cx)(tg iter:Expr)(wi:TI):Prop :=
 ∀(aa:uQ) (s:AA) (σ:St) (H:Hp) (R:It->Hp->Prop),Inv X aa σ H s->wi σ H R ->
  wpAny (AM X.prog X.w) X.A (eval iter X.env) (λv s1=>wpAny (AM X.prog X.w) X.A (Qr v) (PIE X aa σ tg R) X.xe s1) X.xe s
theorem Xm{M:W0}{n:String}{vs:Array As}{Q:uO}(ho:s.heap.get? it=uA o)(hc:o.cls=.type n)(hd:o.data=.fields vs)
  (hn:["enumerate","zip","dict_itemiterator","dict_reverseitemiterator","odict_iterator","itertools.zip_longest","itertools.pairwise"].contains n=false) (hQ:Q () s):wpAny M A (MQ tg (.ref it) u) Q E s:=by
 unfold MQ;cases tg<;>first
  | exact AC hQ
  | (cases u<;>first
    | exact AC hQ
    | (
      refine Au (Q5 ho ?_);rw[hc,hd];show wpAny M A (if(["enumerate","zip","dict_itemiterator","dict_reverseitemiterator","odict_iterator","itertools.zip_longest","itertools.pairwise"].contains n&&vs[0]? == uA (Hm _))=true then _ else _) Q E s;rw[uC (by intro h;rw[hn,VZ] at h;cases h)];exact AC hQ))
def Itl(K:Ap)(a:Addr):It :=
 ⟨λi H=>∃xs x,SqL K H a xs/\xs[i]?=uA x,λi H x H'=>H'=H/\∀xs,SqL K H a xs->xs[i]?=uA x,λi H=>∃xs,SqL K H a xs/\xs.length<=i⟩
def Itt(K:Ap)(a:Addr):It :=
 ⟨λi H=>∃xs x,SqT K H a xs/\xs[i]?=uA x,λi H x H'=>H'=H/\∀xs,SqT K H a xs->xs[i]?=uA x,λi H=>∃xs,SqT K H a xs/\xs.length<=i⟩
def Itr(lo:Int)(n:Nat):It:=⟨λi _=>i<n,λi H x H'=>H'=H/\x=.int (lo+i),λi _=>n<=i⟩
theorem Zm(a it:Addr):Turn P w K tg (Itl K a) [it] it (λi h=>h.IsListIter it a i) where
 mem:=by simp
 obj:=λi h st b hb=>by
  have e:b=it:=by simpa using hb
  subst e;obtain⟨o,e,c,d⟩:=st;exact⟨o,e,λv z=>by rw[d] at z;cases z⟩
 keep:=λi h h' st k=>st.at λo e=>k it (by simp) o e
 item:=by
  intro X hP hw hK hc i aa s σ H E I hf st hg;subst hP hw hK;obtain⟨xs,x,hq,hx⟩:=hg;obtain⟨ag,rv,p,hz⟩:=I.list hq;obtain⟨u,hu,ru⟩:=rv.get hx;obtain⟨f0,f1,f2,f3,f4,f5⟩:=hf it (by simp);refine wpAny_pyNext_list_item st p.isList (x:=u) (by simpa using hu) λh' ah sb=>?_;have I1:=I.turned (t':=s.toks) (λb o hb e=>(sb.2 b hb).trans e) f0 f1 f3 f4 f5;obtain⟨o,e,c,d⟩:=id ah;exact⟨u,rfl,Xm (s:={s with heap:=h'}) e c d (by decide) ⟨x,H,I1,ru,⟨rfl,λys hy=>by rw[I.list_inj hy hq];exact hx⟩,ah,λb hb=>(hf b hb).1⟩⟩
 done:=by
  intro X hP hw hK hc i aa s σ H E I hf st hg;subst hP hw hK;obtain⟨xs,hq,hx⟩:=hg;obtain⟨ag,rv,p,hz⟩:=I.list hq;obtain⟨f0,f1,f2,f3,f4,f5⟩:=hf it (by simp);have hl:=rv.length;exact wpAny_pyNext_list_end (I.ok.hd hc) st p.isList (by simp;exact vh hl hx) λh' eb=>⟨rfl,I.turned (t':=s.toks) (λb o hb e=>eb b o hb e) f0 f1 f3 f4 f5⟩
 self:=λ_ _ _ _ _ st h=>wpAny_pyIter_listiter st h
theorem Vy(a it:Addr):Turn P w K tg (Itt K a) [it] it (λi h=>h.IsTupleIter it a i) where
 mem:=by simp
 obj:=λi h st b hb=>by
  have e:b=it:=by simpa using hb
  subst e;obtain⟨o,e,c,d⟩:=st;exact⟨o,e,λv z=>by rw[d] at z;cases z⟩
 keep:=λi h h' st k=>st.at λo e=>k it (by simp) o e
 item:=by
  intro X hP hw hK hc i aa s σ H E I hf st hg;subst hP hw hK;obtain⟨xs,x,hq,hx⟩:=hg;obtain⟨ag,rv,p,hz⟩:=I.tuple hq;obtain⟨u,hu,ru⟩:=rv.get hx;obtain⟨f0,f1,f2,f3,f4,f5⟩:=hf it (by simp);refine wpAny_pyNext_tuple_item st p (x:=u) (by simpa using hu) λh' ah sb=>?_;have I1:=I.turned (t':=s.toks) (λb o hb e=>(sb.2 b hb).trans e) f0 f1 f3 f4 f5;obtain⟨o,e,c,d⟩:=id ah;exact⟨u,rfl,Xm (s:={s with heap:=h'}) e c d (by decide) ⟨x,H,I1,ru,⟨rfl,λys hy=>by rw[I.tuple_inj hy hq];exact hx⟩,ah,λb hb=>(hf b hb).1⟩⟩
 done:=by
  intro X hP hw hK hc i aa s σ H E I hf st hg;subst hP hw hK;obtain⟨xs,hq,hx⟩:=hg;obtain⟨ag,rv,p,hz⟩:=I.tuple hq;obtain⟨f0,f1,f2,f3,f4,f5⟩:=hf it (by simp);have hl:=rv.length;exact wpAny_pyNext_tuple_end (I.ok.hd hc) st p (by simp;exact vh hl hx) λh' eb=>⟨rfl,I.turned (t':=s.toks) (λb o hb e=>eb b o hb e) f0 f1 f3 f4 f5⟩
 self:=λ_ _ _ _ _ st h=>wpAny_pyIter_tupleiter st h
theorem Vt(it:Addr)(lo:Int)(n:Nat):Turn P w K tg (Itr lo n) [it] it (λi h=>IsRangeIter h it (lo+(i:Nat)*1) ((n:Int)-(i:Nat)) 1) where
 mem:=by simp
 obj:=λi h st b hb=>by
  have e:b=it:=by simpa using hb
  subst e;exact⟨_,st,λv z=>by
   have z':=z;cases z'⟩
 keep:=λi h h' st k=>k it (by simp) _ st
 item:=by
  intro X hP hw hK hc i aa s σ H E I hf st hg;subst hP hw hK;obtain⟨f0,f1,f2,f3,f4,f5⟩:=hf it (by simp);have W:=YY (prog:=X.prog) (w:=X.w) (I.ok.hd hc) it lo 1 n;refine W.item i s _ _ hg st λv h' tk hv ah kk=>?_;obtain⟨t,rfl⟩:=hv;have I1:Inv X aa σ H {s with heap:=h',toks:=tk}:=I.turned (λb o hb e=>kk b o (by simpa using hb) e) f0 f1 f3 f4 f5;refine⟨_,rfl,Xm (s:={s with heap:=h',toks:=tk}) (n:="range_iterator") ah rfl rfl (by decide) ⟨.int (lo+i),H,I1,⟨t,?_⟩,⟨rfl,rfl⟩,ah,λb hb=>(hf b hb).1⟩⟩;rw[TR]
 done:=by
  intro X hP hw hK hc i aa s σ H E I hf st hg;subst hP hw hK;obtain⟨f0,f1,f2,f3,f4,f5⟩:=hf it (by simp);exact PM (I.ok.hd hc) st (by have:n<=i:=hg;exact yp this) λh' eb=>⟨rfl,I.turned (t':=s.toks) (λb o hb e=>eb b o hb e) f0 f1 f3 f4 f5⟩
 self:=λ_ _ _ _ _ st h=>PQ st h
def AHR(K:Ap)(tl:TE):TI:=λσ H R=>tl σ H λx H1=>∃a,x=.ref a/\(∃xs,SqL K H1 a xs)/\R (Itl K a) H1
def AII(K:Ap)(tl:TE):TI:=λσ H R=>tl σ H λx H1=>∃a,x=.ref a/\(∃xs,SqT K H1 a xs)/\R (Itt K a) H1
theorem Bt{l:Expr}{tl:TE}(hl:PE X l tl):PI X tg l (AHR X.K tl):=by
 intro aa s σ H R I h;refine thn (hl aa s σ H _ I h) λv s1 hq=>?_;obtain⟨x,H1,I1,r1,q1⟩:=hq;obtain⟨a,e,⟨xs,hq⟩,q⟩:=q1;subst e;cases r1;obtain⟨ag,rv,p,hz⟩:=I1.list hq;refine Op p.isList ?_;refine⟨s1.heap.objs.size,[s1.heap.objs.size],_,_,H1,rfl,I1.kept (t':=s1.toks) λb o e=>AJ _ e,Zm a _,⟨_,AU _ rfl,rfl,rfl⟩,λb hb=>?_,q⟩;have e:b=s1.heap.objs.size:=by simpa using hb
 subst e;exact I1.fpOk (AF _) (I1.hok.fresh (AF _))
theorem AGN{l:Expr}{tl:TE}(hl:PE X l tl):PI X tg l (AII X.K tl):=by
 intro aa s σ H R I h;refine thn (hl aa s σ H _ I h) λv s1 hq=>?_;obtain⟨x,H1,I1,r1,q1⟩:=hq;obtain⟨a,e,⟨xs,hq⟩,q⟩:=q1;subst e;cases r1;obtain⟨ag,rv,p,hz⟩:=I1.tuple hq;refine LF p ?_;refine⟨s1.heap.objs.size,[s1.heap.objs.size],_,_,H1,rfl,I1.kept (t':=s1.toks) λb o e=>AJ _ e,Vy a _,⟨_,AU _ rfl,rfl,rfl⟩,λb hb=>?_,q⟩;have e:b=s1.heap.objs.size:=by simpa using hb
 subst e;exact I1.fpOk (AF _) (I1.hok.fresh (AF _))
theorem Uh{R:It->Hp->Prop}{lo hi:Int}{t u v:Tok}(I:Inv X aa σ H s)(h1:-(2 ^ 62)<=lo)(h2:lo<2 ^ 62)(h3:-(2 ^ 62)<=hi)(h4:hi<2 ^ 62)
  (q:R (Itr lo (hi-lo).toNat) H):wpAny (AM X.prog X.w) X.A (Qr (.ref s.heap.objs.size)) (PIE X aa σ tg R) E {s with heap:=s.heap.push {cls:=.type "range",data:=.fields #[.int lo t,.int hi u,.int 1 v]},toks:=tk}:=by
 refine SD (Y0 ..) (Wp h1 h2 h3 h4) ?_;have I1:Inv X aa σ H {s with heap:=s.heap.push {cls:=.type "range",data:=.fields #[.int lo t,.int hi u,.int 1 v]},toks:=tk}:=I.kept λb o e=>AJ _ e;refine⟨(s.heap.push {cls:=.type "range",data:=.fields #[.int lo t,.int hi u,.int 1 v]}).objs.size,[(s.heap.push {cls:=.type "range",data:=.fields #[.int lo t,.int hi u,.int 1 v]}).objs.size],_,_,H,rfl,
  I1.kept (t':=tk) λb o e=>AJ _ e,Vt _ lo (hi-lo).toNat,?_,λb hb=>?_,q⟩
 .have e1:lo+((0:Nat):Int)*1=lo:=by simp
  have e2:(((hi-lo).toNat:Nat):Int)-((0:Nat):Int)=FD lo hi 1:=by rw[RU];split<;>lia
  rw[e1,e2];exact AU _ rfl
 .have e:b=(s.heap.push {cls:=.type "range",data:=.fields #[.int lo t,.int hi u,.int 1 v]}).objs.size:=by simpa using hb
  subst e;exact I1.fpOk (AF _) (I1.hok.fresh (AF _))
def AHK(ta:TA):TI:=λσ H R=>ta σ H λvs H1=>∃j:Int,vs=[.int j]/\-(2 ^ 62)<=j/\j<2 ^ 62/\R (Itr 0 j.toNat) H1
def AHQ(ta:TA):TI:=λσ H R=>ta σ H λvs H1=>∃i j:Int,vs=[.int i,.int j]/\(-(2 ^ 62)<=i/\i<2 ^ 62/\-(2 ^ 62)<=j/\j<2 ^ 62)/\R (Itr i (j-i).toNat) H1
theorem Cv{a:Expr}{ta:TA}{p:Pos}(hg:Gl X "range")(hm:X.mg "range" = uB)(ha:PA X [a] ta)(hs:autoParam (CI [a] X.env=[(false,eval a X.env)]) zA0._auto_1):PI X tg (.Call (.Name "range" p) [a] [] pos) (AHK ta):=by
 intro aa s σ H R I h;refine W1 (Fb I hg hm Pl (Ee (thn (ha pos aa s σ H _ I h) λus s1 hq=>?_) hs rfl));obtain⟨vs,H1,I1,r1,q1⟩:=hq;obtain⟨j,e,q1,q2,q⟩:=q1;subst e;cases r1 with
 | cons r rr =>
  cases rr;obtain⟨t,rfl⟩:=r;exact call_range_1 (Uh I1 (by lia) (by lia) q1 q2 (by simpa using q))
theorem Zv{a b:Expr}{ta:TA}{p:Pos}(hg:Gl X "range")(hm:X.mg "range" = uB)(ha:PA X [a,b] ta)(hs:autoParam (CI [a,b] X.env=[(false,eval a X.env),(false,eval b X.env)]) zA0._auto_1)(mw:autoParam (CI [b] X.env=[(false,eval b X.env)]) zA0._auto_1) :
  PI X tg (.Call (.Name "range" p) [a,b] [] pos) (AHQ ta):=by
 intro aa s σ H R I h;refine W1 (Fb I hg hm Pl (Ee (thn (ha pos aa s σ H _ I h) λus s1 hq=>?_) (by rw[hs,mw]) (by rw[mw];rfl)));obtain⟨vs,H1,I1,r1,q1⟩:=hq;obtain⟨i,j,e,⟨q1,q2,q3,q4⟩,q⟩:=q1;subst e;cases r1 with
 | cons r rr =>
  cases rr with
  | cons r' rr =>
   cases rr;obtain⟨t,rfl⟩:=r;obtain⟨t',rfl⟩:=r';exact call_range_2 (Uh I1 q1 q2 q3 q4 q)
def AIF(wi:TI)(g:TG)(tb:TS):TS:=λD σ H=>wi σ H λJ H1=>∃W:Nat->Nat->St->Hp->Prop,(∃m,W 0 m σ H1)/\∀i m σ H,W i m σ H ->
 (J.stop i H/\D.nx σ H)\/(J.go i H/\∃N:St->Hp->Prop,(∀σ' H',N σ' H'->∃m',m'<m/\W (i+1) m' σ' H')/\∀x H',J.yld i H x H'->g x σ H' λσ2 H2=>tb {D with nx:=N,ct:=N,bk:=D.nx} σ2 H2)
def pinsAt(fp:uY)(h:Heap):uQ:=fp.filterMap λb=>(h.get? b).map λo=>(b,o)
theorem GJ(hb:b∈fp)(e:h.get? b=uA o):(b,o)∈pinsAt fp h:=NR.mpr ⟨b,hb,by rw[e];rfl⟩
theorem ZP{p:Addr×Obj}(hp:p∈pinsAt fp h):p.1∈fp/\h.get? p.1=uA p.2:=by
 obtain⟨b,hb,e⟩:=NR.mp hp;cases q:h.get? b with
 | none=>rw[q] at e;cases e
 | some o =>
  rw[q] at e;have e':=AN e;subst e';exact⟨hb,q⟩
theorem Inv.pinned(I:Inv X aa σ H s)(hf:∀b∈fp,FpOk X aa H b)(ho:∀b∈fp,∃o,s.heap.get? b=uA o/\∀v,o.data≠.cell v):Inv X (aa++pinsAt fp s.heap) σ H s :=
 I.pins_of λp hp=>(Ct.mp hp).elim (λz=>I.pin p (CH _ z)) λz=>by
  obtain⟨hb,e⟩:=ZP z;obtain⟨f0,f1,f2,_⟩:=hf p.1 hb;obtain⟨o,e',d⟩:=ho p.1 hb;rw[e] at e';cases e';exact⟨e,f0,f1,f2,d⟩
theorem Inv.unpinned{pl:uQ}(I:Inv X (aa++pl) σ H s):Inv X aa σ H s:=I.pins_of λp hp=>I.pin p (CH _ (EV _ hp))
theorem DW{iter:Expr}{wi:TI}{g:TG}(hp:PassesOwn (AM X.prog X.w) X.A X.env X.xe)(hc:X.calm=true)(hi:PI X tg iter wi)(hg:PG X tg g)(hb:PSs X body tb)
  (hs:autoParam (∀x,Os iter X.env x=pure x) zA2._auto_1):PS X (.For tg iter body [] pos) (AIF wi g tb):=by
 intro aa s σ H D I h;refine wpAny_For (thn (hi aa s σ H _ I h) λv s1 h1=>thn h1 λitv s2 h2=>?_) hs;obtain⟨it,fp,tn,J,H2,e,I2,T,bb,f2,W,⟨m0,w0⟩,turn⟩:=h2;subst e;have d6:∀{H':Hp},(∀b∈fp,H' b=uB)->∀b∈fp,FpOk X aa H' b:=λhn b hb=>⟨hn b hb,(f2 b hb).2⟩;refine codeAny_forLoop_any (λn s'=>∃i σ' H',Inv X aa σ' H' s'/\tn i s'.heap/\(∀b∈fp,H' b=uB)/\W i n σ' H') ?_ m0 ⟨0,σ,H2,I2,bb,λb hb=>(f2 b hb).1,w0⟩;rintro n s3 ⟨i,σ3,H3,I3,cS,fr3,w3⟩;rcases turn i n σ3 H3 w3 with⟨stop,qn⟩| ⟨go,N,hN,step⟩
 .refine Iq hp (thn (T.done X rfl rfl rfl hc i aa s3 σ3 H3 X.xe I3 (d6 fr3) cS stop) λr s4 hq=>?_)
  obtain⟨hr,I4⟩:=hq;subst hr;exact MO ⟨σ3,H3,I4,qn⟩
 .refine Iq hp (thn (T.item X rfl rfl rfl hc i aa s3 σ3 H3 X.xe I3 (d6 fr3) cS go) λr s4 hq=>?_)
  obtain⟨u,hr,h4⟩:=hq;subst hr;refine Iq hp (thn h4 λ_ s5 hq=>?_);obtain⟨x,H5,I5,r5,y5,qT,fr5⟩:=hq;have I5':=I5.pinned (d6 fr5) (T.obj _ _ qT);refine Iq hp (thn (hg _ s5 σ3 H5 x u _ I5' r5 (step x H5 y5)) λ_ s6 hq=>?_);obtain⟨σ6,H6,I6,q6⟩:=hq;refine Iq hp (thn (hb _ s6 σ6 H6 _ I6 q6) λf s7 q7=>?_);have again:∀{σ7:St}{H7:Hp},Inv X (aa++pinsAt fp s5.heap) σ7 H7 s7->N σ7 H7->∃m,m<n/\∃i σ' H',Inv X aa σ' H' s7/\tn i s7.heap/\(∀b∈fp,H' b=uB)/\W i m σ' H':=λ{σ7 H7} I7 n7=>by
   obtain⟨m',hm,w7⟩:=hN σ7 H7 n7;refine⟨m',hm,i+1,σ7,H7,I7.unpinned,T.keep _ _ _ qT λb hb o e=>(I7.pin (b,o) (CH _ (CH _ (GJ hb e)))).1,λb hb=>?_,w7⟩;obtain⟨o,e,d⟩:=T.obj _ _ qT b hb;exact(I7.pin (b,o) (CH _ (CH _ (GJ hb e)))).2.1
  cases f with
  | next=>obtain⟨σ7,H7,I7,n7⟩:=q7;exact again I7 n7
  | cont=>obtain⟨σ7,H7,I7,n7⟩:=q7;exact again I7 n7
  | brk=>obtain⟨σ7,H7,I7,q7⟩:=q7;exact⟨σ7,H7,I7.unpinned,q7⟩
  | ret v=>obtain⟨x7,σ7,H7,I7,r7,q7⟩:=q7;exact⟨x7,σ7,H7,I7.unpinned,r7,q7⟩
theorem Eh{g:TG}{D:Ends}(Pv:Nat->St->Hp->Prop)(h0:Pv 0 σ H)(hl:∀i σ H,i<=xs.length->Pv i σ H->SqL K H a xs)
  (hs:∀i x σ H,xs[i]?=uA x->Pv i σ H->g x σ H λσ2 H2=>tb {D with nx:=Pv (i+1),ct:=Pv (i+1),bk:=D.nx} σ2 H2) (hd:∀σ H,Pv xs.length σ H->D.nx σ H) :
  ∃W:Nat->Nat->St->Hp->Prop,(∃m,W 0 m σ H)/\∀i m σ H,W i m σ H ->
   ((Itl K a).stop i H/\D.nx σ H)\/((Itl K a).go i H/\∃N:St->Hp->Prop,(∀σ' H',N σ' H'->∃m',m'<m/\W (i+1) m' σ' H')/\∀x H',(Itl K a).yld i H x H'->g x σ H' λσ2 H2=>tb {D with nx:=N,ct:=N,bk:=D.nx} σ2 H2):=by
 refine⟨λi m σ H=>m=xs.length-i/\i<=xs.length/\Pv i σ H,⟨xs.length,by simp,AY _,h0⟩,?_⟩;rintro i m σ H ⟨rfl,hi,p⟩;have q:=hl i σ H hi p;by_cases bj:i<xs.length
 .refine .inr ⟨⟨xs,xs[i],q,by simp[bj]⟩,Pv (i+1),λσ' H' p'=>⟨xs.length-(i+1),vU bj,rfl,bj,p'⟩,λx H' y=>?_⟩
  obtain⟨e,y⟩:=y;subst e;exact hs i x σ _ (y xs q) p
 .have e:i=xs.length:=vG hi bj
  subst e;exact .inl ⟨⟨xs,q,AF _⟩,hd σ H p⟩
theorem Je{lo:Int}{g:TG}{D:Ends}(Pv:Nat->St->Hp->Prop)(h0:Pv 0 σ H)
  (hs:∀i σ H,i<n->Pv i σ H->g (.int (lo+i)) σ H λσ2 H2=>tb {D with nx:=Pv (i+1),ct:=Pv (i+1),bk:=D.nx} σ2 H2) (hd:∀σ H,Pv n σ H->D.nx σ H) :
  ∃W:Nat->Nat->St->Hp->Prop,(∃m,W 0 m σ H)/\∀i m σ H,W i m σ H ->
   ((Itr lo n).stop i H/\D.nx σ H)\/((Itr lo n).go i H/\∃N:St->Hp->Prop,(∀σ' H',N σ' H'->∃m',m'<m/\W (i+1) m' σ' H')/\∀x H',(Itr lo n).yld i H x H'->g x σ H' λσ2 H2=>tb {D with nx:=N,ct:=N,bk:=D.nx} σ2 H2):=by
 refine⟨λi m σ H=>m=n-i/\i<=n/\Pv i σ H,⟨n,by simp,AY _,h0⟩,?_⟩;rintro i m σ H ⟨rfl,hi,p⟩;by_cases bj:i<n
 .refine .inr ⟨bj,Pv (i+1),λσ' H' p'=>⟨n-(i+1),vU bj,rfl,bj,p'⟩,λx H' y=>?_⟩
  obtain⟨e,y⟩:=y;subst e y;exact hs i σ _ bj p
 .have e:i=n:=vG hi bj
  subst e;exact .inl ⟨AF _,hd σ H p⟩
abbrev R2:=V->V->Hp->VK->Prop
def OpR(X:Cx)(f:As->As->Sem As)(r:R2):Prop :=
 ∀(aa:uQ) (s:AA) (σ:St) (H:Hp) (x y:V) (v u:As) (Q:VK),Inv X aa σ H s->RelV x v->RelV y u->r x y H Q ->
  wpAny (AM X.prog X.w) X.A (f v u) (EP X aa σ Q) X.xe s
def UnR(X:Cx)(f:As->Sem As)(r:V->Hp->VK->Prop):Prop :=
 ∀(aa:uQ) (s:AA) (σ:St) (H:Hp) (x:V) (v:As) (Q:VK),Inv X aa σ H s->RelV x v->r x H Q ->
  wpAny (AM X.prog X.w) X.A (f v) (EP X aa σ Q) X.xe s
def CallR(X:Cx)(f:As)(r:List V->Hp->VK->Prop):Prop :=
 ∀(aa:uQ) (s:AA) (σ:St) (H:Hp) (xs:List V) (us:List As) (Q:VK),Inv X aa σ H s->Vals xs us->r xs H Q ->
  wpAny (AM X.prog X.w) X.A (call f us) (EP X aa σ Q) X.xe s
def tOp(r:R2)(ta tb:TE):TE:=λσ H Q=>ta σ H λx H1=>tb σ H1 λy H2=>r x y H2 Q
def tUn(r:V->Hp->VK->Prop)(ta:TE):TE:=λσ H Q=>ta σ H λx H1=>r x H1 Q
def rI(C:Int->Int->Prop)(g:Int->Int->V):R2:=λx y H Q=>E2 λi j=>A4 (x=.int i) (y=.int j) (C i j) (Q (g i j) H)
def rI0(g:Int->Int->V):R2:=λx y H Q=>E2 λi j=>A3 (x=.int i) (y=.int j) (Q (g i j) H)
def rU(g:Int->V):V->Hp->VK->Prop:=λx H Q=>∃i,x=.int i/\Q (g i) H
section
variable{a b:Expr}{ta tb tc:TE}
theorem binT(ha:PE X a ta)(hb:PE X b tb){R:V->V->Hp->Prop}(I:Inv X aa σ H s)
  (h:ta σ H λx H1=>tb σ H1 λy H2=>R x y H2){f:As->As->Sem As}
  (hf:∀v u s2 x y H2,Inv X aa σ H2 s2->RelV x v->RelV y u->R x y H2->wpAny (AM X.prog X.w) X.A (f v u) Q X.xe s2) :
  wpAny (AM X.prog X.w) X.A (eval a X.env) (λv s₁=>wpAny (AM X.prog X.w) X.A (eval b X.env) (λu s₂=>wpAny (AM X.prog X.w) X.A (f v u) Q X.xe s₂) X.xe s₁) X.xe s:=by
 refine thn (ha aa s σ H _ I h) λv s1 hq=>?_;obtain⟨x,H1,I1,r1,q1⟩:=hq;refine thn (hb aa s1 σ H1 _ I1 q1) λu s2 hq=>?_;obtain⟨y,H2,I2,r2,q2⟩:=hq;exact hf v u s2 x y H2 I2 r1 r2 q2
theorem Az{op:Operator}{r:R2}(ho:OpR X (G1 op) r)(ha:PE X a ta)(hb:PE X b tb):PE X (.BinOp a op b pos) (tOp r ta tb):=by
 intro aa s σ H Q I h;exact wpAny_BinOp (binT ha hb I h λv u s2 x y H2 I2 rx ry q=>ho aa s2 σ H2 x y v u Q I2 rx ry q)
theorem YL{op:UnaryOp}{r:V->Hp->VK->Prop}(ho:UnR X (unaryOp op) r)(ha:PE X a ta):PE X (.UnaryOp op a pos) (tUn r ta):=by
 intro aa s σ H Q I h;exact UnaryOp_ (thn (ha aa s σ H _ I h) λv s1 ⟨x,H1,I1,r1,q1⟩=>ho aa s1 σ H1 x v Q I1 r1 q1)
theorem opI{f:As->As->Sem As}{C:Int->Int->Prop}{g:Int->Int->Int}
  (rule:∀(i j:Int) (t u:Tok) (s:AA) (Q:As->AA->Prop) (E:As->AA->Prop),C i j->Q (.int (g i j) s.toks) {s with toks:=s.toks+1}->wpAny (AM X.prog X.w) X.A (f (.int i t) (.int j u)) Q E s) :
  OpR X f (rI C λi j=>.int (g i j)):=by
 intro aa s σ H x y v u Q I rx ry h;obtain⟨i,j,rfl,rfl,hc,q⟩:=h;obtain⟨t,rfl⟩:=rx;obtain⟨t',rfl⟩:=ry;exact rule i j t t' s _ _ hc ⟨.int (g i j),H,I.tok _,⟨_,rfl⟩,q⟩
theorem opI0{f:As->As->Sem As}{g:Int->Int->Int}
  (rule:∀(i j:Int) (t u:Tok) (s:AA) (Q:As->AA->Prop) (E:As->AA->Prop),Q (.int (g i j) s.toks) {s with toks:=s.toks+1}->wpAny (AM X.prog X.w) X.A (f (.int i t) (.int j u)) Q E s) :
  OpR X f (rI0 λi j=>.int (g i j)):=by
 intro aa s σ H x y v u Q I rx ry h;obtain⟨i,j,rfl,rfl,q⟩:=h;obtain⟨t,rfl⟩:=rx;obtain⟨t',rfl⟩:=ry;exact rule i j t t' s _ _ ⟨.int (g i j),H,I.tok _,⟨_,rfl⟩,q⟩
theorem opB0{f:As->As->Sem As}{g:Int->Int->Bool}
  (rule:∀(i j:Int) (t u:Tok) (s:AA) (Q:As->AA->Prop) (E:As->AA->Prop),Q (.bool (g i j)) s->wpAny (AM X.prog X.w) X.A (f (.int i t) (.int j u)) Q E s) :
  OpR X f (rI0 λi j=>.bl (g i j)):=by
 intro aa s σ H x y v u Q I rx ry h;obtain⟨i,j,rfl,rfl,q⟩:=h;obtain⟨t,rfl⟩:=rx;obtain⟨t',rfl⟩:=ry;exact rule i j t t' s _ _ ⟨.bl (g i j),H,I,rfl,q⟩
def CDiv(i j:Int):Prop:=0<j/\j<1073741824
def CMul(i j:Int):Prop:=(-(2 ^ 64)<i/\i<2 ^ 64)\/(-(2 ^ 64)<j/\j<2 ^ 64)
theorem CMul.ok{i j:Int}(h:CMul i j):IntMulOk i j:=by
 rcases h with⟨h1,h2⟩| ⟨h1,h2⟩
 .exact .of_left (intBits_le_64 h1 h2)
 .exact .of_right (intBits_le_64 h1 h2)
theorem Vo(k:Nat):(0:Int)<=2 ^ k:=by
 rw[two_pow_cast];exact Sm _
theorem Cp:OpR X (G1 .Add) (rI0 λi j=>.int (i+j)):=opI0 λ_ _ _ _ _ _ _ q=>add_int q
theorem Fd:OpR X (G1 .Sub) (rI0 λi j=>.int (i-j)):=opI0 λ_ _ _ _ _ _ _ q=>sub_int q
theorem Ij:OpR X (G1 .Mult) (rI CMul λi j=>.int (i*j)):=opI λ_ _ _ _ _ _ _ hc q=>mul_int q hc.ok
theorem Ek:OpR X (G1 .FloorDiv) (rI CDiv λi j=>.int (i / j)):=opI λi j _ _ _ _ _ hc q=>by
 have h1:=hc.1;have h2:=hc.2;exact floordiv_int (wH h1) (by rw[N4 i (wC h1)];exact q) (.inl (PU (by lia)))
theorem Ca:OpR X (G1 .Mod) (rI (λ_ j=>0<j) λi j=>.int (i%j)):=opI λi j _ _ _ _ _ hc q=>by
 have h1:=hc;exact mod_int' (wH hc) (by rw[Int.fmod_eq_emod_of_nonneg i (wC hc)];exact q)
theorem AHD:OpR X (G1 .RShift) (rI (λ_ j=>0<=j) λi j=>.int (i / 2 ^ j.toNat)):=opI λi j _ _ _ _ _ hc q =>
 rshift_int hc (by rw[N4 i (Vo _)];exact q)
theorem AFy:OpR X (G1 .BitAnd) (rI0 λi j=>.int (Builtin.bitAnd i j)):=opI0 λ_ _ _ _ _ _ _ q=>and_int q
theorem unI{f:As->Sem As}{g:Int->Int}
  (rule:∀(i:Int) (t:Tok) (s:AA) (Q:As->AA->Prop) (E:As->AA->Prop),Q (.int (g i) s.toks) {s with toks:=s.toks+1}->wpAny (AM X.prog X.w) X.A (f (.int i t)) Q E s) :
  UnR X f (rU λi=>.int (g i)):=by
 intro aa s σ H x v Q I rx h;obtain⟨i,rfl,q⟩:=h;obtain⟨t,rfl⟩:=rx;exact rule i t s _ _ ⟨.int (g i),H,I.tok _,⟨_,rfl⟩,q⟩
theorem RX:UnR X (unaryOp .USub) (rU λi=>.int (-i)):=unI λ_ _ _ _ _ q=>neg_int q
end
noncomputable def scal:V->V->Bool
 | .non,.non=>true| .non,.int _=>true| .int _,.non=>true| .non,.bl _=>true| .bl _,.non=>true| .non,.str _=>true| .str _,.non=>true
 | .int _,.int _=>true| .bl _,.bl _=>true| .str _,.str _=>true| .byt _,.byt _=>true
 | .int _,.str _=>true| .str _,.int _=>true| .bl _,.str _=>true| .str _,.bl _=>true
 | _,_=>false
def rEq:R2:=λx y H Q=>scal x y=true/\Q (.bl (decide (x=y))) H
def rNe:R2:=λx y H Q=>scal x y=true/\Q (.bl (!decide (x=y))) H
theorem YK{i j:Int}:decide (V.int i=V.int j)=(i==j):=by
 rw[FL];simp
theorem ABX{i j:Bool}:decide (V.bl i=V.bl j)=(i==j):=by
 rw[FL];simp
theorem Yb{i j:Str}:decide (V.str i=V.str j)=(i==j):=by
 rw[FL];simp
theorem Xk{i j:Array UInt8}:decide (V.byt i=V.byt j)=(i.toList==j.toList):=by
 rw[FL];cases i;cases j;simp
section
variable{a b:Expr}{ta tb tc:TE}
theorem Bj{Q:VK}{k k':Bool}(I:Inv X aa σ H s)(q:Q (.bl k) H)(e:k=k'):EP X aa σ Q (.bool k') s:=by
 subst e;exact⟨.bl k,H,I,rfl,q⟩
theorem DR:OpR X (ED .Eq) rEq:=by
 intro aa s σ H x y v u Q I rx ry h;obtain⟨hs,q⟩:=h;cases x with
 | non =>
  cases rx;cases y with
  | non=>cases ry;exact W2 (Bj I q (by simp))
  | bl j=>cases ry;exact W3 (Bj I q (by simp))
  | int j=>obtain⟨t',rfl⟩:=ry;exact XN (Bj I q (by simp))
  | str j=>obtain⟨t',rfl⟩:=ry;exact XO (Bj I q (by simp))
  | _=>exact uH hs Be
 | bl i =>
  cases rx;cases y with
  | non=>cases ry;exact W4 (Bj I q (by simp))
  | bl j=>cases ry;exact eq_bool (Bj I q ABX)
  | str j=>obtain⟨t',rfl⟩:=ry;exact W5 (Bj I q (by simp))
  | _=>exact uH hs Be
 | int i =>
  obtain⟨t,rfl⟩:=rx;cases y with
  | non=>cases ry;exact XT (Bj I q (by simp))
  | int j=>obtain⟨t',rfl⟩:=ry;exact eq_int (Bj I q YK)
  | str j=>obtain⟨t',rfl⟩:=ry;exact XU (Bj I q (by simp))
  | _=>exact uH hs Be
 | str i =>
  obtain⟨t,rfl⟩:=rx;cases y with
  | non=>cases ry;exact XW (Bj I q (by simp))
  | bl j=>cases ry;exact W6 (Bj I q (by simp))
  | int j=>obtain⟨t',rfl⟩:=ry;exact XX (Bj I q (by simp))
  | str j=>obtain⟨t',rfl⟩:=ry;exact eq_str (Bj I q Yb)
  | _=>exact uH hs Be
 | byt i =>
  obtain⟨t,rfl⟩:=rx;cases y with
  | byt j=>obtain⟨t',rfl⟩:=ry;exact PySem.W.eq_bytes (Bj I q Xk)
  | _=>exact uH hs Be
 | _=>cases y<;>exact uH hs Be
theorem JZ:OpR X (ED .NotEq) rNe:=by
 intro aa s σ H x y v u Q I rx ry h;obtain⟨hs,q⟩:=h;cases x with
 | non =>
  cases rx;cases y with
  | non=>cases ry;exact W7 (Bj I q (by simp))
  | bl j=>cases ry;exact W8 (Bj I q (by simp))
  | int j=>obtain⟨t',rfl⟩:=ry;exact XY (Bj I q (by simp))
  | str j=>obtain⟨t',rfl⟩:=ry;exact XZ (Bj I q (by simp))
  | _=>exact uH hs Be
 | bl i =>
  cases rx;cases y with
  | non=>cases ry;exact W9 (Bj I q (by simp))
  | bl j=>cases ry;exact ne_bool (Bj I q (congrArg not ABX))
  | str j=>obtain⟨t',rfl⟩:=ry;exact Xs (Bj I q (by simp))
  | _=>exact uH hs Be
 | int i =>
  obtain⟨t,rfl⟩:=rx;cases y with
  | non=>cases ry;exact X0 (Bj I q (by simp))
  | int j=>obtain⟨t',rfl⟩:=ry;exact ne_int (Bj I q (congrArg not YK))
  | str j=>obtain⟨t',rfl⟩:=ry;exact X1 (Bj I q (by simp))
  | _=>exact uH hs Be
 | str i =>
  obtain⟨t,rfl⟩:=rx;cases y with
  | non=>cases ry;exact X3 (Bj I q (by simp))
  | bl j=>cases ry;exact Xt (Bj I q (by simp))
  | int j=>obtain⟨t',rfl⟩:=ry;exact X4 (Bj I q (by simp))
  | str j=>obtain⟨t',rfl⟩:=ry;exact ne_str (Bj I q (congrArg not Yb))
  | _=>exact uH hs Be
 | byt i =>
  obtain⟨t,rfl⟩:=rx;cases y with
  | byt j=>obtain⟨t',rfl⟩:=ry;exact PySem.W.ne_bytes (Bj I q (congrArg not Xk))
  | _=>exact uH hs Be
 | _=>cases y<;>exact uH hs Be
theorem Ln:OpR X (ED .Lt) (rI0 λi j=>.bl (decide (i<j))):=opB0 λ_ _ _ _ _ _ _ q=>lt_int q
theorem Yh:OpR X (ED .Gt) (rI0 λi j=>.bl (decide (j<i))):=opB0 λ_ _ _ _ _ _ _ q=>gt_int q
theorem AHX:OpR X (ED .GtE) (rI0 λi j=>.bl (decide (j<=i))):=opB0 λ_ _ _ _ _ _ _ q=>ge_int q
theorem nomark(b:Expr)(h:autoParam (op≠.In) zA1._auto_1)(h2:autoParam (op≠.NotIn) zA1._auto_1):IB op b=false:=by
 have e1:(op==ZZ)=false:=by cases op<;>first| rfl| exact uH rfl h
 have e2:(op==YV)=false:=by cases op<;>first| rfl| exact uH rfl h2
 cases b<;>simp[IB,e1,e2]
theorem zB3(h:True:=by exact nomark _):True:=h
theorem Cr{r:R2}(ho:OpR X (ED op) r)(ha:PE X a ta)(hb:PE X b tb)(hm:autoParam (IB op b=false) zB3._auto_1):PE X (.Compare a [op] [b] pos) (tOp r ta tb):=by
 intro aa s σ H Q I h;exact VW (binT ha hb I h λv u s2 x y H2 I2 rx ry q=>ho aa s2 σ H2 x y v u Q I2 rx ry q) hm
def AHY(t:TE):TT:=λσ H Q=>t σ H λx H'=>∃k,x=.bl k/\Q k H'
theorem Am{r:R2}(ho:OpR X (ED op) r)(ha:PE X a ta)(hb:PE X b tb)(hm:autoParam (IB op b=false) zB3._auto_1):PT X (.Compare a [op] [b] pos) (AHY (tOp r ta tb)):=by
 intro aa s σ H Q I h;refine Qb (thn (ha aa s σ H _ I h) λv s1 ⟨x,H1,I1,r1,q1⟩=>thn (hb aa s1 σ H1 _ I1 q1) λu s2 ⟨y,H2,I2,r2,q2⟩ =>
  thn (ho aa s2 σ H2 x y v u _ I2 r1 r2 q2) λc s3 ⟨z,H3,I3,r3,k,e,q3⟩=>?_) hm
 subst e;cases r3;exact Hc ⟨H3,I3,q3⟩
theorem line63:(sizeLine:Nat)<2 ^ 63:=by rw[Go];decide
theorem vals1{x:V}(r:Vals [x] us):∃u,us=[u]/\RelV x u:=by
 cases r with
 | cons r1 r2=>cases r2;exact⟨_,rfl,r1⟩
theorem vals2{x:V}(r:Vals [x,y] us):∃u w',us=[u,w']/\RelV x u/\RelV y w':=by
 cases r with
 | cons r1 r2 =>
  cases r2 with
  | cons r3 r4=>cases r4;exact⟨_,_,rfl,r1,r3⟩
theorem Zq(hc:X.calm=true):CallR X (.builtin "min") (λxs H Q=>∃i j,xs=[.int i,.int j]/\Q (.int (if j<i then j else i)) H):=by
 intro aa s σ H xs us Q I r h;obtain⟨i,j,rfl,q⟩:=h;obtain⟨u,w',rfl,⟨t,rfl⟩,⟨t',rfl⟩⟩:=vals2 r;refine min_two_ints (I.ok.hd hc) λh' tk k=>⟨_,H,I.kept k,?_,q⟩;by_cases hj:j<i
 .rw[uD hj,uD hj];exact⟨_,rfl⟩
 .rw[uC hj,uC hj];exact⟨_,rfl⟩
theorem AAh:CallR X (.type "int") (λxs H Q=>(∃i,xs=[.int i]/\Q (.int i) H)\/∃k,xs=[.bl k]/\Q (.int (if k then 1 else 0)) H):=by
 intro aa s σ H xs us Q I r h;rcases h with⟨i,rfl,q⟩| ⟨k,rfl,q⟩
 .obtain⟨u,rfl,t,rfl⟩:=vals1 r
  exact call_int_int ⟨.int i,H,I,⟨_,rfl⟩,q⟩
 .obtain⟨u,rfl,r1⟩:=vals1 r
  cases r1;exact call_int_bool ⟨.int (if k then 1 else 0),H,I.tok _,⟨_,rfl⟩,q⟩
end
structure ObjM(h:Heap)(x dx C:Addr)(mA:Str->Option As):Prop where
 obj:h.get? x=uA (FK C dx)
 ns:h.Ns1 dx mA
 ne:dx≠x
set_option tactic.hygienic true in
theorem ABH(n:h.Ns1 dx mA):∃od,h.get? dx=uA od/\∀name,NC name od=uA (mA name):=by
 obtain⟨o,es,ep,ho,hd,hk,_,hm⟩:=n;refine⟨o,ho,λname=>?_⟩;have e:=hm name;unfold nsFind findBy at e;rw[<- Array.find?_toList] at e;unfold NC;rw[hd];dsimp only;split
 .rename_i y q
  rw[q] at e;exact congrArg uA e
 .rename_i q
  rw[q] at e;have a:es.toList.any (·.refKey)=false:=by
   rw[List.any_eq_false];intro y hy;obtain⟨z,t,hkey⟩:=hk y (Array.mem_toList_iff.mp hy);simp[DictEntry.refKey,hkey]
  have a':¬ es.toList.any (·.refKey)=true:=by rw[a];exact Be
  rw[uC a'];exact congrArg uA e
theorem ObjM.look{x:Addr}(I:ObjM h x dx C mA):∃od,PySem.W.InstAt h x (FK C dx) C (uA od)/\∀name,NC name od=uA (mA name) :=
 let ⟨od,ho,hl⟩:=ABH I.ns
 ⟨od,⟨I.obj,rfl,rfl,ho⟩,hl⟩
section
variable{x:Addr}{v:As}
theorem get_map{expr:Bool}(X:K.In s.heap)(I:ObjM s.heap x dx C mA)(hg:K4 K C name=true)(hh:LX K C=true)
  (ha:CS K (.ref C) name=uA uB) (hv:mA name=uA v) (kQ:UB v=true) (h:Q v {s with toks:=s.toks+1}) :
  wpAny (AM prog w) A (getAttr (.ref x) name expr) Q E s:=by
 obtain⟨od,J,hl⟩:=I.look;exact PySem.W.get_value X J (Nc hg).1 (PySem.W.findObj_own hh ha rfl (by rw[hl,hv])) kQ h
theorem ACi{pl:Sem Bool}{Q:As×List As->AA->Prop}(X:K.In s.heap)(I:ObjM s.heap x dx C mA)(hg:K4 K C name=true)
  (hf:CS K (.ref C) name=uA (uA (.ref f))) (ht:MR K (.ref f)=true) (hv:mA name=uB) (h:Q (.ref f,[.ref x]) s) :
  wpAny (AM prog w) A (SE (.ref x) name pl) Q E s:=by
 obtain⟨od,J,hl⟩:=I.look;exact PySem.W.method_fn X J (Nc hg).1 (Nc hg).2 hf (beq_iff_eq.mp ht) (by show(NC name od).map (·.isSome)=uA false;rw[hl,hv];rfl) h
theorem AEI{ns:uU}{Q:uO}(X:K.In s.heap)(I:ObjM s.heap x dx C mA)
  (hs:CS K (.ref C) "__setattr__" = uA (uA (.builtin "object.__setattr__"))) (hp:Oy K C=true) (ht:Pm K C name=uA uB) (hh:LX K C=true)
  (hw:Sz mA ns) (hsz:ns.length<=sizeLine)
  (h:∀h',ObjM h' x dx C (λy=>if y=name then uA v else mA y)->EZ dx s.heap h'->Q () {s with heap:=h',toks:=s.toks+2}) :
  wpAny (AM prog w) A (setAttr (.ref x) name v) Q E s:=by
 obtain⟨od,J,hl⟩:=I.look;refine PySem.W.set_plain X J hs (PySem.W.osa_open (s:={s with toks:=s.toks+1}) (r:=uB) X J hp ht λb=>?_);obtain⟨cd,hc,cz⟩:=PySem.W.any_some hh;have hx:=I.obj;refine Au (AC (Au (Au (wpAny_loadPart hx (Au (Zs (s:={s with toks:=s.toks+1}) (PySem.W.looks_clsIn X hc) ?_))))));rw[cz];refine AC (a:=uA dx) (Au (AC (Au ?_)));refine wpAny_nsSet1 (s:={s with toks:=s.toks+1}) I.ns λh' hn2 mw=>?_;obtain⟨oD,esD,epD,hoD,hdD,hcD⟩:=hn2.count (ZO name v hw);refine Au (wpAny_lookBehind hoD (by rw[hdD];exact pastItsLine_dict (BY hcD (by rw[C9];exact vD hsz))) ?_);exact AC (h _ ⟨(mw.2 _ (Cb I.ne)).trans I.obj,hn2,I.ne⟩ mw)
theorem ACy{R:SF->AA->Prop}(X:K.In s.heap)(hm:Ix K C=true)
  (hi:CS K (.ref C) "__init__" = uA (uA (.ref f))) (hf:PySem.W.typeIn K (.ref f)=uA (.type "function"))
  (h:codeAny (AM prog w) (A.under (.builtin "type.__call__" ⟨.ref C::vs,kw⟩)) (.call (.ref f) ⟨.ref (s.heap.objs.size+1)::vs,kw⟩) (UC (s.heap.objs.size+1) R)
   {s with heap:=(s.heap.push EL).push (FK C s.heap.objs.size)}) :
  codeAny (AM prog w) A (.call (.ref C) ⟨vs,kw⟩) R s:=by
 obtain⟨hh,g,d,t,os⟩:=s;exact Ts (UD X hm) (Q6 X hi) (λself=>PySem.W.bind_fn X self hf) (.inl rfl) h
theorem Zn{R:SF->AA->Prop}(X:K.In s.heap)(hm:Ix K C=true)
  (hi:CS K (.ref C) "__init__" = uA (uA (.builtin "object.__init__")))
  (hb:∀self,PySem.W.Looks (AM prog w) s.heap (bindSpecial (.builtin "object.__init__") self) (.builtin "object.__init__",[self]))
  (h:codeAny (AM prog w) (A.under (.builtin "type.__call__" ⟨[.ref C],[]⟩)) (.call (.builtin "object.__init__") ⟨[.ref (s.heap.objs.size+1)],[]⟩) (UC (s.heap.objs.size+1) R)
   {s with heap:=(s.heap.push EL).push (FK C s.heap.objs.size)}) :
  codeAny (AM prog w) A (.call (.ref C) ⟨[],[]⟩) R s:=by
 obtain⟨hh,g,d,t,os⟩:=s;exact Ts (UD X hm) (Q6 X hi) hb (.inr ⟨rfl,rfl⟩) h
end
noncomputable def putF(f:Str)(v:V):List (Str×V)->List (Str×V)
 | []=>[(f,v)]
 | (g,x)::r=>if g=f then(g,v)::r else(g,x)::putF f v r
theorem Aj(f g:Str)(v:V):∀fs:List (Str×V),(putF f v fs).lookup g=if g=f then uA v else fs.lookup g
 | []=>by
  show FS g [(f,v)]=_;by_cases h:g=f
  .have hb:(g==f)=true:=beq_iff_eq.mpr h
   simp only[FS,hb,uD h]
  .have hb:=beq_eq_false_iff_ne.mpr h
   simp only[FS,hb,uC h]
 | (k,x)::r=>by
  have ih:=Aj f g v r;rw[show putF f v ((k,x)::r)=(if k=f then(k,v)::r else(k,x)::putF f v r) from rfl];by_cases hk:k=f
  .rw[uD hk]
   by_cases h:g=k
   .have hb:=beq_iff_eq.mpr h
    simp only[FS,hb,uD (h.trans hk)]
   .have hb:=beq_eq_false_iff_ne.mpr h
    simp only[FS,hb,uC (λe:g=f=>h (e.trans hk.symm))]
  .rw[uC hk]
   by_cases h:g=k
   .have hb:=beq_iff_eq.mpr h
    simp only[FS,hb,uC (λe:g=f=>hk (h.symm.trans e))]
   .have hb:=beq_eq_false_iff_ne.mpr h
    simp only[FS,hb];exact ih
theorem Jf(f:Str)(v:V):∀fs:List (Str×V),f∈(putF f v fs).map (·.1)/\∀g,g∈fs.map (·.1)->g∈(putF f v fs).map (·.1)
 | []=>⟨by simp[putF],λg h=>by simp at h⟩
 | (k,x)::r=>by
  obtain⟨i1,i2⟩:=Jf f v r;rw[show putF f v ((k,x)::r)=(if k=f then(k,v)::r else(k,x)::putF f v r) from rfl];by_cases hk:k=f
  .rw[uD hk]
   subst hk;exact⟨by simp,λg h=>by simpa using h⟩
  .rw[uC hk]
   refine⟨?_,λg h=>?_⟩
   .rw[B4]
    exact AK _ i1
   .rw[B4] at h ⊢
    rcases BH.mp h with e| e
    .exact BH.mpr (.inl e)
    .exact AK _ (i2 g e)
theorem KH(f:Str)(v:V):∀fs:List (Str×V),(putF f v fs).length<=fs.length+1
 | []=>by simp[putF]
 | (k,x)::r=>by
  have ih:=KH f v r;rw[show putF f v ((k,x)::r)=(if k=f then(k,v)::r else(k,x)::putF f v r) from rfl];by_cases hk:k=f
  .rw[uD hk,C9,C9];exact u9
  .rw[uC hk,C9,C9];exact vD ih
theorem ur{o:Option As}(r:RelO (uA v) o):∃u,o=uA u/\RelV v u:=by
 cases o with
 | none=>exact r.elim
 | some u=>exact⟨u,rfl,r⟩
theorem ut{o:Option As}(r:RelO uB o):o=uB:=by
 cases o with
 | none=>rfl
 | some u=>exact r.elim
theorem AAt(r:RelV v u):UB u=true:=by
 cases v with
 | non=>cases r;rfl
 | bl b=>cases r;rfl
 | int i=>obtain⟨t,e⟩:=r;cases e;rfl
 | str x=>obtain⟨t,e⟩:=r;cases e;rfl
 | byt b=>obtain⟨t,e⟩:=r;cases e;rfl
 | flt b=>obtain⟨t,e⟩:=r;cases e;rfl
 | ref a=>cases r;rfl
 | ty n=>cases r;rfl
section
variable{fs fs':List (Str×V)}
theorem Kq(hok:HOk P w H h)(e:H a=uA (.ins C dx fs)):∃mA,ObjM h a dx C mA/\(∀f,RelO (fs.lookup f) (mA f))/\Sz mA (fs.map (·.1))/\fs.length<=1000/\H dx=uA (.own a):=by
 obtain⟨d,z,ne,ob,mA,n,r,q⟩:=(hok a _ e);exact⟨mA,⟨ob,n,ne⟩,r,q,z,d⟩
end
structure Cls(K:Ap)(C:Addr):Prop where
 pg:K4 K C Str.empty=true
 hd:LX K C=true
 po:Oy K C=true
 sa:CS K (.ref C) "__setattr__" = uA (uA (.builtin "object.__setattr__"))
theorem Cls.get(c:Cls K C)(f:Str):K4 K C f=true:=c.pg
def NoAttr(K:Ap)(C:Addr)(f:Str):Prop:=CS K (.ref C) f=uA uB
theorem NoAttr.taker{f:Str}(n:NoAttr K C f):Pm K C f=uA uB:=by
 unfold Pm;rw[show CS K (.ref C) f=uA uB from n];rfl
structure Meth(K:Ap)(C:Addr)(m:Str)(f:Addr):Prop where
 at_:CS K (.ref C) m=uA (uA (.ref f))
 fn:MR K (.ref f)=true
 kp:DL K (.ref f)=true
section
variable{fs:List (Str×V)}{f:Str}
theorem Xf{b:Bool}(I:Inv X aa σ H s)(e:H a=uA (.ins C dx fs))(c:Cls X.K C)(n:NoAttr X.K C f)(l:fs.lookup f=uA v)
  (h:∀u s',Inv X aa σ H s'->RelV v u->Q u s'):wpAny (AM X.prog X.w) A (getAttr (.ref a) f b) Q E s:=by
 obtain⟨mA,O,r,_,_,_⟩:=Kq I.hok e;obtain⟨u,hu,ru⟩:=ur (v:=v) (o:=mA f) (by rw[<- l];exact r f);exact get_map I.kIn O (c.get f) c.hd n hu (AAt ru) (h u _ (I.tok _) ru)
theorem LQ{m:Str}{g:Addr}{pl:Sem Bool}{Q:As×List As->AA->Prop}(I:Inv X aa σ H s)(e:H a=uA (.ins C dx fs))(c:Cls X.K C)(k:Meth X.K C m g)(l:fs.lookup m=uB)
  (h:Q (.ref g,[.ref a]) s):wpAny (AM X.prog X.w) A (SE (.ref a) m pl) Q E s:=by
 obtain⟨mA,O,r,_,_,_⟩:=Kq I.hok e;have hn:=ut (by rw[<- l];exact r m);exact ACi I.kIn O (c.get m) k.at_ k.fn hn h
theorem XQ{Q:uO}(I:Inv X aa σ H s)(e:H a=uA (.ins C dx fs))(c:Cls X.K C)(n:NoAttr X.K C f)(hl:fs.length<1000)(ry:RelV y u)
  (h:∀s',Inv X aa σ (upd H a (.ins C dx (putF f y fs))) s'->Q () s'):wpAny (AM X.prog X.w) A (setAttr (.ref a) f u) Q E s:=by
 obtain⟨mA,O,r,wi,_,ho⟩:=Kq I.hok e;have hz:(fs.map (·.1)).length<=sizeLine:=by rw[AB,Go];lia
 refine AEI I.kIn O c.sa c.po n.taker c.hd wi hz λh' O' sb=>h _ ?_;have hd:∃o,h'.get? dx=uA o:=by obtain⟨o,_,_,e',_⟩:=O'.ns;exact⟨o,e'⟩
 refine I.write (x:=a) (e:=dx) (by rw[e];exact IG) (.inr ho) (λb q hb z=>(sb.2 b hb).trans z) hd ?_;refine⟨by rw[Af O.ne];exact ho,?_,O.ne,O'.obj,_,O'.ns,λg=>?_,λg hg=>?_⟩
 .have:=KH f y fs;exact wY this hl
 .rw[Aj]
  by_cases q:g=f
  .rw[uD q,uD q];exact ry
  .rw[uC q,uC q];exact r g
 .by_cases q:g=f
  .rw[q];exact(Jf f y fs).1
  .refine(Jf f y fs).2 g (wi g λz=>hg ?_)
   show(if g=f then uA u else mA g)=uB;rw[uC q];exact z
theorem Inv.made(I:Inv X aa σ H s):Inv X aa σ (upd (upd H s.heap.objs.size (.own (s.heap.objs.size+1))) (s.heap.objs.size+1) (.ins C s.heap.objs.size []))
  {s with heap:=(s.heap.push EL).push (FK C s.heap.objs.size)}:=by
 have e1:(s.heap.push EL).get? s.heap.objs.size=uA EL:=AU s.heap rfl;have e2:((s.heap.push EL).push (FK C s.heap.objs.size)).get? (s.heap.objs.size+1)=uA (FK C s.heap.objs.size):=by
  have:=AU (s.heap.push EL) (o:=FK C s.heap.objs.size) rfl
  rwa [FB] at this
 have e3:(s.heap.push EL).Ns s.heap.objs.size (λ_=>uB):=⟨EL,#[],_,e1,rfl,(λe he=>uH he (by simp)),λ_=>rfl⟩;have I1:=I.laid (a:=s.heap.objs.size) (o:=.own (s.heap.objs.size+1)) (h':=s.heap.push EL) (t':=s.toks) (λb u q=>AJ _ q) (AF _) ⟨_,e1⟩;refine I1.laid (a:=s.heap.objs.size+1) (o:=.ins C s.heap.objs.size []) (t':=s.toks) (λb u q=>AJ _ q) (OS (FB _ _)) ?_;have ne:s.heap.objs.size≠s.heap.objs.size+1:=BU (DI _);refine⟨by rw[Af ne,Ab],AY _,ne,e2,λ_=>uB,(Heap.Ns1.of_empty e3).at λo q=>AJ _ q,λ_=>IG,λy hy=>uH rfl hy⟩
theorem AEH{env:Env}{f:Str}(hb:Mo e f env (eval e env)=eval e env)
  (h:wpAny (AM prog w) A (eval e env) (λo s₁=>wpAny (AM prog w) A (getAttr o f true) Q E s₁) E s):wpAny (AM prog w) A (eval (.Attribute e f pos) env) Q E s :=
 Attribute_any_ h (by rw[arm_eval_Attribute,hb])
end
def AIL(K:Ap)(ta:TE)(f:Str):TE:=λσ H Q=>ta σ H λx H1=>E5 λa C dx fs v=>A6 (x=.ref a) (H1 a=uA (.ins C dx fs)) (Cls K C) (NoAttr K C f) (fs.lookup f=uA v) (Q v H1)
def AIM(K:Ap)(ta tv:TE)(f:Str):TS:=λD σ H=>tv σ H λy H1=>ta σ H1 λx H2=>∃a C dx fs,x=.ref a/\H2 a=uA (.ins C dx fs)/\Cls K C/\NoAttr K C f/\fs.length<1000 /\
 D.nx σ (upd H2 a (.ins C dx (putF f y fs)))
section
variable{o:Expr}{f:Str}{ta tv:TE}
theorem Bw(he:PE X e ta)(hb:Mo e f X.env (eval e X.env)=eval e X.env):PE X (.Attribute e f pos) (AIL X.K ta f):=by
 intro aa s σ H Q I h;refine AEH hb (thn (he aa s σ H _ I h) λu s1 hq=>?_);obtain⟨x,H1,I1,rx,a,C,dx,fs,v,ex,ea,c,n,l,q⟩:=hq;subst ex;obtain rfl:u=A7 a:=rx;exact Xf I1 ea c n l λu' s2 I2 ru=>⟨v,H1,I2,ru,q⟩
theorem Eu(ha:PE X o ta)(hv:PE X a5 tv)(hs:MC a5 (uA (.Attribute o f bg)) pos.line X.env=pure false):PS X (.Assign [.Attribute o f bg] a5 pos) (AIM X.K ta tv f):=by
 intro aa s σ H D I h;refine plainObj_wpAny_Assign_Attribute (thn (hv aa s σ H _ I h) λu s1 ⟨y,H1,I1,ry,q⟩=>thn (ha aa s1 σ H1 _ I1 q) λov s2 hq=>?_) hs;obtain⟨x,H2,I2,rx,a,C,dx,fs,ex,ea,c,n,l,q2⟩:=hq;subst ex;obtain rfl:ov=A7 a:=rx;exact XQ I2 ea c n l ry λs3 I3=>⟨σ,_,I3,q2⟩
end
structure Room(k:Nat)(A:BV):Prop where
 hd:A.handled=uB
 dp:A.depth+3*k+5<V1
 un:A.units+16*k+200<C0
 gd:A.guards=uA []
theorem Room.mono{k:Nat}(r:Room k A)(h:j<=k):Room j A:=⟨r.hd,by have:=r.dp;lia,by have:=r.un;lia,r.gd⟩
theorem Room.deeper{k:Nat}(r:Room (k+1) A)(env:Env):Room k (A.deeper env) :=
 ⟨r.hd,by have:=r.dp;show A.depth+1+3*k+5<_;exact x9 this,by have:=r.un;show A.units+3+16*k+200<_;lia,r.gd⟩
theorem WL:(A.under (.builtin "type.__call__" ⟨.ref C::us,kw⟩)).depth=A.depth+1:=by
 first| rfl| simp[OV,Code.weight,Code.isCreation,Code.isGuard,Code.isCaller,Y3,SG,guardIds]
theorem Wo:(A.under (.builtin "type.__call__" ⟨.ref C::us,kw⟩)).units=A.units+1:=by
 first| rfl| simp[OV,Code.cUnits,Y3,SG]
theorem TQ(hg:A.guards=uA []):(A.under (.builtin "type.__call__" ⟨.ref C::us,kw⟩)).guards=uA []:=by
 have h:(Code.builtin "type.__call__" ⟨.ref C::us,kw⟩).isGuard=false:=by
  show guardIds.contains "type.__call__" = false;decide+kernel
 simp[OV,Code.guards,h,pushGuards,hg]
theorem Room.make{k:Nat}(r:Room (k+1) A)(C:Addr)(us:List As)(kw:List (Str×As)):Room k (A.under (.builtin "type.__call__" ⟨.ref C::us,kw⟩)) :=
 ⟨r.hd,by have:=r.dp;rw[WL];exact x9 this,by have:=r.un;rw[Wo];lia,TQ r.gd⟩
theorem Room.depth{k:Nat}(r:Room k A):A.depth<V1:=by have:=r.dp;lia
theorem Room.units{k:Nat}(r:Room k A):A.units+64<C0:=by have:=r.un;lia
def AHl:TA:=λ_ H Q=>Q [] H
def AHd(ta:TE)(tr:TA):TA:=λσ H Q=>ta σ H λx H1=>tr σ H1 λxs H2=>Q (x::xs) H2
section
variable{t:TA}
theorem Ac:PA X [] AHl:=λ_ _ _ _ H Q I h=>LY ⟨[],H,I,.nil,h⟩
theorem Aa(ha:PE X e te)(hr:PA X es t)(hs:autoParam (CI (e::es) X.env=(false,eval e X.env)::CI es X.env) zA0._auto_1):PA X (e::es) (AHd te t):=by
 intro pos aa s σ H Q I h;rw[hs];refine J1 (thn (ha aa s σ H _ I h) λu s1 hq=>?_);obtain⟨x,H1,I1,r1,q1⟩:=hq;exact thn (hr pos aa s1 σ H1 _ I1 q1) λus s2 ⟨xs,H2,I2,r2,q2⟩=>⟨x::xs,H2,I2,.cons r1 r2,q2⟩
def AIB(t:TA):TE:=λσ H Q=>t σ H λxs H1=>xs.length<=sizeLine/\∀p,H1 p=none->Q (.ref p) (upd H1 p (.tup xs))
def AIC(t:TA):TE:=λσ H Q=>t σ H λxs H1=>xs.length<=sizeLine/\∀p,H1 p=none->Q (.ref p) (upd H1 p (.lst xs))
theorem Cq{x1}(h:PA X es t):PE X (.Tuple es x1 pos) (AIB t):=by
 intro aa s σ H Q I hq;refine wpAny_Tuple_spliced (thn (h pos aa s σ H _ I hq) λus s1 ⟨xs,H1,I1,r,z,q⟩=>⟨by rw[<- r.length];exact z,?_⟩);have hf:=I1.hok.fresh (AF _);refine⟨.ref s1.heap.objs.size,upd H1 s1.heap.objs.size (.tup xs),I1.laid (t':=s1.toks) (λb u e=>AJ _ e) (AF _) ?_,rfl,q _ hf⟩;exact⟨z,us,r,⟨_,AU _ rfl,rfl,_,rfl⟩⟩
theorem Bm(h:PA X es t):PE X (.List es pos) (AIC t):=by
 intro aa s σ H Q I hq;refine wpAny_List_spliced (thn (h pos aa s σ H _ I hq) λus s1 ⟨xs,H1,I1,r,z,q⟩=>⟨by rw[<- r.length];exact z,?_⟩);have hf:=I1.hok.fresh (AF _);refine⟨.ref s1.heap.objs.size,upd H1 s1.heap.objs.size (.lst xs),I1.laid (t':=s1.toks) (λb u e=>AJ _ e) (AF _) ?_,rfl,q _ hf⟩;exact⟨z,us,0,r,AU _ rfl⟩
end
abbrev Sp:=List V->Hp->VK->XK->Prop
variable{sp:L2.Sp}
abbrev CXT:=List Env->Hp->AA->XK->As->AA->Prop
variable{CX:L2.CXT}
structure Env0(P:AL)(w:AQ)(K:Ap)(mg:Str->Option As)(base:Heap)(A:BV)(outer:List Env)(s:AA)(H:Hp):Prop where
 frames:A.frames=uA outer
 mod:Mod K mg base
 bs:∀b o,base.get? b=uA o->s.heap.get? b=uA o/\H b=uB
 bsz:base.objs.size<=s.heap.objs.size
 funs:s.heap.FunFrames base outer
 frf:∀b∈frs outer,H b=uB
 hok:HOk P w H s.heap
 bare:MB s.gens
def CE(outer:List Env)(P:AL)(w:AQ)(H:Hp)(s:AA)(Q:VK)(u:As)(s':AA):Prop :=
 ∃v H',s'.os=s.os/\MB s'.gens/\Un (frs outer) [] H H' s.heap s'.heap/\HOk P w H' s'.heap/\RelV v u/\Q v H'
def CR(CX:CXT)(outer:List Env)(P:AL)(w:AQ)(H:Hp)(s:AA)(Q:VK)(E:XK)(r:SF)(s':AA):Prop :=
 match r with
 | .ok (.ret u)=>CE outer P w H s Q u s'
 | .ok _=>False
 | .error e=>CX outer H s E e s'
structure FnOk(P:AL)(w:AQ)(K:Ap)(mg:Str->Option As)(base:Heap)(CX:CXT)(k:Nat)(f:Addr)(fd:Bn)(ps:uU)(sp:Sp):Prop where
 len:∀vs H Q E,sp vs H Q E->vs.length=ps.length
 run:∀(A:BV) (outer:List Env) (s:AA) (H:Hp) (args:Args) (us:List As) (vs:List V) (Q:VK) (E:XK),Room k A->Env0 P w K mg base A outer s H->QA s fd args (ps.zip us)->Vals vs us->sp vs H Q E ->
  codeAny (AM P w) A (.call (.ref f) args) (CR CX outer P w H s Q E) s
theorem Env0.make{outer:List Env}(e:Env0 P w K mg base A outer s H)(C:Addr)(us:List As)(kw:List (Str×As)) :
  Env0 P w K mg base (A.under (.builtin "type.__call__" ⟨.ref C::us,kw⟩)) outer s H:=⟨by first| exact e.frames| (simpa [OV,Code.envs,SG,pushEnvs] using e.frames),e.mod,e.bs,e.bsz,e.funs,e.frf,e.hok,e.bare⟩
theorem Inv.env0(I:Inv X aa σ H s):Env0 X.prog X.w X.K X.mg X.base X.A X.stack s H :=
 ⟨I.ok.frames,I.ok.mod,I.bs,BY I.ok.bsz I.sz,I.stack,I.stkFree,I.hok,I.bare⟩
theorem Inv.after{Q:VK}(I:Inv X aa σ H s)(h:CE X.stack X.prog X.w H s Q u s'):EP X aa σ Q u s':=by
 obtain⟨v,H',os,bare,un,hok,r,q⟩:=h;obtain⟨hh,g,d,t,os'⟩:=s';obtain rfl:os'=s.os:=os;exact⟨v,H',I.call (h':=hh) (g':=g) (d':=d) (t':=t) (ch:=[]) un hok bare (λb z=>uH z (by simp)),r,q⟩
def AFt(sp:Sp)(c8:List V)(E:XK)(t:TA):TE:=λσ H Q=>t σ H λvs H1=>sp (vs++c8) H1 Q E
def AFk(C:Addr)(m:Str)(sp:Sp)(c8:List V)(E:XK)(ta:TE)(t:TA):TE:=λσ H Q=>ta σ H λx H1=>∃a dx fs,x=.ref a/\H1 a=uA (.ins C dx fs)/\fs.lookup m=uB /\
 t σ H1 λvs H2=>sp (x::(vs++c8)) H2 Q E
def AHG(C:Addr)(sp:Sp)(c8:List V)(E:XK)(t:TA):TE:=λσ H Q=>t σ H λvs H1=>∀x dx,H1 x=none->H1 dx=none->dx≠x ->
 sp (.ref x::(vs++c8)) (upd (upd H1 dx (.own x)) x (.ins C dx [])) (λv H2=>v=.non/\Q (.ref x) H2) E
def Binds(K:Ap)(fd:Bn)(ps:uU)(ds:List As):Prop :=
 ∀(s:AA) (us:List As),K.In s.heap->(us++ds).length=ps.length->QA s fd ⟨us,[]⟩ (ps.zip (us++ds))
theorem Binds.all(h:∀us:List As,us.length=ps.length->UE fd ⟨us,[]⟩=pure (ps.zip us)):Binds K fd ps []:=λs us _ hl=>by
 rw[Co] at hl ⊢;exact .of_eq (h us hl)
def Passes(CX:CXT)(X:Cx)(E:XK):Prop:=∀(aa:uQ) (σ:St) (H:Hp) (s:AA) (e:As) (s':AA),Inv X aa σ H s->CX X.stack H s E e s'->X.xe e s'
section
variable{k:Nat}{c8:List V}{ds:List As}{E:XK}{m:Str}{p:Pos}{o:Expr}{ta:TE}{t:TA}
theorem Wx{Q:VK}{vs:List V}(F:FnOk X.prog X.w X.K X.mg X.base CX k f fd ps sp)(hr:Room k X.A)(hb:Binds X.K fd ps ds)(hd:Vals c8 ds)(hx:Passes CX X E)
  (I:Inv X aa σ H s) (r:Vals vs us) (h:sp (vs++c8) H Q E):wpAny (AM X.prog X.w) X.A (call (.ref f) us) (EP X aa σ Q) X.xe s:=by
 have r2:=r.append hd;have hl:(us++ds).length=ps.length:=by rw[<- r2.length];exact F.len _ _ _ _ h
 refine Q7 (FU (F.run X.A X.stack s H ⟨us,[]⟩ (us++ds) (vs++c8) Q E hr I.env0 (hb s us I.kIn hl) r2 h) λr s' hq=>?_);cases r with
 | error e=>exact hx aa σ H s e s' I hq
 | ok fl =>
  cases fl with
  | ret u=>exact I.after hq
  | next=>exact E8 hq
  | brk=>exact E8 hq
  | cont=>exact E8 hq
theorem JX(F:FnOk X.prog X.w X.K X.mg X.base CX k f fd ps sp)(hr:Room k X.A)(hg:Gl X x)(hm:X.mg x=uA (.ref f))(hk:DL X.K (.ref f)=true)(hb:Binds X.K fd ps ds)(hd:Vals c8 ds)(hx:Passes CX X E)
  (ha:PA X (e::es) t) (ie:autoParam ((x==("__debug__" : Str))=false) zA1._auto_1) (he:autoParam (CI (e::es) X.env=(false,eval e X.env)::CI es X.env) zA0._auto_1) (e8:autoParam ((KF pos (CI es X.env)).any (·.1)=false) zA0._auto_1) :
  PE X (.Call (.Name x p) (e::es) [] pos) (AFt sp c8 E t):=by
 intro aa s σ H Q I h;refine F4 (Ku I hg hm ?_ ie);refine NS (h₀:=X.base) I.ok.mod.kin hk (thn (ha pos aa s σ H _ I h) λus s1 ⟨vs,H1,I1,r,q⟩=>⟨I1.kIn,?_⟩) he e8;exact Wx F hr hb hd hx I1 r q
theorem CN{pl:Sem Bool}(he:PE X o ta)(c:Cls X.K C)(hm:Meth X.K C m f)(F:FnOk X.prog X.w X.K X.mg X.base CX k f fd ps sp)(hr:Room k X.A)(hb:Binds X.K fd ps ds)(hd:Vals c8 ds)(hx:Passes CX X E)(ha:PA X (e::es) t)
  (dk:autoParam (CI (e::es) X.env=(false,eval e X.env)::CI es X.env) zA0._auto_1) (e8:autoParam ((KF pos (CI es X.env)).any (·.1)=false) zA0._auto_1)
  (ht:autoParam (eval (.Call (.Attribute o m bE) (e::es) [] pos) X.env=(do
   let ov <- eval o X.env
   VX bE.atName
   let (f,first) <- NB [ov] (SE ov m pl)
   callWith pos f first (KF pos (CI (e::es) X.env)) (UF pos (PV [] X.env)))) zA0._auto_1) :
  PE X (.Call (.Attribute o m bE) (e::es) [] pos) (AFk C m sp c8 E ta t):=by
 intro aa s σ H Q I h;refine QE (pl:=pl) (thn (he aa s σ H _ I h) λu s1 hq=>?_) ht;obtain⟨x,H1,I1,rx,a,dx,fs,ex,ea,l,q⟩:=hq;subst ex;obtain rfl:u=A7 a:=rx;refine LQ I1 ea c hm l ?_;refine NS (first:=[.ref a]) (h₀:=X.base) I.ok.mod.kin hm.kp (thn (ha pos aa s1 σ H1 _ I1 q) λus s2 ⟨vs,H2,I2,r,q2⟩=>⟨I2.kIn,?_⟩) dk e8;exact Wx (us:=.ref a::us) (vs:=.ref a::vs) F hr hb hd hx I2 (.cons rfl r) q2
theorem CW{pl:Sem Bool}(he:PE X o ta)(c:Cls X.K C)(hm:Meth X.K C m f)(F:FnOk X.prog X.w X.K X.mg X.base CX k f fd ps sp)(hr:Room k X.A)(hb:Binds X.K fd ps ds)(hd:Vals c8 ds)(hx:Passes CX X E)
  (ht:autoParam (eval (.Call (.Attribute o m bE) [] [] pos) X.env=(do
   let ov <- eval o X.env
   VX bE.atName
   let (f,first) <- NB [ov] (SE ov m pl)
   callWith pos f first (KF pos (CI [] X.env)) (UF pos (PV [] X.env)))) zA0._auto_1) :
  PE X (.Call (.Attribute o m bE) [] [] pos) (AFk C m sp c8 E ta AHl):=by
 intro aa s σ H Q I h;refine QE (pl:=pl) (thn (he aa s σ H _ I h) λu s1 hq=>?_) ht;obtain⟨x,H1,I1,rx,a,dx,fs,ex,ea,l,q⟩:=hq;subst ex;obtain rfl:u=A7 a:=rx;refine LQ I1 ea c hm l ?_;exact Sb (first:=[.ref a]) I1.kIn hm.kp (Wx (us:=[.ref a]) (vs:=[.ref a]) F hr hb hd hx I1 (.cons rfl .nil) q)
structure Mk(K:Ap)(C f:Addr):Prop where
 makes:Ix K C=true
 init:CS K (.ref C) "__init__" = uA (uA (.ref f))
 fn:MR K (.ref f)=true
 kp:DL K (.ref C)=true
theorem ACw{Q:VK}{vs:List V}(M:Mk X.K C f)(F:FnOk X.prog X.w X.K X.mg X.base CX k f fd ps sp)(hr:Room (k+1) X.A)(hb:Binds X.K fd ps ds)(hd:Vals c8 ds)
  (hx:Passes CX X E) (I:Inv X aa σ H s) (r:Vals vs us)
  (h:∀x dx,H x=none->H dx=none->dx≠x->sp (.ref x::(vs++c8)) (upd (upd H dx (.own x)) x (.ins C dx [])) (λv H2=>v=.non/\Q (.ref x) H2) E) :
  wpAny (AM X.prog X.w) X.A (call (.ref C) us) (EP X aa σ Q) X.xe s:=by
 have hq:=h (s.heap.objs.size+1) s.heap.objs.size (I.hok.fresh (L9 _)) (I.hok.fresh (AF _)) (BU (DI _));have I2:=Inv.made (C:=C) I;have r2:Vals (V.ref (s.heap.objs.size+1)::(vs++c8)) (A7 (s.heap.objs.size+1)::(us++ds)):=.cons rfl (r.append hd);have hl:(A7 (s.heap.objs.size+1)::us++ds).length=ps.length:=by
  have e:=r2.length;rw[F.len _ _ _ _ hq] at e;exact e.symm
 refine Q7 (ACy (f:=f) I.kIn M.makes M.init (beq_iff_eq.mp M.fn) (FU (F.run _ X.stack _ _ ⟨A7 (s.heap.objs.size+1)::us,[]⟩ (A7 (s.heap.objs.size+1)::(us++ds)) _ _ E (hr.make C us [])
  (I2.env0.make C us []) (hb _ (A7 (s.heap.objs.size+1)::us) I2.kIn hl) r2 hq) λr s' g9=>?_))
 cases r with
 | error e=>exact hx aa σ _ _ e s' I2 g9
 | ok fl =>
  cases fl with
  | ret u =>
   obtain⟨v,H',I3,rv,ev,q3⟩:=I2.after g9;subst ev;exact⟨rv,⟨V.ref (s.heap.objs.size+1),H',I3,rfl,q3⟩⟩
  | next=>exact E8 g9
  | brk=>exact E8 g9
  | cont=>exact E8 g9
theorem Kr(M:Mk X.K C f)(F:FnOk X.prog X.w X.K X.mg X.base CX k f fd ps sp)(hr:Room (k+1) X.A)(hg:Gl X x)(hm:X.mg x=uA (.ref C))(hb:Binds X.K fd ps ds)(hd:Vals c8 ds)(hx:Passes CX X E)
  (ha:PA X (e::es) t) (ie:autoParam ((x==("__debug__" : Str))=false) zA1._auto_1) (he:autoParam (CI (e::es) X.env=(false,eval e X.env)::CI es X.env) zA0._auto_1) (e8:autoParam ((KF pos (CI es X.env)).any (·.1)=false) zA0._auto_1) :
  PE X (.Call (.Name x p) (e::es) [] pos) (AHG C sp c8 E t):=by
 intro aa s σ H Q I h;refine F4 (Ku I hg hm ?_ ie);refine NS (h₀:=X.base) I.ok.mod.kin M.kp (thn (ha pos aa s σ H _ I h) λus s1 ⟨vs,H1,I1,r,q⟩=>⟨I1.kIn,?_⟩) he e8;exact ACw M F hr hb hd hx I1 r q
end
structure FnScope(N P:uU)(sc:F9):Prop where
 kind:sc.kind=.function
 co:sc.isCoroutine=false
 gen:sc.isGenerator=false
 nd:N.Nodup
 pre:N.take P.length=P
 par:∀x∈P,sc.names.lookup x=uA .local\/sc.names.lookup x=uA .cell
 nofree:∀y∈sc.names,y.2≠.free
abbrev zl0:uU:=["points","ties"]
abbrev zl1:uU:=["many","tie"]
abbrev zl2:uU:=["self","many","ties"]
abbrev zl3:uU:=["self"]
abbrev zl4:uU:=["self","point"]
abbrev zl5:uU:=["web","number"]
abbrev zl6:uU:=["self","n","rows","head"]
abbrev zl7:uU:=["places","row"]
abbrev zl8:uU:=["self","web","rule"]
abbrev zl9:uU:=["self","state","point"]
abbrev zl10:uU:=["self","web","state"]
abbrev zl11:uU:=["self","web","state","number"]
abbrev zl12:uU:=["self","web","state","point"]
abbrev zl13:uU:=["self","web"]
abbrev zl14:uU:=["_law_script","_law_k"]
abbrev zl15:uU:=["heads","head"]
abbrev zl16:uU:=["numbers","some"]
abbrev zl17:uU:=["web","some"]
abbrev zl18:uU:=["counts"]
abbrev zl19:uU:=["self","web","some"]
abbrev zl20:uU:=["_law_rows_here","_law_cell"]
noncomputable abbrev zl21:uU:=["_law_web_here","_law_rule","_law_sieve","_law_some","_law_due","_law_asked"]
abbrev zl22:uU:=["many","ties"]
abbrev zl23:uU:=["rows","top"]
abbrev zl24:uU:=["n","rows","top"]
abbrev zl25:uU:=["self","number","reached"]
abbrev zl26:uU:=["state","tie"]
abbrev zl27:uU:=["self","state","tie"]
abbrev zl28:uU:=["web","rule"]
abbrev zl29:uU:=["_law_cell"]
abbrev zl30:uU:=["_law_many","_law_number"]
abbrev zl31:uU:=["heads","one","other"]
abbrev zl32:uU:=["sieve","some"]
abbrev zl33:uU:=["_law_rows_here","_law_some"]
abbrev zl34:uU:=["_law_many","_law_rows_here","_law_cell"]
noncomputable abbrev zl35:uU:=["_law_many","_law_rows_here","_law_told","_law_cell","_law_k"]
abbrev zl36:uU:=["_law_rules","_law_many","_law_rows_here"]
theorem fscp{N P:uU}(h:(sc.kind=.function/\sc.isCoroutine=false)/\sc.isGenerator=false/\N.Nodup/\N.take P.length=P/\(∀x∈P,sc.names.lookup x=uA .local\/sc.names.lookup x=uA .cell)/\∀y∈sc.names,y.2≠.free):FnScope N P sc :=
 ⟨h.1.1,h.1.2,h.2.1,h.2.2.1,h.2.2.2.1,h.2.2.2.2.1,h.2.2.2.2.2⟩
theorem Oj{kindOf:Str->Option IS}{x:Str}:∀{binds:List (Str×As)}{m:Str->Option As},(∀v,(x,v)∉binds)->Q8 kindOf binds m x=m x
 | [],_,_=>rfl
 | (n,v)::r,m,h=>by
  unfold Q8;rw[Oj λw hw=>h w (AK _ hw)];split
  .have:x≠n:=by rintro rfl;exact h v AG
   simp[this]
  .rfl
theorem Om{kindOf:Str->Option IS}{x:Str}:∀{binds:List (Str×As)}{m:Str->Option As},(∀v,(x,v)∉binds)->Q9 kindOf binds m x=m x
 | [],_,_=>rfl
 | (n,v)::r,m,h=>by
  unfold Q9;rw[Om λw hw=>h w (AK _ hw)];split
  .rfl
  .have:x≠n:=by rintro rfl;exact h v AG
   simp[this]
theorem Oe{kindOf:Str->Option IS}{x:Str}{v:As}:∀{P:uU}{vs:List As}{i:Nat}{m:Str->Option As},P.Nodup->P[i]?=uA x->vs[i]?=uA v->kindOf x=uA .local ->
  Q8 kindOf (P.zip vs) m x=uA v
 | [],_,_,_,_,h,_,_=>by simp at h
 | _::_,[],_,_,_,_,h,_=>by simp at h
 | p::P,w::vs,0,m,nd,h1,h2,hk=>by
  simp at h1 h2;subst h1;subst h2;show Q8 kindOf ((p,w)::P.zip vs) m p=_;unfold Q8;rw[Oj λv hv=>(DC.mp nd).1 (Po hv).1,uD hk];simp
 | p::P,w::vs,i+1,m,nd,h1,h2,hk=>by
  show Q8 kindOf ((p,w)::P.zip vs) m x=_;unfold Q8;exact Oe (i:=i) (DC.mp nd).2 (by simpa using h1) (by simpa using h2) hk
theorem PB{kindOf:Str->Option IS}{x:Str}{v:As}:∀{P:uU}{vs:List As}{i:Nat}{m:Str->Option As},P.Nodup->P[i]?=uA x->vs[i]?=uA v->kindOf x≠uA .local ->
  Q9 kindOf (P.zip vs) m x=uA v
 | [],_,_,_,_,h,_,_=>by simp at h
 | _::_,[],_,_,_,_,h,_=>by simp at h
 | p::P,w::vs,0,m,nd,h1,h2,hk=>by
  simp at h1 h2;subst h1;subst h2;show Q9 kindOf ((p,w)::P.zip vs) m p=_;unfold Q9;rw[Om λv hv=>(DC.mp nd).1 (Po hv).1,uC hk];simp
 | p::P,w::vs,i+1,m,nd,h1,h2,hk=>by
  show Q9 kindOf ((p,w)::P.zip vs) m x=_;unfold Q9;exact PB (i:=i) (DC.mp nd).2 (by simpa using h1) (by simpa using h2) hk
noncomputable def start(N:uU)(vs:List V):St:=vs.map uA++CC (N.length-vs.length) uB
noncomputable def cxOf(CX:CXT)(P:AL)(w:AQ)(K:Ap)(mg:Str->Option As)(base:Heap)(N:uU)(qual:Str)(scope:F9)(f:Addr)(cd:As)(A:BV)(outer:List Env)(s:AA)(H:Hp)(E:XK):Cx where
 prog:=P
 w:=w
 K:=K
 mg:=mg
 base:=base
 A:=A.deeper (NU qual scope s.heap.objs.size f cd)
 N:=N
 s₀:=s
 H₀:=H
 env:=NU qual scope s.heap.objs.size f cd
 outer:=outer
 stack:=NU qual scope s.heap.objs.size f cd::outer
 ex:=[]
 calm:=true
 fn:=λ_=>true
 pn:=[]
 xe:=λe s'=>wpAny (AM P w) (A.deeper (NU qual scope s.heap.objs.size f cd)) (leaving (NU qual scope s.heap.objs.size f cd) e) (λ_ tW=>CX outer H s E e tW) (λe' tW=>CX outer H s E e' tW) s'
theorem Ur(h:sc.names.lookup x=uA .cell):∃c,(WA n sc.names []).lookup x=uA c:=by
 have q:=PY sc.names n [] (.inl h);exact G2.mp q
theorem AAo{N:uU}{outer:List Env}{s1:AA}{E:XK}{vs:List V}
  (S:FnScope N ps scope) (hd:A.handled=uB) (e0:Env0 P w K mg base A outer s H) (hl:vs.length=ps.length) (r:Vals vs us)
  (x:InCallC s s.heap.objs.size (Q8 (NU qual scope s.heap.objs.size f cd).kindOf (ps.zip us) λ_=>uB) (WA (s.heap.objs.size+1) scope.names []) (Q9 (NU qual scope s.heap.objs.size f cd).kindOf (ps.zip us) λ_=>uB) s1) :
  Inv (cxOf CX P w K mg base N qual scope f cd A outer s H E) [] (start N vs) H s1:=by
 have e8:ps.length<=N.length:=by have:=congrArg Fu S.pre;rw[B0] at this;lia
 obtain⟨h1,tk,rfl,hk⟩:=x.done;have ui:∀b:Addr,b∉(cxOf CX P w K mg base N qual scope f cd A outer s H E).ex:=λb z=>uH (show b∈([]:uY) from z) (by simp);refine⟨⟨e0.mod,S.kind,rfl,rfl,AF _,λy z c h1 h2=>?_,λy hy=>?_,λy c _ h=>?_,λ_=>hd,Around.frames_deeper e0.frames,.inr ⟨rfl,rfl⟩,λb z=>uH z (ui b),e0.bs,e0.bsz,λb _ _=>ui b,λb z=>uH z (ui b),e0.funs,e0.frf⟩,
  rfl,e0.bare,Un.kept hk,⟨_,x.toInCall.ns,λi y v h1 h2 h3=>?_⟩,λy c h=>⟨_,x.cell y c h⟩,e0.hok.fresh (AF _),λy c h=>?_,λp hp=>uH (show p∈([]:uQ) from hp) (by simp),e0.hok.kept hk,?_⟩
 .exact name_of_addr x.apart (Hn h1) (Hn h2)
 .have hy:=hy
  rcases hy with hy| hy
  .exact Ur hy
  .exact uH rfl (S.nofree _ (Hn hy))
 .exact DB (x.above y c (Hn h))
 .have hi:i<vs.length:=by
   unfold start at h2;by_cases hi:i<vs.length
   .exact hi
   .rw[CF (by simpa using hi)] at h2
    rw[He] at h2;split at h2<;>cases h2
  have ha:vs[i]?=uA v:=by
   unfold start at h2;rw[By (by simpa using hi),AS] at h2;cases e:vs[i]? with
   | none=>rw[e] at h2;cases h2
   | some a=>rw[e] at h2;cases h2;rfl
  obtain⟨u,hu,rv⟩:=r.get ha;have hp:ps[i]?=uA y:=by
   rw[<- S.pre,G3 (vP hi hl)];exact h1
  have ndP:ps.Nodup:=by rw[<- S.pre];exact S.nd.sublist (Kk _ _)
  refine⟨u,rv,?_⟩;rcases S.par y (AX hp) with k| k
  .exact .inl ⟨k,Oe ndP hp hu k⟩
  .obtain⟨c,e⟩:=Ur (n:=s.heap.objs.size+1) k
   refine .inr ⟨.inl k,c,e,?_⟩;have q:=x.cell y c e;rw[PB ndP hp hu (by show scope.names.lookup y≠_;rw[k];decide)] at q;exact q
 .exact e0.hok.fresh (DB (x.above y c (Hn h)))
 .unfold start
  show _=N.length;rw[AZ,AB,QH];lia
theorem AHL{k:Nat}{params:Arguments}{dV kV:As}{N:uU} (lk:K.lookup f=uA ⟨oc,od,.func (Fh name qual params body scope dV kV be pm an a7 ct),l6⟩) (jv:IP K a7 qual=true) (S:FnScope N ps scope)
  (len:∀vs H Q E,sp vs H Q E->vs.length=ps.length)
  (iq:∀(A:BV) (outer:List Env) (s:AA) (H:Hp) (vs:List V) (Q:VK) (E:XK),Room k (A.deeper (NU qual scope s.heap.objs.size f a7))->sp vs H Q E ->
   ∃t,PSs (cxOf CX P w K mg base N qual scope f a7 A outer s H E) body t/\t {nx:=λ_ H'=>Q .non H',rt:=Q} (start N vs) H) :
  FnOk P w K mg base CX (k+1) f (Fh name qual params body scope dV kV be pm an a7 ct) ps sp:=by
 refine⟨len,λA outer s H args us vs Q E hr e0 hb r js=>?_⟩;have hl:=len _ _ _ _ js;have KX:=e0.mod.kin.keeps λb o e=>(e0.bs b o e).1;have lim:=e0.mod.nolimit.keeps λb o e=>(e0.bs b o e).1;have sk:∀y∈ps.zip us,scope.names.lookup y.1=uA .local\/(scope.names.lookup y.1=uA .cell/\((WA (s.heap.objs.size+1) scope.names []).lookup y.1).isSome=true):=by
  rintro⟨n,v⟩ hy;rcases S.par n (Po hy).1 with q| q
  .exact .inl q
  .exact .inr ⟨q,PY _ _ _ (.inl q)⟩
 refine codeAny_call_function hr.depth (KX _ _ lk) rfl S.co S.gen rfl (PySem.W.codeRec_of KX jv) (hb _ _ _ _ ?_);refine wpAny_newFunctionEnv_cells S.kind sk λenv he s1 x=>?_;subst he;refine⟨lim.keeps x.toInCall.keep,codeAny_func ?_⟩;obtain⟨t,ht,hq⟩:=iq A outer s H vs Q E (hr.deeper _) js;have I:Inv (cxOf CX P w K mg base N qual scope f a7 A outer s H E) [] (start N vs) H s1:=AAo S hr.hd e0 hl r x;refine EK (ht [] s1 (start N vs) H _ I hq) (λfl s' hs=>?_) λe s' hs=>hs;have fin:∀{σ':St}{H':Hp}{v:V}{u:As},Inv (cxOf CX P w K mg base N qual scope f a7 A outer s H E) [] σ' H' s'->RelV v u->Q v H'->CE outer P w H s Q u s' :=
  λ{σ' H' v u} J rv q=>⟨v,H',J.os,J.bare,J.base,J.hok,rv,q⟩
 cases fl with
 | ret u =>
  obtain⟨v,σ',H',J,rv,q⟩:=hs;exact fin J rv q
 | next =>
  obtain⟨σ',H',J,q⟩:=hs;exact fin (v:=V.non) (u:=DE) J rfl q
 | brk =>
  obtain⟨_,_,_,q⟩:=hs;exact E8 q
 | cont =>
  obtain⟨_,_,_,q⟩:=hs;exact E8 q
section
variable{p:Pos}{t:TA}{id:String}{r:List V->Hp->VK->Prop}
def tCB(r:List V->Hp->VK->Prop)(t:TA):TE:=λσ H Q=>t σ H λvs H1=>r vs H1 Q
theorem Ax(hc:CallR X (.builtin id) r)(hg:Gl X x)(hm:X.mg x=uB)(hv:IR x=uA (.builtin id))(ha:PA X (e::es) t)(hn:autoParam (x≠"__name__") zA1._auto_1)(ie:autoParam ((x==("__debug__" : Str))=false) zA1._auto_1)
  (he:autoParam (CI (e::es) X.env=(false,eval e X.env)::CI es X.env) zA0._auto_1) (e8:autoParam ((KF pos (CI es X.env)).any (·.1)=false) zA0._auto_1):PE X (.Call (.Name x p) (e::es) [] pos) (tCB r t):=by
 intro aa s σ H Q I h;refine F4 (Fb I hg hm hv ?_ hn ie);exact MS (thn (ha pos aa s σ H _ I h) λus s1 ⟨vs,H1,I1,r1,q1⟩=>hc aa s1 σ H1 vs us Q I1 r1 q1) he e8
theorem Bb(hc:CallR X (.type T) r)(hg:Gl X x)(hm:X.mg x=uB)(hv:IR x=uA (.type T))(ha:PA X (e::es) t)(hn:autoParam (x≠"__name__") zA1._auto_1)(ie:autoParam ((x==("__debug__" : Str))=false) zA1._auto_1)
  (he:autoParam (CI (e::es) X.env=(false,eval e X.env)::CI es X.env) zA0._auto_1) (e8:autoParam ((KF pos (CI es X.env)).any (·.1)=false) zA0._auto_1):PE X (.Call (.Name x p) (e::es) [] pos) (tCB r t):=by
 intro aa s σ H Q I h;refine F4 (Fb I hg hm hv ?_ hn ie);exact Ee (thn (ha pos aa s σ H _ I h) λus s1 ⟨vs,H1,I1,r1,q1⟩=>hc aa s1 σ H1 vs us Q I1 r1 q1) he e8
end
end L2
variable{xs ys:List L2.V}{H H' H1 H2:L2.Hp}{X:L2.Cx}{σ τ:L2.St}{v y:L2.V}{tb:L2.TS}{te tv td:L2.TE}{tc:L2.TT}{CX:L2.CXT}{sp:L2.Sp}{J:L2.It}{af:List (List L2.Key×L2.V)}{kX:List (L2.TE×L2.TE)}{fl:List (PySem.Str×L2.V)}
namespace HT
open PySem PyProof.Rows
noncomputable def lexLt:uI->uI->Bool
 | [],[]=>false
 | [],_::_=>true
 | _::_,[]=>false
 | x::xs,y::ys=>if x=y then lexLt xs ys else decide (x<y)
theorem Cm(x y:Int)(xs ys:uI):lexLt (x::xs) (y::ys)=if x=y then lexLt xs ys else decide (x<y):=rfl
theorem Ni:lexLt [] []=false:=rfl
theorem Lw(y:Int)(ys:uI):lexLt [] (y::ys)=true:=rfl
theorem MK(x:Int)(xs:uI):lexLt (x::xs) []=false:=rfl
theorem ACc(A:BV)(s:AA)(a:Int)(t:Tok)(c:Int)(u:Tok):∃e,MT A s (.int a t) (.int c u) e/\(e=true↔a=c) :=
 ⟨(a==c),LG a t c u,by simp⟩
theorem ADH(A:BV)(s:AA)(a:Int)(t:Tok)(c:Int)(u:Tok)(prog:AL)(w:AQ)(E:As->AA->Prop)(Q:As->AA->Prop)(h:Q (.bool (decide (a<c))) s) :
  wpAny (AM prog w) A (richCompare .Lt (.int a t) (.int c u)) Q E s :=
 (ZA h:wpAny (AM prog w) A (ED .Lt (.int a t) (.int c u)) Q E s)
section
open PySem.SeqAt
open PySem.AutoSeq1 (wpAny_loadPart')
open PySem.MeetsSeq PySem.MeetsSeq2 PySem.MeetsSeq3
theorem IV(l b:Addr)(items bi:Array As)(n n2:Nat)(dd gT:Option Addr)(sl gE:Array (Option As))(ns ms:uI)(hi:F5 items.toList ns)(hj:F5 bi.toList ms) :
  Meets (Builtin.«tuple.__lt__» ⟨[.ref l,.ref b],[]⟩)
   (λ_ R s=>s.heap.get? l=uA {cls:=.type "tuple",dict:=dd,data:=.seq items n,slots:=sl}/\s.heap.get? b=uA {cls:=.type "tuple",dict:=gT,data:=.seq bi n2,slots:=gE} /\
    R (.ok (.ret (.bool (lexLt ns ms)))) s) :=
 .of_wp λprog w A R s h=>by
  obtain⟨hp,g,d,tk,os⟩:=s;obtain⟨hl,hb,h⟩:=h;have f2:=AutoSeq1.sub_tuple_tuple;have z1:items.size=ns.length:=by rw[<- hi.length];simp
  have z2:bi.size=ms.length:=by rw[<- hj.length];simp
  wp_walk using wpAny_loadPart' hl,wpAny_loadPart' hb,FY _ (λar b s'=>b.1=uB/\s'=⟨hp,g,d,tk,os⟩/\∃(vs ws:List As) (g7 qY:uI),ar=vs.zip ws /\
   F5 vs g7/\F5 ws qY/\g7.length+bi.size=qY.length+items.size/\R (.ok (.ret (.bool (lexLt g7 qY)))) ⟨hp,g,d,tk,os⟩) _
  case turn =>
   rintro⟨y,x⟩ ar b s' ⟨n5,rfl,vs,ws,g7,qY,hz,sN,hwi,aw,hR⟩;cases sN with
   | nil=>rw[List.zip_nil_left] at hz;cases hz
   | cons a t hvi' =>
    cases hwi with
    | nil=>rw[List.zip_nil_right] at hz;cases hz
    | cons c u hwi' =>
     rw[SH] at hz;injection hz with hyx hrest
     injection hyx with hy hx
     subst hy hx;rw[Cm] at hR;simp only[C9] at aw;obtain⟨e,he,tG⟩:=ACc A.in1 ⟨hp,g,d,tk,os⟩ a t c u;refine Au (he prog w _ _ ?_);cases e with
     | true =>
      rw[uD (tG.mp rfl)] at hR
      wp_walk
      exact⟨rfl,rfl,_,_,_,_,hrest,hvi',hwi',by lia,hR⟩
     | false =>
      rw[uC (λq=>uH (tG.mpr q) Be)] at hR;have hri:=ADH A.in1 ⟨hp,g,d,tk,os⟩ a t c u prog w
      wp_walk using hri
      exact⟨_,rfl,by simpa using hR⟩
  case fin =>
   rintro⟨b1,b2⟩ s' ⟨n5,rfl,vs,ws,g7,qY,hz,sN,hwi,aw,hR⟩;simp only at n5;subst n5;have hv:lexLt g7 qY=decide (items.size<bi.size):=by
    cases sN with
    | nil =>
     cases hwi with
     | nil =>
      rw[Ni];exact(uF (by lia)).symm
     | cons c u hw =>
      simp only[J2,C9] at aw;rw[Lw];exact(uE (by lia)).symm
    | cons a t hv =>
     cases hwi with
     | nil =>
      simp only[J2,C9] at aw;rw[MK];exact(uF (by lia)).symm
     | cons c u hw =>
      rw[SH] at hz;cases hz
   rw[hv] at hR
   wp_walk
   exact⟨_,rfl,by simpa [UU] using hR⟩
  case h =>
   exact⟨rfl,rfl,items.toList,bi.toList,ns,ms,rfl,hi,hj,by lia,h⟩
end
theorem Xh{bi:Array As}(hl:Ta s.heap l items)(hb:Ta s.heap b bi)(hi:F5 items.toList ns)(hj:F5 bi.toList ms)
  (hu:A.units<C0) (h:Q (.bool (lexLt ns ms)) s):wpAny (AM prog w) A (ED .Lt (.ref l) (.ref b)) Q E s:=by
 obtain⟨⟨cls,dd,data,sl⟩,ho,hc,n,hd⟩:=id hl;obtain⟨⟨kH,gT,XA,gE⟩,eC,fg,n2,eQ⟩:=id hb;simp only at hc hd fg eQ;subst hc hd fg eQ;exact richCompare_meets_room (op:=.Lt) ⟨_,ho,rfl⟩ ⟨_,eC,rfl⟩ MD P0 (Pd _ _) (IV l b items bi n n2 dd gT sl gE ns ms hi hj)
  ⟨ho,eC,show K1 (lexLt ns ms)≠Value.notImplemented/\Q (.bool (lexLt ns ms)) s from⟨(λx=>nomatch x),h⟩⟩ hu
theorem AEJ{t:Addr}{ws:List As}(ht:Ta s.heap t vs.toArray)(hb:Ta s.heap b ws.toArray)(hv:vs≠[])
  (h1:ws=[]->Q (.ref t) s) (h2:ws≠[]->Q (.ref s.heap.objs.size) {s with heap:=s.heap.push {cls:=.type "tuple",data:=.seq (vs++ws).toArray}})
  (hsz:vs.length+ws.length<=sizeLine):wpAny (AM prog w) A (G1 .Add (.ref t) (.ref b)) Q E s:=by
 obtain⟨⟨cls,dd,data,sl⟩,ho,hc,n,hd⟩:=id ht;obtain⟨⟨kH,gT,XA,gE⟩,eC,fg,n2,eQ⟩:=id hb;simp only at hc hd fg eQ;subst hc hd fg eQ;have e:vs.toArray++ws.toArray=(vs++ws).toArray:=by simp
 by_cases hw:ws=[]
 .exact OW ⟨_,ho,rfl⟩ ⟨_,eC,rfl⟩ OX RY Mb LW (LH _ _)
   (tuple_addW1 t b vs.toArray ws.toArray n n2 dd gT sl gE (by simpa using hv) (by simp[hw])) ⟨ho,eC,h1 hw⟩
 .refine OW ⟨_,ho,rfl⟩ ⟨_,eC,rfl⟩ OX RY Mb LW (LH _ _)
   (tuple_addW2 t b vs.toArray ws.toArray n n2 dd gT sl gE (by simpa using hv) (by simpa using hw) (by rw[AT,AT];exact hsz)) ⟨ho,eC,?_⟩
  rw[e];exact h2 hw
noncomputable def sIx(n d:Nat):Option Int->Nat
 | none=>d
 | some v=>if v<0 then(v+(n:Int)).toNat else min v.toNat n
end HT
namespace L2
open PySem PySem.Spec PyProof.Rows
abbrev TO:=St->Hp->(Option Int->Hp->Prop)->Prop
def PO(X:Cx)(e:Option Expr)(t:TO):Prop :=
 ∀(aa:uQ) (s:AA) (σ:St) (H:Hp) (Q:Option Int->Hp->Prop),Inv X aa σ H s->t σ H Q ->
  wpAny (AM X.prog X.w) X.A (evalPart e X.env) (λu s'=>∃o H',Inv X aa σ H' s'/\IsPart u o/\Q o H') X.xe s
def AHI(t:TE):TO:=λσ H Q=>t σ H λx H1=>∃i,x=.int i/\Q (uA i) H1
theorem intsAre_of:∀{us:List As},Vals (ns.map V.int) us->F5 us ns:=by
 induction ns with
 | nil=>intro us r;rw[LI] at r;cases r;exact .nil
 | cons n ns ih =>
  intro us r;rw[B4] at r;cases r with
  | cons r1 r2 =>
   obtain⟨t,e⟩:=r1;subst e;exact .cons n t (ih r2)
section
variable{lo hi:Option Expr}{tl th:TO}
theorem Xy(h:PE X e te):PO X (uA e) (AHI te):=by
 intro aa s σ H Q I hw;rw[evalPart_some];refine thn (h aa s σ H _ I hw) λu s1 hq=>?_;obtain⟨x,H1,I1,r1,q1⟩:=hq;obtain⟨i,rfl,q⟩:=q1;obtain⟨t,rfl⟩:=r1;exact⟨uA i,H1,I1,.int i t,q⟩
def SlR(X:Cx)(r:V->Option Int->Option Int->Hp->VK->Prop):Prop :=
 ∀(aa:uQ) (s:AA) (σ:St) (H:Hp) (x:V) (v vl vu:As) (lo hi:Option Int) (sl:Addr) (Q:VK),Inv X aa σ H s->RelV x v->s.heap.IsSliceOf sl vl vu .none->IsPart vl lo->IsPart vu hi->r x lo hi H Q ->
  ∃T id,typeLookup (.type T) "__getitem__" = pure (uA (.builtin id))/\s.TypeIs v T/\wpAny (AM X.prog X.w) X.A (OO v (.ref sl)) (EP X aa σ Q) X.xe s
def tSl(r:V->Option Int->Option Int->Hp->VK->Prop)(te:TE)(tl th:TO):TE:=λσ H Q=>te σ H λx H1=>tl σ H1 λl H2=>th σ H2 λu H3=>r x l u H3 Q
theorem ACr{r:V->Option Int->Option Int->Hp->VK->Prop}(hr:SlR X r)(he:PE X e te)(hl:PO X lo tl)(hu:PO X hi th):PE X (.Subscript e (.Slice lo hi uB p2) pos) (tSl r te tl th):=by
 intro aa s σ H Q I h;refine UZ (thn (he aa s σ H _ I h) λv s1 hq=>?_);obtain⟨x,H1,I1,r1,q1⟩:=hq;refine wpAny_Slice (thn (hl aa s1 σ H1 _ I1 q1) λvl s2 ⟨l,H2,I2,pl,q2⟩=>thn (hu aa s2 σ H2 _ I2 q2) λvu s3 hq=>?_);obtain⟨u,H3,I3,pu,q3⟩:=hq;rw[evalPart_none];refine AC ?_;have I4:Inv X aa σ H3 {s3 with heap:=s3.heap.push {cls:=.type "slice",data:=.fields #[vl,vu,.none]}}:=I3.kept (t':=s3.toks) λb ob q=>AJ _ q;obtain⟨T,id,hT,ht,hg⟩:=hr aa {s3 with heap:=s3.heap.push {cls:=.type "slice",data:=.fields #[vl,vu,.none]}} σ H3 x v vl vu l u s3.heap.objs.size Q I4 r1 (ZE ..) pl pu q3;exact tail_any (ops:=[.ref s3.heap.objs.size,v]) ht hT hg (by with_unfolding_all rfl)
noncomputable def cutV(xs:List V)(lo hi:Option Int):List V:=(xs.drop (HT.sIx xs.length 0 lo)).take (HT.sIx xs.length xs.length hi-HT.sIx xs.length 0 lo)
theorem TV(xs:List V)(lo hi:Option Int):(cutV xs lo hi).length<=xs.length:=by
 unfold cutV;rw[B0,K5];lia
def rCatT(K:Ap):R2:=λx y H Q=>∃a b xs ys,x=.ref a/\y=.ref b/\SqT K H a xs/\SqT K H b ys/\xs≠[]/\xs.length+ys.length<=sizeLine /\
 (ys=[]->Q (.ref a) H)/\(ys≠[]->∀p,H p=none->Q (.ref p) (upd H p (.tup (xs++ys))))
theorem Vals.nil_iff(r:Vals xs us):us=[]↔xs=[]:=by
 cases r with
 | nil=>simp
 | cons _ _=>simp
theorem AEo:OpR X (G1 .Add) (rCatT X.K):=by
 intro aa s σ H x y v u Q I rx ry h;obtain⟨a,b,xs,ys,rfl,rfl,ha,hb,hx,hz,q1,q2⟩:=h;cases rx;cases ry;obtain⟨ag,r1,p1,_⟩:=I.tuple ha;obtain⟨eh,r2,p2,_⟩:=I.tuple hb;refine HT.AEJ p1 p2 (λz=>hx (r1.nil_iff.mp z)) (λz=>⟨.ref a,H,I,rfl,q1 (r2.nil_iff.mp z)⟩) (λz=>?_) (by rw[<- r1.length,<- r2.length];exact hz);refine⟨.ref s.heap.objs.size,_,I.laid (t':=s.toks) (o:=.tup (xs++ys)) (λb ob q=>AJ _ q) (AF _) ?_,rfl,q2 (λw=>z (r2.nil_iff.mpr w)) _ (I.hok.fresh (AF _))⟩;exact⟨by rw[AZ];exact hz,_,r1.append r2,ZH _ _⟩
end
noncomputable def ixN(n:Nat)(i:Int):uX:=if 0<=i then(if i<n then uA i.toNat else uB) else if -(n:Int)<=i then uA (i+n).toNat else uB
noncomputable def atI{α:Type}(xs:List α)(i:Int):Option α:=(ixN xs.length i).bind λj=>xs[j]?
theorem Xn{i:Int}(h:ixN n i=uA j):seqIndex? i n=uA j/\j<n/\-(n:Int)<=i/\i<n:=by
 unfold ixN at h;by_cases h0:0<=i
 .rw[uD h0] at h
  by_cases h1:i<n
  .rw[uD h1] at h
   have e:=AN h;exact⟨by rw[TU h0 h1,e],by lia,by lia,h1⟩
  .rw[uC h1] at h;cases h
 .rw[uC h0] at h
  by_cases h1:-(n:Int)<=i
  .rw[uD h1] at h
   have e:=AN h;exact⟨by rw[seqIndex_neg (vM h0) h1,e],by lia,h1,by lia⟩
  .rw[uC h1] at h;cases h
theorem atI_get{xs:List α}{i:Int}{v:α}(h:atI xs i=uA v):∃j,seqIndex? i xs.length=uA j/\xs[j]?=uA v/\j<xs.length/\-(xs.length:Int)<=i/\i<xs.length:=by
 unfold atI at h;cases e:ixN xs.length i with
 | none=>rw[e] at h;cases h
 | some j =>
  rw[e] at h;obtain⟨h1,h2,h3,h4⟩:=Xn e;exact⟨j,h1,h,h2,h3,h4⟩
theorem Bg{xs:List α}{v:α}(h:xs[j]?=uA v):atI xs (j:Int)=uA v:=by
 have hj:=(AH.mp h).1;have e:ixN xs.length (j:Int)=uA j:=by
  unfold ixN;rw[uD fv,uD (uP hj)];simp
 unfold atI;rw[e];exact h
def AEb(b:Expr):Prop:=∀o i,P3 b false o i=operate [o,i] (OO o i)
def IxR(X:Cx)(r:R2):Prop :=
 ∀(a5 bn:Expr) (aa:uQ) (s:AA) (σ:St) (H:Hp) (x y:V) (v u:As) (Q:VK),Inv X aa σ H s->RelV x v->RelV y u->r x y H Q ->
  P3 bn false v u=operate [v,u] (OO v u)->wpAny (AM X.prog X.w) X.A (subscriptTail a5 bn v u) (EP X aa σ Q) X.xe s
def MtR(X:Cx)(id:String)(r:V->List V->Hp->VK->Prop):Prop :=
 ∀(aa:uQ) (s:AA) (σ:St) (H:Hp) (x:V) (xs:List V) (v:As) (us:List As) (Q:VK),Inv X aa σ H s->RelV x v->Vals xs us->r x xs H Q ->
  wpAny (AM X.prog X.w) X.A (call (.builtin id) (v::us)) (EP X aa σ Q) X.xe s
section
variable{a b:Expr}{ta tb:TE}
theorem Av{r:R2}(hr:IxR X r)(ha:PE X a ta)(hb:PE X b tb)(hs:AEb b:=by exact λ_ _=>rfl):PE X (.Subscript a b pos) (tOp r ta tb):=by
 intro aa s σ H Q I h;exact UZ (binT ha hb I h λv u s2 x y H2 I2 rx ry q=>hr a b aa s2 σ H2 x y v u Q I2 rx ry q (hs _ _))
def rIxL(K:Ap):R2:=λx y H Q=>E4 λp xs i v=>A5 (x=.ref p) (y=.int i) (SqL K H p xs) (atI xs i=uA v) (Q v H)
def rIxT(K:Ap):R2:=λx y H Q=>E4 λp xs i v=>A5 (x=.ref p) (y=.int i) (SqT K H p xs) (atI xs i=uA v) (Q v H)
theorem BL:IxR X (rIxL X.K):=by
 intro a5 bn aa s σ H x y v u Q I rx ry h hs;obtain⟨p,xs,i,z,rfl,rfl,hq,he,q⟩:=h;cases rx;obtain⟨t,rfl⟩:=ry;obtain⟨ag,r,pl,hz⟩:=I.list hq;obtain⟨j,h1,h2,h3,h4,h5⟩:=atI_get he;obtain⟨w,ew,dE⟩:=r.get h2;have hl:=r.length;have hn:=line63;have fin:EP X aa σ Q w s:=⟨z,H,I,dE,q⟩;by_cases h0:0<=i
 .have hj:i.toNat=j:=by
   rw[TU h0 h5] at h1;exact AN h1
  exact item_listR pl.isList h0 (by lia) (by rw[hj];simpa using ew) fin hs
 .have hj:(i+(ag.toArray.size:Int)).toNat=j:=by
   rw[seqIndex_neg (vM h0) h4] at h1;rw[AT,<- hl];exact AN h1
  exact P4 (x:=w) pl.isList.typeIs Tu.lookup
   (wpAny_getItem_list_neg (Q:=λr s'=>r=w/\EP X aa σ Q r s') pl.isList (vM h0) (by rw[AT]<;>lia) (by lia) (by rw[hj];simpa using ew) ⟨rfl,fin⟩) hs
theorem BW:IxR X (rIxT X.K):=by
 intro a5 bn aa s σ H x y v u Q I rx ry h hs;obtain⟨p,xs,i,z,rfl,rfl,hq,he,q⟩:=h;cases rx;obtain⟨t,rfl⟩:=ry;obtain⟨ag,r,pl,hz⟩:=I.tuple hq;obtain⟨j,h1,h2,h3,h4,h5⟩:=atI_get he;obtain⟨w,ew,dE⟩:=r.get h2;have hl:=r.length;have hn:=line63;have fin:EP X aa σ Q w s:=⟨z,H,I,dE,q⟩;exact P4 (x:=w) pl.typeIs slot_tuple_getitem.lookup
  (getItem_tuple (j:=j) (Q:=λr s'=>r=w/\EP X aa σ Q r s') pl (by lia) (by lia) (by rw[AT,<- hl];exact h1) (by simpa using ew) ⟨rfl,fin⟩) hs
theorem XS(ag:List As)(n j:Nat)(u:As):DV (·.setIfInBounds j u) {cls:=.type "list",data:=.seq ag.toArray n}={cls:=.type "list",data:=.seq (ag.set j u).toArray n}:=by
 simp[DV]
theorem Inv.lst(I:Inv X aa σ H s)(h:H p=uA (.lst xs)) :
  ∃(ag:List As) (n:Nat),Vals xs ag/\s.heap.get? p=uA {cls:=.type "list",data:=.seq ag.toArray n}/\xs.length<=sizeLine:=by
 obtain⟨z,ag,n,r,e⟩:=I.hok p _ h;exact⟨ag,n,r,e,z⟩
theorem Inv.lstUpd{n':Nat}{f:Obj->Obj}(I:Inv X aa σ H s)(h:H p=uA (.lst xs))
  (ho:s.heap.get? p=uA {cls:=.type "list",data:=.seq ag.toArray n}) (hf:f {cls:=.type "list",data:=.seq ag.toArray n}={cls:=.type "list",data:=.seq its'.toArray n'}) (r:Vals ys its') (hz:ys.length<=sizeLine) (t:Nat) :
  Inv X aa σ (upd H p (.lst ys)) {s with heap:=s.heap.update p f,toks:=t}:=by
 have e:(s.heap.update p f).get? p=uA {cls:=.type "list",data:=.seq its'.toArray n'}:=by
  rw[EM f ho (by rw[hf]<;>rfl),hf]
 refine I.write (x:=p) (e:=p) (by rw[h];trivial) (.inl rfl) (λb u hb q=>(E3 _ _ (Cb hb)).trans q) ⟨_,e⟩ ?_;exact⟨hz,its',n',r,e⟩
def rSetL:V->V->V->Hp->(Hp->Prop)->Prop:=λo i v H Q=>E4 λp xs k j=>A5 (o=.ref p) (i=.int k) (H p=uA (.lst xs)) (ixN xs.length k=uA j) (Q (upd H p (.lst (xs.set j v))))
theorem set_list:PSet X rSetL:=by
 intro aa s σ H o i v ov iv u Q I ro ri rv h;obtain⟨p,xs,k,j,rfl,rfl,hp,hj,q⟩:=h;cases ro;obtain⟨t,rfl⟩:=ri;obtain⟨ag,n,r,ho,hz⟩:=I.lst hp;obtain⟨h1,h2,h3,h4⟩:=Xn hj;have hl:=r.length;have hn:=line63;have I':Inv X aa σ (upd H p (.lst (xs.set j v))) {s with heap:=s.heap.update p (DV (·.setIfInBounds j u))} :=
  I.lstUpd hp ho (XS ag n j u) (r.set rv j) (by rw[ET];exact hz) s.toks
 by_cases h0:0<=k
 .have hk:k.toNat=j:=by
   rw[TU h0 h4] at h1;exact AN h1
  exact PySem.W.ki_setAt ho h0 (by lia) (by rw[AT,<- hl];exact h4) (by rw[hk];exact⟨_,I',q⟩)
 .have hk:(k+(ag.toArray.size:Int)).toNat=j:=by
   rw[seqIndex_neg (vM h0) h3] at h1;rw[AT,<- hl];exact AN h1
  exact PySem.W.ki_setBack ho (vM h0) (by rw[AT,<- hl];exact h3) (by lia) (by rw[hk];exact⟨_,I',q⟩)
theorem Qw(lo hi:Option Int)(n:Nat):(Lc lo hi uB n).1=((HT.sIx n 0 lo:Nat):Int)/\(Lc lo hi uB n).2.1=((HT.sIx n n hi:Nat):Int)/\(Lc lo hi uB n).2.2=1:=by
 refine⟨?_,?_,rfl⟩
 .cases lo with
  | none=>simp[Lc,HT.sIx]
  | some i =>
   simp only[Lc,HT.sIx,UH,show(1:Int)>0 by decide,if_true];by_cases h:i<0
   .simp only[h,if_true]<;>exact yq h
   .simp only[h,if_false]<;>exact yr
 .cases hi with
  | none=>simp[Lc,HT.sIx]
  | some i =>
   simp only[Lc,HT.sIx,UH,show(1:Int)>0 by decide,if_true];by_cases h:i<0
   .simp only[h,if_true]<;>exact yq h
   .simp only[h,if_false]<;>exact yr
theorem Nm(ag:List As)(lo hi:Option Int):slicePick ag.toArray lo hi uB=((ag.drop (HT.sIx ag.length 0 lo)).take (HT.sIx ag.length ag.length hi-HT.sIx ag.length 0 lo)).toArray:=by
 obtain⟨h1,h2,h3⟩:=Qw lo hi ag.toArray.size;unfold slicePick;rw[h1,h2,h3];simp only[sliceRange_one,pick_run,AT]<;>rfl
def rSlL(K:Ap):V->Option Int->Option Int->Hp->VK->Prop:=λx lo hi H Q=>E2 λa xs=>A3 (x=.ref a) (SqL K H a xs) (∀p,H p=none->Q (.ref p) (upd H p (.lst (cutV xs lo hi))))
theorem AEO:SlR X (rSlL X.K):=by
 intro aa s σ H x v vl vu lo hi sl Q I rx hs pl pu h;obtain⟨a,xs,rfl,hx,q⟩:=h;cases rx;obtain⟨ag,r,ht,hz⟩:=I.list hx;have aw:=r.length;refine⟨"list",_,Tu.lookup,ht.isList.typeIs,?_⟩;refine wpAny_getItem_list_slice ht.isList hs pl pu .none (by simp) ?_ (by rw[AT]<;>exact vh aw hz);rw[Nm,<- aw];refine⟨.ref s.heap.objs.size,_,I.laid (t':=s.toks) (o:=.lst (cutV xs lo hi)) (λb ob q=>AJ _ q) (AF _) ?_,rfl,q _ (I.hok.fresh (AF _))⟩;exact⟨BY (TV xs lo hi) hz,_,0,(r.drop (HT.sIx xs.length 0 lo)).take (HT.sIx xs.length xs.length hi-HT.sIx xs.length 0 lo),AU _ rfl⟩
def flatV:V->Bool
 | .non=>true
 | .bl _=>true
 | .int _=>true
 | .str _=>true
 | _=>false
noncomputable def eqV:V->V->Bool
 | .non,.non=>true
 | .bl a,.bl b=>a==b
 | .bl a,.int b=>(if a then 1 else 0)==b
 | .int a,.bl b=>a==(if b then 1 else 0)
 | .int a,.int b=>a==b
 | .str a,.str b=>a==b
 | _,_=>false
theorem AGK{x:V}{v:As}(ry:RelV y u)(rx:RelV x v)(fy:flatV y=true)(fx:flatV x=true):MT A s u v (eqV y x):=by
 cases y with
 | non =>
  cases ry;cases x with
  | non=>cases rx;exact MU _
  | bl b=>cases rx;exact SeqAt.EqAt.none_bool b
  | int b=>obtain⟨t,rfl⟩:=rx;exact Nl b t
  | str b=>obtain⟨t,rfl⟩:=rx;exact SeqAt.EqAt.none_str b t
  | _=>exact uH fx Be
 | bl a =>
  cases ry;cases x with
  | non=>cases rx;exact SeqAt.EqAt.bool_none a
  | bl b=>cases rx;exact SeqAt.EqAt.bool_bool a b
  | int b=>obtain⟨t,rfl⟩:=rx;exact SeqAt.EqAt.bool_int a b t
  | str b=>obtain⟨t,rfl⟩:=rx;exact SeqAt.EqAt.bool_str a b t
  | _=>exact uH fx Be
 | int a =>
  obtain⟨t',rfl⟩:=ry;cases x with
  | non=>cases rx;exact No a t'
  | bl b=>cases rx;exact SeqAt.EqAt.int_bool a t' b
  | int b=>obtain⟨t,rfl⟩:=rx;exact LG a t' b t
  | str b=>obtain⟨t,rfl⟩:=rx;exact Sr a t' b t
  | _=>exact uH fx Be
 | str a =>
  obtain⟨t',rfl⟩:=ry;cases x with
  | non=>cases rx;exact SeqAt.EqAt.str_none a t'
  | bl b=>cases rx;exact SeqAt.EqAt.str_bool a t' b
  | int b=>obtain⟨t,rfl⟩:=rx;exact Su a t' b t
  | str b=>obtain⟨t,rfl⟩:=rx;exact SeqAt.EqAt.str_str a t' b t
  | _=>exact uH fx Be
 | _=>exact uH fy Be
noncomputable def eqU(x:V)(u:As):Bool:=match u with
 | .none=>eqV .non x
 | .bool b=>eqV (.bl b) x
 | .int i _=>eqV (.int i) x
 | .str z _=>eqV (.str z) x
 | _=>false
theorem ADV{x:V}(r:RelV y u)(f:flatV y=true):eqU x u=eqV y x:=by
 cases y with
 | non=>cases r;rfl
 | bl b=>cases r;rfl
 | int i=>obtain⟨t,rfl⟩:=r;rfl
 | str z=>obtain⟨t,rfl⟩:=r;rfl
 | _=>exact uH f Be
theorem Kh{x:V}:∀{xs:List V}{us:List As},Vals xs us->xs.all flatV=true->us.any (eqU x)=xs.any λy=>eqV y x:=by
 intro xs us h
 induction h with
 | nil=>intro _;rfl
 | cons r t ih =>
  intro f;rw[WF,F0] at f;rw[JU,JU,ADV r f.1,ih f.2]
theorem Gy{A:BV}{s:AA}{x:V}{v:As}(rx:RelV x v)(fx:flatV x=true):∀{xs:List V}{us:List As},Vals xs us->xs.all flatV=true->∀u∈us,MT A s u v (eqU x u)
 | _,_,.nil,_=>λu hu=>by cases hu
 | y::xs,u::us,.cons r t,f=>λu' hu=>by
  rw[WF,F0] at f;rcases BH.mp hu with rfl| hu
  .rw[ADV r f.1];exact AGK r rx f.1 fx
  .exact Gy rx fx t f.2 u' hu
noncomputable def inV(x:V)(xs:List V):Bool:=xs.any λy=>eqV y x
def rIn(K:Ap)(neg:Bool):R2:=λx y H Q=>E2 λp xs=>A5 (y=.ref p) ((SqL K H p xs\/SqT K H p xs)) (flatV x=true) (xs.all flatV=true) (Q (.bl (if neg then !inV x xs else inV x xs)) H)
theorem Eo:OpR X (ED .In) (rIn X.K false):=by
 intro aa s σ H x y v u Q I rx ry h;obtain⟨p,xs,rfl,hq,fx,fs,q⟩:=h;cases ry;rcases hq with hq| hq
 .obtain⟨ag,r,pl,hz⟩:=I.list hq
  refine U0 (eqU x) pl.isList (λw hw=>Gy rx fx r fs w (by simpa using hw)) ⟨.bl _,H,I,rfl,?_⟩;rw[show ag.toArray.any (eqU x)=ag.any (eqU x) by simp,Kh r fs];exact q
 .obtain⟨ag,r,pl,hz⟩:=I.tuple hq
  refine UI (eqU x) pl (λw hw=>Gy rx fx r fs w (by simpa using hw)) ⟨.bl _,H,I,rfl,?_⟩;rw[show ag.toArray.any (eqU x)=ag.any (eqU x) by simp,Kh r fs];exact q
theorem Gd:OpR X (ED .NotIn) (rIn X.K true):=by
 intro aa s σ H x y v u Q I rx ry h;obtain⟨p,xs,rfl,hq,fx,fs,q⟩:=h;cases ry;rcases hq with hq| hq
 .obtain⟨ag,r,pl,hz⟩:=I.list hq
  refine SeqAt.notIn_listAt (eqU x) pl.isList (λw hw=>Gy rx fx r fs w (by simpa using hw)) ⟨.bl _,H,I,rfl,?_⟩;rw[show ag.toArray.any (eqU x)=ag.any (eqU x) by simp,Kh r fs];exact q
 .obtain⟨ag,r,pl,hz⟩:=I.tuple hq
  refine SeqAt.notIn_tupleAt (eqU x) pl (λw hw=>Gy rx fx r fs w (by simpa using hw)) ⟨.bl _,H,I,rfl,?_⟩;rw[show ag.toArray.any (eqU x)=ag.any (eqU x) by simp,Kh r fs];exact q
theorem Ar:CallR X (.builtin "len") (λxs H Q=>∃p ys,xs=[.ref p]/\(SqL X.K H p ys\/SqT X.K H p ys)/\Q (.int ys.length) H):=by
 intro aa s σ H xs us Q I r h;obtain⟨p,ys,rfl,hq,q⟩:=h;obtain⟨u,rfl,rx⟩:=vals1 r;cases rx;have hn:=line63;rcases hq with hq| hq
 .obtain⟨ag,r',pl,hz⟩:=I.list hq
  have aw:=r'.length;exact Calls.call_len_list pl.isList (by simp only[AT]<;>lia) ⟨.int ys.length,H,I.tok _,⟨s.toks+1,by rw[AT,aw]⟩,q⟩
 .obtain⟨ag,r',pl,hz⟩:=I.tuple hq
  have aw:=r'.length;exact len_tuple pl (by simp only[AT]<;>lia) ⟨.int ys.length,H,I.tok _,⟨s.toks+1,by rw[AT,aw]⟩,q⟩
theorem Dl:CallR X (.type "list") (λxs H Q=>∃p ys,xs=[.ref p]/\(SqL X.K H p ys\/SqT X.K H p ys)/\∀l,H l=none->Q (.ref l) (upd H l (.lst ys))):=by
 intro aa s σ H xs us Q I r h;obtain⟨p,ys,rfl,hq,q⟩:=h;obtain⟨u,rfl,rx⟩:=vals1 r;cases rx;have fin:∀(ag:List As),Vals ys ag->ys.length<=sizeLine->∀(h':Heap) (c':Nat),(∀b o',s.heap.get? b=uA o'->h'.get? b=uA o') ->
   h'.get? s.heap.objs.size=uA {cls:=.type "list",dict:=uB,data:=.seq ag.toArray c',slots:=#[]}->EP X aa σ Q (.ref s.heap.objs.size) {s with heap:=h'}:=λag r' hz h' c' kp e =>
  ⟨.ref s.heap.objs.size,_,I.laid (t':=s.toks) kp (AF _) (show ObjOk X.prog X.w _ h' _ (.lst ys) from⟨hz,ag,c',r',e⟩),rfl,q _ (I.hok.fresh (AF _))⟩
 rcases hq with hq| hq
 .obtain⟨ag,r',pl,hz⟩:=I.list hq
  have aw:=r'.length;obtain⟨o,ho,hc,n,hd⟩:=pl.isList;exact call_list_seq p (.inl rfl) ho hc hd (λh' c' kp e=>fin ag r' hz h' c' kp e) (by simp only[AT]<;>exact vh aw hz)
 .obtain⟨ag,r',pl,hz⟩:=I.tuple hq
  have aw:=r'.length;obtain⟨o,ho,hc,n,hd⟩:=pl;exact call_list_seq p (.inr rfl) ho hc hd (λh' c' kp e=>fin ag r' hz h' c' kp e) (by simp only[AT]<;>exact vh aw hz)
theorem Bo:CallR X (.type "tuple") (λxs H Q=>∃p ys,xs=[.ref p]/\((SqL X.K H p ys/\∀l,H l=none->Q (.ref l) (upd H l (.tup ys)))\/(SqT X.K H p ys/\Q (.ref p) H))):=by
 intro aa s σ H xs us Q I r h;obtain⟨p,ys,rfl,h⟩:=h;obtain⟨u,rfl,rx⟩:=vals1 r;cases rx;rcases h with⟨hq,q⟩| ⟨hq,q⟩
 .obtain⟨ag,r',pl,hz⟩:=I.list hq
  have aw:=r'.length;refine call_tuple_list pl.isList (λh' kp=>?_) (by simp only[AT]<;>exact vh aw hz);have I1:=I.kept (t':=s.toks) kp;have I2:Inv X aa σ (upd H h'.objs.size (.tup ys)) {s with heap:=h'.push {cls:=.type "tuple",data:=.seq ag.toArray}} :=
   I1.laid (t':=s.toks) (λb o e=>AJ _ e) (AF _) (⟨hz,ag,r',ZH _ _⟩)
  exact⟨.ref h'.objs.size,_,I2,rfl,q _ (I1.hok.fresh (AF _))⟩
 .obtain⟨ag,r',pl,hz⟩:=I.tuple hq
  exact call_tuple_same pl ⟨.ref p,H,I,rfl,q⟩
def tyV(K:Ap)(T:String)(x:V)(H:Hp):Prop:=match x with
 | .str _=>T = "str"
 | .int _=>T = "int"
 | .ref p=>(T = "list"/\∃xs,SqL K H p xs)\/(T = "tuple"/\∃o,K.lookup p=uA o/\o.cls=.type "tuple"/\o.dict=uB) \/
   (T = "dict"/\((∃af,H p=uA (.dK af))\/∃af,H p=uA (.dT af)))\/(T = "set"/\∃S n,H p=uA (.set S n))
 | _=>False
theorem ADS{x:V}{v:As}(I:Inv X aa σ H s)(r:RelV x v)(ty:tyV X.K T x H) :
  s.TypeIs v T/\∀a,v=.ref a->∃ob,s.heap.get? a=uA ob/\ob.dict=uB:=by
 cases x with
 | str z =>
  obtain⟨t,rfl⟩:=r;cases ty;exact⟨typeIs_str s z t,λ_ e=>nomatch e⟩
 | int i =>
  obtain⟨t,rfl⟩:=r;cases ty;exact⟨U1 s i t,λ_ e=>nomatch e⟩
 | ref p =>
  cases r;rcases ty with⟨rfl,xs,hq⟩| ⟨rfl,o,hk,hc,hd⟩| ⟨rfl,hk⟩| ⟨rfl,S,n,hk⟩
  .obtain⟨ag,_,pl,_⟩:=I.list hq
   refine⟨pl.isList.typeIs,λa e=>?_⟩;cases e;obtain⟨o,n,e,c,hd,_⟩:=pl;exact⟨o,e,hd⟩
  .refine⟨⟨o,I.kIn p o hk,hc⟩,λa e=>?_⟩
   cases e;exact⟨o,I.kIn _ o hk,hd⟩
  .have z:∃o,s.heap.get? p=uA o/\o.ExactDict:=by
    rcases hk with⟨af,hk⟩| ⟨af,hk⟩
    .obtain⟨_,_,_,_,o,_,_,e,ex,_⟩:=I.hok p _ hk
     exact⟨o,e,ex⟩
    .obtain⟨_,_,_,_,o,_,_,e,ex,_⟩:=I.hok p _ hk
     exact⟨o,e,ex⟩
   obtain⟨o,e,ex⟩:=z;refine⟨⟨o,e,ex.1⟩,λa e2=>?_⟩;cases e2;exact⟨o,e,ex.2.1⟩
  .obtain⟨o,_,_,_,e,ex,_⟩:=I.hok p _ hk
   refine⟨⟨o,e,ex.1⟩,λa e2=>?_⟩;cases e2;exact⟨o,e,ex.2.1⟩
 | _=>exact E8 ty
def AHs(K:Ap)(T:String)(r:V->List V->Hp->VK->Prop)(to:TE):TE:=λσ H Q=>to σ H λx H1=>tyV K T x H1/\r x [] H1 Q
def tBM(K:Ap)(T:String)(r:V->List V->Hp->VK->Prop)(to:TE)(t:TA):TE:=λσ H Q=>to σ H λx H1=>tyV K T x H1/\t σ H1 λxs H2=>r x xs H2 Q
variable{o:Expr}{to:TE}{t:TA}{id:String}{r:V->List V->Hp->VK->Prop}
theorem AGC(pa:PlainAttrs T)(slot:Slot T name id)(hty:typeOf (.builtin id)=pure (.type "method_descriptor"))(hm:MtR X id r)(ho:PE X o to)
  (iF:autoParam (Mo o name X.env (eval o X.env)=eval o X.env) zA0._auto_1) (h8:autoParam ((bE.endLine==bt.line)=true) zA0._auto_1):PE X (.Call (.Attribute o name bE) [] [] bt) (AHs X.K T r to):=by
 intro aa s σ H Q I h;refine wpAny_Call_method0_late iF h8 (thn (ho aa s σ H _ I h) λv s1 hq=>?_);obtain⟨x,H1,I1,r1,ty,q1⟩:=hq;obtain⟨h1,h2⟩:=ADS I1 r1 ty;exact⟨T,id,pa,slot,hty,h1,h2,Mc rfl (PySem.evalArgs_none (hm aa s1 σ H1 x [] v [] Q I1 r1 .nil q1))⟩
theorem Hf(pa:PlainAttrs T)(slot:Slot T name id)(hty:typeOf (.builtin id)=pure (.type "method_descriptor"))(hm:MtR X id r)(ho:PE X o to)(ha:PA X (e::es) t)
  (iF:autoParam (Mo o name X.env (eval o X.env)=eval o X.env) zA0._auto_1)
  (jI:autoParam (((KF bt (CI (e::es) X.env)).all (λx=>!x.1)&&(UF bt (PV [] X.env)).all (λx=>x.1.isSome)
   && decide ((e::es).length+([]:List V2).length+(if([]:List V2).isEmpty then 0 else 1)<30))=true) zA0._auto_1)
  (h8:autoParam ((bE.endLine==bt.line)=true) zA0._auto_1) (hs:autoParam (CI (e::es) X.env=(false,eval e X.env)::CI es X.env) zA0._auto_1) (pE:autoParam ((KF bt (CI es X.env)).any (·.1)=false) zA0._auto_1) :
  PE X (.Call (.Attribute o name bE) (e::es) [] bt) (tBM X.K T r to t):=by
 intro aa s σ H Q I h;refine wpAny_Call_method_late iF jI h8 rfl (thn (ho aa s σ H _ I h) λv s1 hq=>?_);obtain⟨x,H1,I1,r1,ty,q1⟩:=hq;obtain⟨h1,h2⟩:=ADS I1 r1 ty;refine⟨T,id,pa,slot,hty,h1,h2,?_⟩;have hA:=ha bt aa s1 σ H1 _ I1 q1;rw[hs] at hA ⊢;refine Mc (by show(false||(KF bt (CI es X.env)).any (·.1))=false;rw[pE]<;>rfl) (Rc ?_);exact thn hA λus s2 ⟨vs,H2,I2,r2,q2⟩=>hm aa s2 σ H2 x vs v us Q I2 r1 r2 q2
end
def MtM(X:Cx)(id:String)(r:V->List V->Hp->VK->Prop):Prop :=
 ∀(aa:uQ) (s:AA) (σ:St) (H:Hp) (x:V) (xs:List V) (v:As) (us:List As) (Q:VK),Inv X aa σ H s->RelV x v->Vals xs us->r x xs H Q ->
  wpAny (AM X.prog X.w) X.A (call (.builtin id) (v::us)) (EP X aa σ Q) X.xe s
theorem Vals.one:∀{x:V}{us:List As},Vals [x] us->∃u,us=[u]/\RelV x u:=by
 intro x us h;cases h with| cons r h=>cases h;exact⟨_,rfl,r⟩
theorem Vals.two:∀{x y:V}{us:List As},Vals [x,y] us->∃u v,us=[u,v]/\RelV x u/\RelV y v:=by
 intro x y us h;cases h with| cons r h=>cases h with| cons q h=>cases h;exact⟨_,_,rfl,r,q⟩
theorem Vals.zero:∀{us:List As},Vals [] us->us=[]
 | _,.nil=>rfl
theorem Vals.reverse(h:Vals xs us):Vals xs.reverse us.reverse:=by
 induction h with
 | nil=>exact .nil
 | cons r t ih=>rw[LZ,LZ];exact Vals.append ih (.cons r .nil)
theorem Vals.rep(h:Vals xs us):∀k:Nat,Vals (CC k xs).flatten (CC k us).flatten
 | 0=>.nil
 | k+1=>by
  rw[FO,FO,Kn,Kn];exact Vals.append h (Vals.rep h k)
theorem foldl_rep(ag:List As):∀(k:Nat) (acc:List As),
  U2 (λx1 x2=>x1++x2) acc.toArray (CC k ag.toArray)=(acc++(CC k ag).flatten).toArray
 | 0,acc=>by simp
 | k+1,acc=>by
  have e:acc.toArray++ag.toArray=(acc++ag).toArray:=by simp
  have e2:(acc++ag)++(CC k ag).flatten=acc++(CC (k+1) ag).flatten:=by
   rw[FO,Kn,CU]
  rw[<- e2,<- foldl_rep ag k (acc++ag),<- e,FO,MV]
section
variable{zs:List V}
theorem Inv.lset{f:Array As->Array As}(I:Inv X aa σ H s)(hH:H l=uA (.lst xs))
  (e:s.heap.get? l=uA {cls:=.type "list",data:=.seq ag.toArray n}) (hf:f ag.toArray=its'.toArray) (hv:Vals ys its') (hz:ys.length<=sizeLine) :
  Inv X aa σ (upd H l (.lst ys)) {s with heap:=s.heap.update l (DV f),toks:=t'}:=by
 have q:=PySem.IsL.update e f;rw[hf] at q;refine I.write (x:=l) (e:=l) (by rw[hH];exact trivial) (.inl rfl) (λb' u hb hu=>(E3 s.heap (DV f) (Cb hb)).trans hu) ⟨_,q⟩ ?_;exact⟨hz,its',_,hv,q⟩
theorem Inv.lnew(I:Inv X aa σ H s)(hv:Vals ys ag)(hz:ys.length<=sizeLine) :
  Inv X aa σ (upd H s.heap.objs.size (.lst ys)) {s with heap:=s.heap.push {cls:=.type "list",data:=.seq ag.toArray},toks:=t'} :=
 I.laid (λ_ _ q=>AJ _ q) (AF _) ⟨hz,ag,0,hv,AU _ rfl⟩
theorem Inv.fresh(I:Inv X aa σ H s):H s.heap.objs.size=uB:=I.hok.fresh (AF _)
theorem Inv.lstM(I:Inv X aa σ H s)(hH:H l=uA (.lst xs)):xs.length<=sizeLine/\∃(ag:List As) (n:Nat),Vals xs ag/\xs.length=ag.length/\s.heap.get? l=uA {cls:=.type "list",data:=.seq ag.toArray n}:=by
 obtain⟨z,ag,n,r,e⟩:=I.hok l _ hH;exact⟨z,ag,n,r,r.length,e⟩
theorem VR(h:n<=sizeLine):IT n=false:=by
 unfold IT;exact uF (by lia)
end
def ADn:V->List V->Hp->VK->Prop:=λx vs H Q=>∃l xs y,x=.ref l/\vs=[y]/\H l=uA (.lst xs)/\xs.length<sizeLine/\Q .non (upd H l (.lst (xs++[y])))
theorem DP:MtM X "list.append" ADn:=by
 intro aa s σ H x vs v us Q I rx rv h;obtain⟨l,xs,y,rfl,rfl,hH,hz,q⟩:=h;cases rx;obtain⟨u,rfl,ru⟩:=rv.one;obtain⟨z,ag,n,r,hl,e⟩:=I.lstM hH;refine LO F.slot_list_append ⟨_,e,rfl⟩ F.entry_list_append (F.args_list_append_2 _ _) (PySem.list_append l ag.toArray n u (by rw[AT];exact ya hz hl)) ⟨e,?_⟩;refine⟨.non,_,I.lset (its':=ag++[u]) hH e (by simp) (r.append (.cons ru .nil)) ?_,rfl,q⟩;rw[AZ,Eg];exact hz
def AEj:V->List V->Hp->VK->Prop:=λx vs H Q=>∃l b xs zs,x=.ref l/\vs=[.ref b]/\H l=uA (.lst xs)/\H b=uA (.lst zs)/\xs.length+zs.length<=sizeLine/\Q .non (upd H l (.lst (xs++zs)))
theorem AAl:MtM X "list.extend" AEj:=by
 intro aa s σ H x vs v us Q I rx rv h;obtain⟨l,b,xs,zs,rfl,rfl,hH,hB,hz,q⟩:=h;cases rx;obtain⟨u,rfl,ru⟩:=rv.one;cases ru;obtain⟨z,ag,n,r,hl,e⟩:=I.lstM hH;obtain⟨z2,eh,n2,r2,fm,e2⟩:=I.lstM hB;have hsz:ag.toArray.size+eh.toArray.size<=sizeLine:=by rw[AT,AT];exact xM hz hl fm
 have i8:¬ (!ag.toArray.isEmpty&&IT (ag.toArray.size+eh.toArray.size))=true:=by
  rw[VR hsz,V3];exact Be
 refine LO F.slot_list_extend ⟨_,e,rfl⟩ F.entry_list_extend (F.args_list_extend_2 _ _)
  (AutoSeq1.list_extend_list_list_0 l ag.toArray n b eh.toArray n2 i8 (by rw[AT];exact vh hl z) (vd hsz)) ⟨e,e2,?_⟩
 refine⟨.non,_,I.lset (its':=ag++eh) hH e (by simp) (r.append r2) ?_,rfl,q⟩;rw[AZ];exact hz
def ABT:V->List V->Hp->VK->Prop:=λx vs H Q=>∃l xs,x=.ref l/\vs=[]/\H l=uA (.lst xs)/\Q .non (upd H l (.lst xs.reverse))
theorem Wn:MtM X "list.reverse" ABT:=by
 intro aa s σ H x vs v us Q I rx rv h;obtain⟨l,xs,rfl,rfl,hH,q⟩:=h;cases rx;have hus:=rv.zero;subst hus;obtain⟨z,ag,n,r,hl,e⟩:=I.lstM hH;refine LO F.slot_list_reverse ⟨_,e,rfl⟩ F.entry_list_reverse (F.args_list_reverse_1 _) (AutoSeq1.list_reverse_list_0 l ag.toArray n (by rw[AT];exact vh hl z)) ⟨e,?_⟩;refine⟨.non,_,I.lset (its':=ag.reverse) hH e (by simp) r.reverse ?_,rfl,q⟩;rw[Sc];exact z
def rRep:R2:=λx y H Q=>∃l k xs,x=.ref l/\y=.int k/\H l=uA (.lst xs)/\-(2 ^ 63)<=k/\k<2 ^ 63/\xs.length*k.toNat<=sizeLine /\
 ∀p,H p=none->Q (.ref p) (upd H p (.lst (CC k.toNat xs).flatten))
theorem len_rep(xs:List α)(k:Nat):(CC k xs).flatten.length=k*xs.length:=by
 induction k with
 | zero=>simp
 | succ k ih=>rw[FO,Kn,AZ,ih,Nat.succ_mul,Nat.add_comm]
theorem AGn:OpR X (G1 .Mult) rRep:=by
 intro aa s σ H x y v u Q I rx ry h;obtain⟨l,k,xs,rfl,rfl,hH,h1,h2,hz,q⟩:=h;cases rx;obtain⟨t,rfl⟩:=ry;obtain⟨z,ag,n,r,hl,e⟩:=I.lstM hH;have aw:ag.toArray.size*k.toNat<=sizeLine:=by rw[AT,<- hl];exact hz
 have hcap:¬ ag.toArray.size*k.toNat>(2 ^ 63-1) / 8:=by
  have:(sizeLine:Nat)<=(2 ^ 63-1) / 8:=by decide
  lia
 have tR:¬ (!WG k)=true:=by
  rw[fitsIndex_both h1 h2];exact Be
 have i8:¬ IT (ag.toArray.size*k.toNat)=true:=by
  rw[VR aw];exact Be
 have hnew:U2 (λx1 x2=>x1++x2) #[] (CC (if ag.toArray.isEmpty=true then 0 else k.toNat) ag.toArray)=(CC k.toNat ag).flatten.toArray:=by
  have f0:∀m:Nat,U2 (λx1 x2=>x1++x2) #[] (CC m ag.toArray)=(CC m ag).flatten.toArray:=λm=>by
   have:=foldl_rep ag m [];rw[Pp] at this;exact this
  rw[f0];cases ag with
  | nil=>simp
  | cons a r'=>rw[uC (by simp)]
 refine wpAny_binaryOp_repeat_ref (T:="list") (U:="int") (by decide) ⟨_,e,rfl⟩ (λs'=>U1 s' k t) noFill_list_mul F.fills_int_mul U3 repeat_list F.slot_int_index.lookup
  (LO U3 (U1 s k t) F.entry_int_rmul (F.args_int_rmul_2 _ _) (int___rmul___int_list k t l ag.toArray n)
   ⟨e,rfl,⟨_,e,rfl⟩,LO F.slot_list_mul ⟨_,e,rfl⟩ F.entry_list_mul (F.args_list_mul_2 _ _) (AutoListH.list___mul___list_int_3 l ag.toArray n k t tR hcap i8) ⟨e,?_⟩⟩)
 rw[hnew];exact⟨.ref _,_,I.lnew (t':=s.toks) (r.rep k.toNat) (by rw[len_rep,X5];exact hz),rfl,q _ I.fresh⟩
end L2
namespace Att
open PySem PySem.W PySem.Calls PyProof.Rows
theorem KN{P:X6}:∀(ns:uI) (vs:List As),WellAll P h vs (ns.map ZI)->F5 vs ns:=by
 intro ns
 induction ns with
 | nil =>
  intro vs w;rw[LI] at w;cases w;exact .nil
 | cons n ns ih =>
  intro vs w;rw[B4] at w;cases w with
  | cons a b =>
   cases a;exact .cons _ _ (ih _ b)
theorem AAQ{l:OpenLaw}(hn:l.most=uA n){P:X6}{args:List WData}{vals:List As}
  (k8:l.row.toRowW.claim.pre args=true) (hwl:WellAll P h vals args) :
  ∃a vs ns,vals=[A7 a]/\args=[WData.list (ns.map ZI)]/\h.get? a=uA {cls:=.type "list",data:=.seq vs.toArray}/\F5 vs ns/\ns.length<=n:=by
 have hsh:=(pre_splitW k8).1;have hc:l.pre.holds [] {args:=args}=true:=(pre_splitW k8).2;obtain⟨d,r,rfl,h1,h2⟩:=hasAllW_cons hsh;obtain rfl:=hasAllW_nil h2;obtain⟨xs,rfl,h3⟩:=hasW_list h1;obtain⟨ns,rfl⟩:=items_int h3;have aw:ns.length<=n:=by
  unfold OpenLaw.pre at hc;have h4:(WTm.not (.lt (.lit (.int (n:Int))) (.len (.arg 0)))).holds [] {args:=[.list (ns.map .int)]}=true:=by
   have h4:=(holds_andW hc).1;rw[hn] at h4;exact h4
  have h5:=condW_of h4 (w_not (w_lt w_lit (w_len_list (w_arg rfl))));rw[AB] at h5;refine T6 λq=>?_;have q':(n:Int)<((ns.length:Nat):Int):=uP q
  first
   | (rw[uE q'] at h5;exact uH h5 (by decide))
   | (simp at h5;lia)
 cases hwl with
 | cons w1 w2 =>
  cases w2;cases w1 with
  | list ho bp=>exact⟨_,_,ns,rfl,rfl,ho,KN ns _ bp,aw⟩
theorem AAy(l:OpenLaw)(args:List WData):l.row.toRowW.claim.post args (.bool true) args=true :=
 postW_of (r:=l.row.toRowW) (X:=(true==true))
  (show Zl [] (.bool true) .bool=true by first| rfl| decide| simp[Zl,WShape.arms,WShape.armsAll])
  (w_eq_bool (w_res rfl) w_lit) rfl
theorem VJ{l:OpenLaw}{q:AL}{d:DefRec}
  (hn:l.most=uA n) (tX:d.params.defaults=[])
  (call:∀(w:AQ) (s₀ s₁:AA) (mg mb:Str->Option As) (fa:Addr) (o:Obj) (pm cd be:As) (a:Addr) (vs:List As) (ns:uI),
   Ground q c5 [] XP w s₀ mg mb s₁.heap->YP w s₁.heap ->
   s₁.heap.get? fa=uA o->o.data=.func (docDef d.name d.params d.body d.scope pm cd be)->s₁.heap.CodeRec cd d.name->mg d.name=uA (.ref fa) ->
   s₁.heap.get? a=uA {cls:=.type "list",data:=.seq vs.toArray}->F5 vs ns->ns.length<=n->s₁.gens=#[] ->
   codeAny (AM l.prog w) OP (.call (.ref fa) ⟨[.ref a],[]⟩) (λr s'=>r=.ok (.ret (.bool true))/\OldK s₁.heap s'.heap/\s'.os=s₁.os/\MB s'.gens) s₁) :
  WalkO q c5 XP YP l.row.toRowW d [] (λf vs=>U4 f vs):=by
 intro w s₀ s₁ mg mb G Y fa o pm cd be dV kV ho hd jv hD hmg hg args vals as k8 hlay hrd hwl pT;obtain rfl:dV=.none:=Dflts.none hD tX;obtain rfl:kV=.none:=Dflts.noKw hD;obtain⟨a,vs,ns,rfl,rfl,oC,hU,aw⟩:=AAQ hn k8 hwl;refine enter_call (FU (call w s₀ s₁ mg mb fa o pm cd be a vs ns G Y ho (fd_plain hd) jv hmg oC hU aw hg) λr s' hq=>?_);obtain⟨rfl,h2,h3,h4⟩:=hq;exact⟨.inl ⟨.bool true,.bool true,[],rfl,λ_=>rfl,.bool true,AAy l _,λ_=>⟨L3,λ_ hm=>(nomatch hm)⟩⟩,h2,h3,h4⟩
end Att
namespace L2
open PySem PySem.Spec PyProof.Rows
theorem Za:∀{vs:List As}{ns:uI},F5 vs ns->Vals (ns.map V.int) vs:=by
 intro vs ns h
 induction h with
 | nil=>exact .nil
 | cons n t h ih=>exact .cons ⟨t,rfl⟩ ih
def Only(H:Hp):Prop:=∀b,H b=uB\/∃o xs,H b=uA (.frz o (.lst xs))
theorem ACq{mb:Str->Option As}{k:Nat}{s₁:AA}
  (KX:K.In s₁.heap) (kC:s₁.heap.Ns DD mg) (hb:s₁.heap.Ns UV mb) (hbb:∀x:Str,x≠"__name__"->mb x=IR x) (hlim:s₁.heap.NoLimit) (hg:s₁.gens=#[])
  (ha:s₁.heap.get? a=uA {cls:=.type "list",data:=.seq vs.toArray}) (hi:F5 vs ns) (hl:ns.length<=sizeLine) (hr:Room k OP)
  (F:∀base:Heap,K.In base->base.Ns DD mg->FnOk P w K mg base CX k fa fd [x] sp) (rN:∀(s:AA) (u:As),QA s fd ⟨[u],[]⟩ [(x,u)])
  (js:∀H:Hp,Only H->SqL K H a (ns.map V.int)->sp [.ref a] H (λv _=>v=.bl true) λ_ _ _=>False)
  (hCX:∀H e s',CX [] H s₁ (λ_ _ _=>False) e s'->False) :
  codeAny (AM P w) OP (.call (.ref fa) ⟨[.ref a],[]⟩) (λr s'=>r=.ok (.ret (.bool true))/\OldK s₁.heap s'.heap/\s'.os=s₁.os/\MB s'.gens) s₁:=by
 have rv:=Za hi;have lenV:=hi.length;have rJ:∀H:Hp,Only H->SqL K H a (ns.map V.int)->HOk P w H s₁.heap->(∀b,H b≠none->b=a)->(H a≠none->K.lookup a=uB) ->
   codeAny (AM P w) OP (.call (.ref fa) ⟨[.ref a],[]⟩) (λr s'=>r=.ok (.ret (.bool true))/\OldK s₁.heap s'.heap/\s'.os=s₁.os/\MB s'.gens) s₁:=by
  intro H hO hS hok hA hK;have base_of:∀{b:Addr}{o:Obj},s₁.heap.get? b=uA o->H b=none->(hidT s₁.heap H).get? b=uA o:=λe n=>ABo e n;have ui:∀{b:Addr}{o:Obj}{es:Array NV}{ep:Nat},s₁.heap.get? b=uA o->o.data=.dict es ep->H b=uB:=λ{b o es ep} e d=>by
   cases q:H b with
   | none=>rfl
   | some u =>
    have e':=hA b (by rw[q];simp);subst e';rw[ha] at e;cases e;have d':=d;cases d'
  have nsK:∀{b:Addr}{m:Str->Option As},s₁.heap.Ns b m->(hidT s₁.heap H).Ns b m:=λ{b m} ⟨o,es,ep,e,d,r⟩=>⟨o,es,ep,base_of e (ui e d),d,r⟩;have hKb:K.In (hidT s₁.heap H):=λb o e=>base_of (KX b o e) (by
   cases q:H b with
   | none=>rfl
   | some u =>
    have e':=hA b (by rw[q];simp);subst e';rw[hK (by rw[q];simp)] at e;cases e)
  have hM:Mod K mg (hidT s₁.heap H):=⟨hKb,nsK kC,⟨mb,nsK hb,hbb⟩,by obtain⟨mc,h1,h2⟩:=hlim;exact⟨mc,nsK h1,h2⟩⟩;have e0:Env0 P w K mg (hidT s₁.heap H) OP [] s₁ H:=⟨rfl,hM,λb o e=>ADs e,OS (AAc _ _),trivial,λb hb=>uH (show b∈([]:uY) from hb) (by simp),hok,.of_eq hg⟩;refine FU ((F _ hKb (nsK kC)).run OP [] s₁ H ⟨[.ref a],[]⟩ [.ref a] [.ref a] _ _ hr e0 (rN s₁ (.ref a)) (.cons rfl .nil) (js H hO hS)) λr s' h=>?_;cases r with
  | error e=>exact(hCX H e s' h).elim
  | ok fl =>
   cases fl with
   | next=>exact E8 h
   | brk=>exact E8 h
   | cont=>exact E8 h
   | ret u =>
    obtain⟨v,H',os,bare,un,hok',r',q⟩:=h;have q':=q;subst q';obtain rfl:u=K1 true:=r';refine⟨rfl,OldK.of_keep λb o e=>?_,os,bare⟩;cases q:H b with
    | none=>exact un.keep b o e q (by intro z;exact uH (show b∈([]:uY) from z) (by simp)) (by simp)
    | some u =>
     rcases hO b with z| ⟨ob,xs,z⟩
     .rw[q] at z;cases z
     .have z2:=un.frzs b ob _ z
      obtain⟨e1,_⟩:=hok b _ z;obtain⟨e2,_⟩:=hok' b _ z2;rw[e] at e1;cases e1;exact e2
 cases hk:K.lookup a with
 | some o =>
  have e:=KX a o hk;rw[ha] at e;cases e;refine rJ (λ_=>uB) (λ_=>.inl rfl) (.inr ⟨_,vs.toArray,_,hk,rfl,rfl,rfl,by rw[AT,lenV];exact hl,by simpa using rv⟩) (λb u z=>by have z':=z;cases z') (λb z=>uH rfl z) λz=>uH rfl z
 | none =>
  refine rJ (λb=>if b=a then uA (.frz {cls:=.type "list",data:=.seq vs.toArray} (.lst (ns.map V.int))) else uB) (λb=>?_) (.inl (.inr ⟨{cls:=.type "list",data:=.seq vs.toArray},uD rfl⟩)) (λb u z=>?_) (λb z=>?_) λ_=>hk
  .by_cases hb:b=a
   .exact .inr ⟨_,_,uD hb⟩
   .exact .inl (uC hb)
  .by_cases hb:b=a
   .have z':=(uD hb).symm.trans z
    cases z';subst hb;exact⟨ha,by rw[AB];exact hl,vs,_,rv,ha⟩
   .have z':=(uC hb).symm.trans z
    cases z'
  .by_cases hb:b=a
   .exact hb
   .exact uH (uC hb) z
theorem AEt{l:Ps}{k:Nat}{q:AL}{d:DefRec}{K:X6->Ap}{CX:AQ->CXT}{sp:AQ->Sp}
  (hn:l.most=uA n) (hn2:n<=sizeLine) (tX:d.params.defaults=[]) (hr:Room k OP)
  (hY:∀(w:AQ) (h:Heap),YP w h->(K w.params).In h)
  (F:∀(w:AQ) (mg:Str->Option As) (fa:Addr) (h:Heap),(K w.params).In h->h.Ns DD mg->mg d.name=uA (.ref fa) ->
   ∃fd:Bn,(∀(s:AA) (u:As),QA s fd ⟨[u],[]⟩ [(x,u)]) /\
    ∀base:Heap,(K w.params).In base->base.Ns DD mg->FnOk l.prog w (K w.params) mg base (CX w) k fa fd [x] (sp w))
  (js:∀(w:AQ) (H:Hp) (a:Addr) (ns:uI),ns.length<=n->Only H->SqL (K w.params) H a (ns.map V.int)->sp w [.ref a] H (λv _=>v=.bl true) λ_ _ _=>False)
  (hCX:∀(w:AQ) (H:Hp) (s:AA) (e:As) (s':AA),CX w [] H s (λ_ _ _=>False) e s'->False) :
  WH q c5 XP YP l.row.toRowW d [] (λf vs=>U4 f vs):=by
 refine Att.VJ hn tX λw s₀ s₁ mg mb fa o pm cd be a vs ns G Y ho hd jv hmg oC hU aw hg=>?_;have KX:=hY w _ Y;obtain⟨fd,hb,hF⟩:=F w mg fa _ KX G.T.g hmg;exact ACq KX G.T.g G.T.b G.T.builtins G.T.nolimit hg oC hU (BY aw hn2) hr hF hb (λH hO hS=>js w H a ns aw hO hS) λH e s'=>hCX w H s₁ e s'
noncomputable def inClass(s:Stmt)(j:Nat):Stmt:=match s with
 | .ClassDef _ _ _ body _ _ _ _ _ _ _=>body.getD j (.Pass ⟨0,0,0,0⟩)
 | _=>.Pass ⟨0,0,0,0⟩
def Dz(s:Stmt):Arguments:=match s with
 | .FunctionDef _ a _ _ _ _ _ _ _ _=>a
 | _=>{posonlyargs:=[],args:=[],vararg:=uB,kwonlyargs:=[],kw_defaults:=[],kwarg:=uB,defaults:=[]}
def Dd(s:Stmt):List Stmt:=match s with
 | .FunctionDef _ _ b _ _ _ _ _ _ _=>b
 | _=>[]
def Ah(s:Stmt):F9:=match s with
 | .FunctionDef _ _ _ _ _ _ sc _ _ _=>sc
 | _=>{kind:=.function,names:=[],isGenerator:=false,isCoroutine:=false}
abbrev CX0:CXT:=λ_ _ _ _ _ _=>False
abbrev E0:XK:=λ_ _ _=>False
theorem pass0:Passes CX0 X E0:=λ_ _ _ _ _ _ _ h=>h.elim
structure Cal(P:AL)(w:AQ)(K:Ap)(mg:Str->Option As)(base:Heap)(n:Nat)(f:Addr)(fd:Bn)(x:Str)(ps:uU)(sp:Sp):Prop where
 G:FnOk P w K mg base CX0 n f fd ps sp
 b:Binds K fd ps []
 k:DL K (.ref f)=true
 m:mg x=uA (.ref f)
theorem BP{t:TA}{p:Pos}(c:Cal X.prog X.w X.K X.mg X.base n f fd x ps sp)(hr:Room n X.A)(hg:Gl X x)
  (ha:PA X (e::es) t) (ie:autoParam ((x==("__debug__" : Str))=false) zA1._auto_1) (he:autoParam (CI (e::es) X.env=(false,eval e X.env)::CI es X.env) zA0._auto_1) (e8:autoParam ((KF pos (CI es X.env)).any (·.1)=false) zA0._auto_1) :
  PE X (.Call (.Name x p) (e::es) [] pos) (AFt sp [] E0 t):=JX c.G hr hg c.m c.k c.b .nil pass0 ha ie he e8
structure Fun(K:Ap)(x qual:Str)(st:Stmt)(f:Addr)(fd:Bn):Prop where
 ex:∃(oc:As) (od:Option Addr) (kV be pm:As) (an:Option Addr) (a7 ct:As) (l6:Array (Option As)),
  fd=Fh x qual (Dz st) (Dd st) (Ah st) .none kV be pm an a7 ct/\K.lookup f=uA ⟨oc,od,.func fd,l6⟩/\IP K a7 qual=true
 kp:DL K (.ref f)=true
theorem Fun.ok{st:Stmt}{N:uU}{k:Nat}(F:Fun K x qual st f fd)(S:FnScope N ps (Ah st))(len:∀vs H Q E,sp vs H Q E->vs.length=ps.length)
  (iq:∀(a7:As) (A:BV) (outer:List Env) (s:AA) (H:Hp) (vs:List V) (Q:VK) (E:XK),Room k (A.deeper (NU qual (Ah st) s.heap.objs.size f a7))->sp vs H Q E ->
   ∃t,PSs (cxOf CX0 P w K mg base N qual (Ah st) f a7 A outer s H E).nox (Dd st) t/\t {nx:=λ_ H'=>Q .non H',rt:=Q} (start N vs) H):FnOk P w K mg base CX0 (k+1) f fd ps sp:=by
 obtain⟨oc,od,kV,be,pm,an,a7,ct,l6,rfl,lk,jv⟩:=F.ex;refine AHL lk jv S len λA outer s H vs Q E hr js=>?_;obtain⟨t,h,q⟩:=iq a7 A outer s H vs Q E hr js;exact⟨t,h.nox,q⟩
theorem Fun.binds{st:Stmt}(F:Fun K x qual st f fd)
  (h:∀(kV be pm:As) (an:Option Addr) (a7 ct:As) (us:List As),us.length=ps.length->UE (Fh x qual (Dz st) (Dd st) (Ah st) .none kV be pm an a7 ct) ⟨us,[]⟩=pure (ps.zip us)):Binds K fd ps []:=by
 obtain⟨oc,od,kV,be,pm,an,a7,ct,l6,rfl,lk,jv⟩:=F.ex;exact .all (h kV be pm an a7 ct)
theorem MP{st:Stmt}{kV:As}(l:K.lookup f=uA ⟨oc,od,.func (Fh x qual (Dz st) (Dd st) (Ah st) .none kV be pm an a7 ct),l6⟩)
  (c:IP K a7 qual=true) (k:DL K (.ref f)=true):Fun K x qual st f (Fh x qual (Dz st) (Dd st) (Ah st) .none kV be pm an a7 ct):=⟨⟨oc,od,kV,be,pm,an,a7,ct,l6,rfl,l,c⟩,k⟩
theorem Ay(h:n<=1000):n<sizeLine:=EB h (by decide)
theorem pv(i:Nat)(hN:autoParam (X.N[i]?=uA x) zA0._auto_1)(hv:Vis X.env.scope x:=by first| exact K8 rfl| exact NO (K8 rfl)| exact NO (NO rfl))(hd:autoParam ((x==("__debug__" : Str))=false) zA1._auto_1)
  (jv:autoParam ((x==("__classdict__" : Str))=false) zA1._auto_1):PE X (.Name x pos) (AHo i):=AGz hN hv hd jv
theorem iteF{A B:Prop}(h:B):if false=true then A else B:=by
 rw[uC Be];exact h
theorem iteT{A B:Prop}(h:A):if true=true then A else B:=by
 rw[uD rfl];exact h
theorem ite2{c A B:Prop}[Decidable c](h1:c->A)(h2:¬ c->B):if c then A else B:=by
 by_cases h:c
 .rw[uD h]
  exact h1 h
 .rw[uC h]
  exact h2 h
def Same(H H':Hp):Prop:=∀b o,H b=uA o->H' b=uA o
theorem Same.refl(H:Hp):Same H H:=λ_ _ h=>h
def u3:=@Same.refl
theorem Same.trans(a:Same H H1)(b:Same H1 H2):Same H H2:=λc o h=>b c o (a c o h)
theorem Same.free(e:Same H H')(h:H' l=Y4):H l=Y4:=by
 cases q:H l with
 | none=>rfl
 | some o =>
  rw[e l o q] at h;cases h
theorem Same.seq(e:Same H H')(h:SqL K H a xs):SqL K H' a xs:=by
 rcases h with(h| ⟨o,h⟩)| h
 .exact .inl (.inl (e _ _ h))
 .exact .inl (.inr ⟨o,e _ _ h⟩)
 .exact .inr h
noncomputable def cloOf(cells:List (Str×Addr)):List (Str×IS)->List (Str×Addr)->List (Str×Addr)
 | [],cs=>cs
 | (n,k)::r,cs=>cloOf cells r (if k == .free then match cells.lookup n with| some c=>(n,c)::cs| none=>cs else cs)
theorem Oa{cells:List (Str×Addr)}:∀{names:List (Str×IS)}{cs:List (Str×Addr)},(∀x c,cs.lookup x=uA c->cells.lookup x=uA c)->∀x c,(cloOf cells names cs).lookup x=uA c->cells.lookup x=uA c
 | [],_,h=>h
 | (n,k)::r,cs,h=>by
  unfold cloOf;refine Oa (names:=r) ?_;intro x c e;by_cases hk:(k==C6)=true
  .rw[uD hk] at e
   cases q:cells.lookup n with
   | none=>rw[q] at e;exact h x c e
   | some d =>
    rw[q] at e;rw[EI] at e;cases hx:x==n with
    | true =>
     rw[hx] at e;have hxn:x=n:=eq_of_beq hx;subst hxn;rw[q];exact e
    | false=>rw[hx] at e;exact h x c e
  .rw[uC hk] at e;exact h x c e
theorem cloOf_mono{cells:List (Str×Addr)}{x:Str}:∀{names:List (Str×IS)}{cs:List (Str×Addr)},(cs.lookup x).isSome=true->((cloOf cells names cs).lookup x).isSome=true
 | [],_,h=>h
 | (n,k)::r,cs,h=>by
  unfold cloOf;refine cloOf_mono (names:=r) ?_;by_cases hk:(k==C6)=true
  .rw[uD hk]
   cases q:cells.lookup n with
   | none=>exact h
   | some d =>
    show(FS x ((n,d)::cs)).isSome=true;rw[EI];cases hx:x==n with
    | true=>rfl
    | false=>exact h
  .rw[uC hk];exact h
theorem Nv{cells:List (Str×Addr)}{x:Str}(hc:(cells.lookup x).isSome=true):∀{names:List (Str×IS)}{cs:List (Str×Addr)},(x,C6)∈names->((cloOf cells names cs).lookup x).isSome=true
 | [],_,h=>by cases h
 | (n,k)::r,cs,h=>by
  unfold cloOf;rcases BH.mp h with e| h
  .cases e
   refine cloOf_mono ?_;rw[uD (show(C6==C6)=true from rfl)];obtain⟨d,q⟩:=G2.mp hc;rw[q];rw[EI,beq_self_eq_true];rfl
  .exact Nv hc h
theorem Xa{env:Env}:∀(names:List (Str×IS)) (cs:List (Str×Addr)),(∀y∈names,y.2=.free->(env.cells.lookup y.1).isSome=true) ->
  (forIn names cs λ(x:Str×IS) (r:List (Str×Addr))=>match x with
   | (name,kind)=>if(kind == .free)=true then do let c <- cellOf env name;pure (C4 ((name,c)::r)) else pure (C4 r):Sem (List (Str×Addr)))=pure (cloOf env.cells names cs)
 | [],cs,_=>rfl
 | (n,k)::r,cs,h=>by
  have hr:∀y∈r,y.2=.free->(env.cells.lookup y.1).isSome=true:=λy hy=>h y (AK _ hy);rw[List.forIn_cons];unfold cloOf;by_cases hk:(k==C6)=true
  .have hf:k=.free:=by simpa using hk
   obtain⟨d,q⟩:=G2.mp (h (n,k) AG hf);have q':=q;have eK:cellOf env n=pure d:=by unfold cellOf;rw[q']
   simp only[hk,if_true,eK,pure_bind,q'];exact Xa r _ hr
  .simp only[hk,if_false,pure_bind,B3]
   exact Xa r _ hr
theorem ACN{env:Env}(h:∀y∈scope.names,y.2=.free->(env.cells.lookup y.1).isSome=true):closureFor scope env=pure (cloOf env.cells scope.names []):=by
 unfold closureFor;have e:=Xa (env:=env) scope.names [] h;simp only[bind_pure];exact e
theorem Ej{env:Env}:∀{names:List (Str×IS)}{x:Str},names.lookup x=uA .free ->
  (names.map λ(n,k)=>if(k==C6&&env.scope.kind == .function&&env.kindOf n==uA .cell) then(n,IC) else(n,k)).lookup x=uA .cell \/
  (names.map λ(n,k)=>if(k==C6&&env.scope.kind == .function&&env.kindOf n==uA .cell) then(n,IC) else(n,k)).lookup x=uA .free
 | [],_,h=>by simp at h
 | (n,k)::r,x,h=>by
  have ih:=@Ej env r x;rw[B4];show FS x ((if(k==C6&&env.scope.kind == .function&&env.kindOf n==uA .cell)=true then(n,IC) else(n,k))::_)=_\/FS x ((if(k==C6&&env.scope.kind == .function&&env.kindOf n==uA .cell)=true then(n,IC) else(n,k))::_)=_;cases hx:x==n with
  | true =>
   rw[EI,hx] at h;have hk:k=.free:=by simpa using h
   by_cases hc:(k==C6&&env.scope.kind == .function&&env.kindOf n==uA .cell)=true
   .rw[uD hc];left;rw[EI,hx]
   .rw[uC hc];right;rw[EI,hx,hk]
  | false =>
   rw[EI,hx] at h;by_cases hc:(k==C6&&env.scope.kind == .function&&env.kindOf n==uA .cell)=true
   .rw[uD hc];rw[EI,hx];exact ih h
   .rw[uC hc];rw[EI,hx];exact ih h
theorem Jz{env:Env}{x:Str}:∀{names:List (Str×IS)},(∀y∈names,y.2≠.cell) ->
  (
   (names.map λ(n,k)=>if(k==C6&&env.scope.kind == .function&&env.kindOf n==uA .cell) then(n,IC) else(n,k)).lookup x=uA .cell \/
   (names.map λ(n,k)=>if(k==C6&&env.scope.kind == .function&&env.kindOf n==uA .cell) then(n,IC) else(n,k)).lookup x=uA .free)->(x,C6)∈names
 | [],_,h=>by simp at h
 | (n,k)::r,hc,h=>by
  have ih:=@Jz env x r λy hy=>hc y (AK _ hy);rw[B4] at h;have h':FS x ((if(k==C6&&env.scope.kind == .function&&env.kindOf n==uA .cell)=true then(n,IC) else(n,k))::_)=_\/FS x ((if(k==C6&&env.scope.kind == .function&&env.kindOf n==uA .cell)=true then(n,IC) else(n,k))::_)=_:=h;by_cases hb:(k==C6&&env.scope.kind == .function&&env.kindOf n==uA .cell)=true
  .rw[uD hb] at h'
   have hk:k=.free:=by simp at hb;exact hb.1.1
   rw[EI] at h';cases hx:x==n with
   | true =>
    have:x=n:=eq_of_beq hx;subst this;subst hk;exact AG
   | false=>rw[hx] at h';exact AK _ (ih h')
  .rw[uC hb] at h'
   rw[EI] at h';cases hx:x==n with
   | true =>
    rw[hx] at h';have:x=n:=eq_of_beq hx;subst this;rcases h' with h' | h'
    .exact uH (AN h') (hc (x,k) AG)
    .have hk:=AN h'
     subst hk;exact AG
   | false=>rw[hx] at h';exact AK _ (ih h')
noncomputable def compOk(fh sc:F9):Bool :=
 (decide (sc.kind=.function))&&sc.names.all (λy=>decide (y.2≠.cell))&&sc.names.all (λy=>decide (y.2=.local->sc.names.lookup y.1=uA .local)) &&
  sc.names.all (λy=>decide (y.2=.free->fh.names.lookup y.1=uA .cell\/fh.names.lookup y.1=uA .free))
structure CompOk(fh sc:F9):Prop where
 kind:sc.kind=.function
 nocell:∀y∈sc.names,y.2≠.cell
 loc:∀y∈sc.names,y.2=.local->sc.names.lookup y.1=uA .local
 free:∀y∈sc.names,y.2=.free->fh.names.lookup y.1=uA .cell\/fh.names.lookup y.1=uA .free
theorem CompOk.of{fh:F9}(h:compOk fh sc=true):CompOk fh sc:=by
 unfold compOk at h;rw[F0,F0,F0] at h;obtain⟨⟨⟨h1,h2⟩,h3⟩,h4⟩:=h;exact⟨uG h1,λy hy=>uG (EW.mp h2 y hy),λy hy=>uG (EW.mp h3 y hy),λy hy=>uG (EW.mp h4 y hy)⟩
abbrev cloX(X:Cx)(scope:F9):List (Str×Addr):=cloOf X.env.cells scope.names []
noncomputable def cxComp(X:Cx)(N':uU)(scope:F9)(fp:uY)(s:AA)(H:Hp):Cx where
 prog:=X.prog
 w:=X.w
 K:=X.K
 mg:=X.mg
 base:=X.base
 A:=X.A
 N:=N'
 s₀:=s
 H₀:=H
 env:=X7 scope (cloX X scope) s.heap.objs.size X.env
 outer:=X.stack
 stack:=X.stack
 ex:=fp
 fn:=λ_=>false
 calm:=X.calm
 pn:=[]
 xe:=λ_ _=>False
def FreeAt(X:Cx)(sc:F9):uU->uL->Prop
 | [],[]=>True
 | x::fr,j::ix=>(X.N[j]?=uA x/\sc.names.lookup x=uA .free)/\FreeAt X sc fr ix
 | _,_=>False
noncomputable def start2(σ:St)(own:uU)(ix:uL):St:=CC own.length uB++ix.map λj=>(σ[j]?).join
theorem Xd:∀{fr:uU}{ix:uL},FreeAt X sc fr ix->(start2 σ own ix).length=(own++fr).length:=by
 intro fr ix h;have:fr.length=ix.length:=by
  induction fr generalizing ix with
  | nil=>cases ix with
   | nil=>rfl
   | cons _ _=>exact h.elim
  | cons x fr ihf=>cases ix with
   | nil=>exact h.elim
   | cons j ix=>simp[ihf h.2]
 simp[start2,this]
theorem Mq{X:Cx}{sc:F9}{σ:St}{x:Str}{v:V}:∀{fr:uU}{ix:uL}{i:Nat},FreeAt X sc fr ix->fr[i]?=uA x->(ix.map λj=>(σ[j]?).join)[i]?=uA (uA v) ->
  ∃j:Nat,X.N[j]?=uA x/\σ[j]?=uA (uA v)/\sc.names.lookup x=uA .free
 | [],_,_,_,h,_=>by simp at h
 | _::_,[],_,h,_,_=>h.elim
 | y::fr,j::ix,0,h,h1,h2=>by
  have e1:y=x:=by simpa using h1
  subst e1;have e2:(σ[j]?).join=uA v:=by simpa using h2
  refine⟨j,h.1.1,?_,h.1.2⟩;cases q:σ[j]? with
  | none=>rw[q] at e2;cases e2
  | some o=>rw[q] at e2;cases o with
   | none=>cases e2
   | some z =>
         have:z=v:=by simpa using e2
         rw[this]
 | y::fr,j::ix,i+1,h,h1,h2=>Mq (fr:=fr) (ix:=ix) (i:=i) h.2 (by simpa using h1) (by simpa using h2)
theorem Vp(h:FreeAt X sc fr ix)(h1:(own++fr)[i]?=uA x)(h2:(start2 σ own ix)[i]?=uA (uA v)) :
  ∃j:Nat,X.N[j]?=uA x/\σ[j]?=uA (uA v)/\sc.names.lookup x=uA .free:=by
 by_cases hi:i<own.length
 .unfold start2 at h2
  rw[By (by simpa using hi),He,uD hi] at h2;cases h2
 .unfold start2 at h2
  rw[CF (by simpa using hi)] at h2;rw[CF (by simpa using hi)] at h1;exact Mq h h1 (by simpa using h2)
def PIfs(X:Cx)(dL:uV)(t:TT):Prop :=
 ∀(aa:uQ) (s:AA) (σ:St) (H:Hp) (Q:Bool->Hp->Prop),Inv X aa σ H s->t σ H Q ->
  wpAny (AM X.prog X.w) X.A (forIn dL true λc r=>if r=true then do let ok <- UX c X.env (eval c X.env);pure (C4 ok) else pure (C4 r)) (TP X aa σ Q) X.xe s
def AHC:TT:=λ_ H Q=>Q true H
theorem DY:PIfs X [] AHC:=λ_ _ _ H _ I h=>wpAny_tests_nil ⟨H,I,h⟩
theorem CK{t:TT}(h:PT X c t):PIfs X [c] t:=λaa s σ H Q I hw=>wpAny_tests_one (h aa s σ H Q I hw)
theorem Gp{R:SF->AA->Prop}{cm iter:Expr}{it acc:As}{env:Env}(I:Nat->AA->Prop)
  (turn:∀n s,I n s->wpAny (AM prog w) A (L8 it) (λr s₁=>match r with
   | none=>R (.ok .next) s₁
   | some v=>wpAny (AM prog w) A (MQ cm it v) (λ_ s₁'=>wpAny (AM prog w) A (SC cm env v) (λ_ s₂ =>
     wpAny (AM prog w) A (forIn dL true λc r=>if r=true then do let ok <- UX c env (eval c env);pure (C4 ok) else pure (C4 r)) (λok s₃ =>
      if ok=true then wpAny (AM prog w) A (eval dC env) (λx s₄ =>
       wpAny (AM prog w) A (call (.builtin "list.append") [acc,x]) (λ_ s₅=>∃m,m<n/\I m s₅) (λ_ _=>False) s₄) (λ_ _=>False) s₃
      else ∃m,m<n/\I m s₃) (λ_ _=>False) s₂) (λ_ _=>False) s₁') (λ_ _=>False) s₁) (λ_ _=>False) s)
  (n:Nat) (h:I n s) :
  codeAny (AM prog w) A (.compLoop (.ListComp dC [⟨cm,iter,dL,0⟩] scope pos) 0 it acc env) R s:=by
 refine codeAny_loop rfl I (λn s hI=>?_) n h;refine wpAny_noted ?_;rw[compTurn_list];refine Au (RR (Au (EK (turn n s hI) (λr s₁ h₁=>?_) λ_ _ h'=>h'.elim)));cases r with
 | none=>exact AC h₁
 | some v =>
  refine Au (EK h₁ (λ_ s₁' h₁'=>?_) λ_ _ h'=>h'.elim);refine Au (EK h₁' (λ_ s₂ h₂=>Au (EK h₂ (λok s₃ h₃=>?_) λ_ _ h'=>h'.elim)) λ_ _ h'=>h'.elim);cases ok with
  | false=>exact AC ⟨rfl,h₃⟩
  | true =>
   exact Au (Au (EK h₃ (λx s₄ h₄=>Au (EK h₄ (λ_ s₅ h₅=>AC (AC ⟨rfl,h₅⟩)) λ_ _ h'=>h'.elim)) λ_ _ h'=>h'.elim))
def Behind(X:Cx)(aa:uQ)(σ:St)(R:Hp->Prop)(C:Addr)(s':AA):Prop :=
 ∃(H':Hp) (m:Str->Option As),Inv X aa σ H' s'/\s'.heap.Ns C m/\FpOk X aa H' C/\R H'
theorem Inv.sameBut(I:Inv X aa σ H s)(f:FpOk X aa H C)(sb:EZ C s.heap h'):Inv X aa σ H {s with heap:=h'}:=by
 obtain⟨f0,f1,f2,f3,f4,f5⟩:=f;exact I.turned (t':=s.toks) (λb o hb e=>(sb.2 b hb).trans e) f0 f1 f3 f4 f5
def Gk(J:It)(D:Addr)(g:TG)(tc:TT)(te:TE)(R:Hp->Prop)(τ:St)(H:Hp):Prop :=
 ∃W:Nat->Nat->St->Hp->Prop,(∃m,W 0 m τ H)/\∀i m τ H,W i m τ H ->
  (J.stop i H/\R H)\/(J.go i H/\∃N:St->Hp->Prop,(∀τ' H',N τ' H'->∃m',m'<m/\W (i+1) m' τ' H')/\∀x H',J.yld i H x H'->g x τ H' λτ2 H2=>tc τ2 H2 λb H3 =>
   if b=true then te τ2 H3 λv H4=>∃ys,H4 D=uA (.lst ys)/\ys.length<sizeLine/\N τ2 (upd H4 D (.lst (ys++[v]))) else N τ2 H3)
section
variable{iter:Expr}{g:TG}
theorem Vm{R:Hp->Prop}{h₁:Heap}{m0:Str->Option As}(hc:X.calm=true)(ok:CompOk X.env.scope scope)(oj:FreeAt X scope fr ix)
  (hg:PG (cxComp X (own++fr) scope fp s H) tg g) (hi:PIfs (cxComp X (own++fr) scope fp s H) dL tc) (he:PE (cxComp X (own++fr) scope fp s H) dC te)
  (I3:Inv X aa σ H s) (T:Turn X.prog X.w X.K tg J fp it tn) (cS:tn 0 s.heap) (f3:∀b∈fp,FpOk X aa H b)
  (kC:h₁.Ns s.heap.objs.size m0) (hsb:EZ s.heap.objs.size (s.heap.push ob) h₁) (hq:Gk J D g tc te R (start2 σ own ix) H) :
  codeAny (AM X.prog X.w) X.A (.compStart (.ListComp dC [⟨tg,iter,dL,0⟩] scope pos) 0 (.ref it) (.ref D) (X7 scope (cloX X scope) s.heap.objs.size X.env))
   (λr s'=>r=.ok .next/\Behind X aa σ R s.heap.objs.size s') {s with heap:=h₁,toks:=tk}:=by
 have b6:∀b o,s.heap.get? b=uA o->h₁.get? b=uA o:=λb o e=>hsb.extBut b o (BU (Bz e)) (AJ _ e);have sub:∀x c,(cloX X scope).lookup x=uA c->X.env.cells.lookup x=uA c:=Oa (λx c e=>by simp at e);have iA:∀x,(x,C6)∈scope.names->X.env.kindOf x=uA .cell\/X.env.kindOf x=uA .free:=λx hx=>ok.free (x,.free) hx rfl;have has:∀x,(x,C6)∈scope.names->∃c,(cloX X scope).lookup x=uA c:=λx hx=>by
  obtain⟨c,gN⟩:=I3.ok.has x (iA x hx);exact G2.mp (Nv (by rw[gN];rfl) hx)
 have lt3:∀b∈fp,b<s.heap.objs.size:=λb hb=>by
  obtain⟨o,ho,_⟩:=T.obj 0 _ cS b hb;exact Bz ho
 have ng:∀b∈fp,b∉frs X.stack:=λb hb hs=>by
  rcases BH.mp (I3.stkSub b hs) with z| z
  .exact(f3 b hb).2.1 z
  .exact(f3 b hb).2.2.1 z
 have nv:∀b∈fp,∀x c,(cloX X scope).lookup x=uA c->c≠b:=λb hb x c h=>(f3 b hb).2.2.2.2.1 x c (sub x c h);have I4:Inv (cxComp X (own++fr) scope fp s H) [] (start2 σ own ix) H {s with heap:=h₁,toks:=tk}:=by
  refine⟨⟨I3.ok.mod,ok.kind,I3.ok.glob,I3.ok.blt,AF _,?inj,?has,?cab,I3.ok.hd,I3.ok.frames,.inl rfl,?exf,I3.bs,BY I3.ok.bsz I3.sz,?noex,ng,I3.stack,I3.stkFree⟩,
   rfl,I3.bare,Un.kept b6,⟨m0,kC,?loc⟩,?cell,I3.hok.fresh (AF _),?freeC,?pin,I3.hok.kept b6,?len⟩
  case inj=>exact λx y c h1 h2=>I3.ok.inj x y c (sub x c h1) (sub y c h2)
  case has=>exact λx hx=>has x (Jz ok.nocell hx)
  case cab=>exact λx c h=>by cases h
  case exf=>exact λb hb=>⟨BU (lt3 b hb),nv b hb⟩
  case noex =>
   intro b o e hb;rcases (f3 b hb).2.2.2.1 with z| z
   .exact I3.ok.noex b o e z
   .exact uH (CD (CD (Bz e) I3.ok.bsz) z) (EX _)
  case loc =>
   intro i x v e1 e2 e3;obtain⟨j,a1,a2,a3⟩:=Vp oj e1 e2;have mem:=Hn a3;obtain⟨m,hn,hl⟩:=I3.loc;have ok1:=iA x mem;obtain⟨u,r,l⟩:=hl j x v a1 a2 (ok1.elim (λz=>.inr (.inl z)) λz=>.inr (.inr z));rcases l with⟨k,_⟩| ⟨k,c,gN,o,ho,hd⟩
   .rcases ok1 with z| z
    .rw[k] at z;cases z
    .rw[k] at z;cases z
   .obtain⟨c',tO⟩:=has x mem
    have e:=sub x c' tO;rw[gN] at e;cases e;exact⟨u,r,.inr ⟨Ej a3,c,tO,o,b6 _ _ ho,hd⟩⟩
  case cell =>
   intro x c h;obtain⟨v,o,ho,hd⟩:=I3.cell x c (sub x c h);exact⟨v,o,b6 _ _ ho,hd⟩
  case freeC=>exact λx c h=>I3.freeC x c (sub x c h)
  case pin=>exact λp hp=>uH (show p∈([]:uQ) from hp) (by simp)
  case len=>exact Xd oj
 have st4:=T.keep 0 _ _ cS λb _ o e=>b6 b o e;have d6:∀{H':Hp},(∀b∈fp,H' b=uB)->∀b∈fp,FpOk (cxComp X (own++fr) scope fp s H) [] H' b:=λ{H'} hn b hb =>
  ⟨hn b hb,BU (lt3 b hb),ng b hb,.inl hb,nv b hb,λp hp=>uH (show p∈([]:uQ) from hp) (by simp)⟩
 obtain⟨W,⟨m1,w0⟩,turn⟩:=hq;have loop:codeAny (AM X.prog X.w) X.A (.compLoop (.ListComp dC [⟨tg,iter,dL,0⟩] scope pos) 0 (.ref it) (.ref D) (X7 scope (cloX X scope) s.heap.objs.size X.env))
   (λr s'=>r=.ok .next/\Behind X aa σ R s.heap.objs.size s') {s with heap:=h₁,toks:=tk}:=by
  refine Gp (λn s'=>∃i τ H',Inv (cxComp X (own++fr) scope fp s H) [] τ H' s'/\tn i s'.heap/\(∀b∈fp,H' b=uB)/\W i n τ H') ?_ m1 ⟨0,_,H,I4,st4,λb hb=>(f3 b hb).1,w0⟩;rintro n s5 ⟨i,τ5,H5,I5,qT,fr5,w5⟩;rcases turn i n τ5 H5 w5 with⟨stop,qn⟩| ⟨go,N,hN,step⟩
  .refine thn (T.done (cxComp X (own++fr) scope fp s H) rfl rfl rfl hc i [] s5 τ5 H5 _ I5 (d6 fr5) qT stop) λr s6 hq=>?_
   obtain⟨hr,I6⟩:=hq;subst hr;obtain⟨m6,hn6,_⟩:=I6.loc;exact⟨rfl,H5,m6,I3.call' (ch:=fp) I6.os I6.base I6.hok I6.bare (λb hb=>⟨(f3 b hb).2.2.2.1,(f3 b hb).2.1,(f3 b hb).2.2.2.2.1,(f3 b hb).2.2.2.2.2⟩),hn6,I3.fpOk (AF _) I6.free,qn⟩
  .refine thn (T.item (cxComp X (own++fr) scope fp s H) rfl rfl rfl hc i [] s5 τ5 H5 _ I5 (d6 fr5) qT go) λr s6 hq=>?_
   obtain⟨u,hr,h6⟩:=hq;subst hr;refine thn h6 λ_ s7 hq=>?_;obtain⟨x,H7,I7,r7,y7,st7,fr7⟩:=hq;have I7':=I7.pinned (d6 fr7) (T.obj _ _ st7);have again:∀{τ8:St}{H8:Hp}{s8:AA},Inv (cxComp X (own++fr) scope fp s H) ([]++pinsAt fp s7.heap) τ8 H8 s8->N τ8 H8 ->
     ∃m,m<n/\∃i τ H',Inv (cxComp X (own++fr) scope fp s H) [] τ H' s8/\tn i s8.heap/\(∀b∈fp,H' b=uB)/\W i m τ H':=λ{τ8 H8 s8} I8 n8=>by
    obtain⟨m',hm,w8⟩:=hN τ8 H8 n8;refine⟨m',hm,i+1,τ8,H8,I8.unpinned,T.keep _ _ _ st7 λb hb o e=>(I8.pin (b,o) (CH _ (CH _ (GJ hb e)))).1,λb hb=>?_,w8⟩;obtain⟨o,e,d⟩:=T.obj _ _ st7 b hb;exact(I8.pin (b,o) (CH _ (CH _ (GJ hb e)))).2.1
   refine thn (hg _ s7 τ5 H7 x u _ I7' r7 (step x H7 y7)) λ_ s8 hq=>?_;obtain⟨τ8,H8,I8,q8⟩:=hq;refine thn (hi _ s8 τ8 H8 _ I8 q8) λb s9 hq=>?_;obtain⟨H9,I9,q9⟩:=hq;cases b with
   | false=>exact again I9 q9
   | true =>
    refine thn (he _ s9 τ8 H9 _ I9 q9) λuv qQ hq=>?_;obtain⟨v,H10,I10,r10,ys,hD,hz,q10⟩:=hq;refine thn (DP (X:=cxComp X (own++fr) scope fp s H) _ qQ τ8 H10 (.ref D) [v] (.ref D) [uv] (λ_ H'=>N τ8 H') I10 rfl (.cons r10 .nil) ⟨D,ys,v,rfl,rfl,hD,hz,q10⟩) λ_ mN hq=>?_;obtain⟨_,H11,I11,_,q11⟩:=hq;exact again I11 q11
 exact codeAny_compStart_list loop (T.self X.A 0 _ _ _ st4 loop)
theorem Tp{R:V->Hp->Prop}(hc:X.calm=true)(ok:CompOk X.env.scope scope)(oj:FreeAt X scope fr ix)
  (hg:∀fp s H,PG (cxComp X (own++fr) scope fp s H) tg g) (hi:∀fp s H,PIfs (cxComp X (own++fr) scope fp s H) dL tc) (he:∀fp s H,PE (cxComp X (own++fr) scope fp s H) dC te)
  (I2:Inv X aa σ H s) (T:Turn X.prog X.w X.K tg J fp it tn) (bb:tn 0 s.heap) (f2:∀b∈fp,FpOk X aa H b)
  (hq:∀D,H D=none->Gk J D g tc te (R (.ref D)) (start2 σ own ix) (upd H D (.lst []))) :
  wpAny (AM X.prog X.w) X.A (newList []) (λacc s₃=>wpAny (AM X.prog X.w) X.A (newFunctionEnv scope X.env.globals (cloX X scope) [] X.env.qual uB .none (uA X.env)) (λsL s₄ =>
   codeAny (AM X.prog X.w) X.A (.compStart (.ListComp dC [⟨tg,iter,dL,0⟩] scope pos) 0 (.ref it) acc {sL with scope:=relabel scope X.env})
    (λr s'=>r=.ok .next/\∃v,RelV v acc/\Behind X aa σ (R v) sL.locals s') s₄) E s₃) E s:=by
 refine DS (wpAny_newFunctionEnv ok.nocell (by intro y hy;simp at hy) (λh₁ hns₁ hsb₁=>?_) ok.kind);have hD:=I2.hok.fresh (AF _);have I3:Inv X aa σ (upd H s.heap.objs.size (.lst [])) {s with heap:=s.heap.push {cls:=.type "list",dict:=uB,data:=.seq ([]:List As).toArray}} :=
  I2.laid (t':=s.toks) (λb u e=>AJ _ e) (AF _) ⟨AY _,[],0,.nil,AU _ rfl⟩
 have cS:tn 0 (s.heap.push {cls:=.type "list",dict:=uB,data:=.seq ([]:List As).toArray}):=T.keep 0 _ _ bb λb _ o e=>AJ _ e;have f3:∀b∈fp,FpOk X aa (upd H s.heap.objs.size (.lst [])) b:=λb hb=>by
  obtain⟨f0,fr⟩:=f2 b hb;obtain⟨o,ho,_⟩:=T.obj 0 _ bb b hb;exact⟨by rw[Af (BU (Bz ho))];exact f0,fr⟩
 refine FU (Vm (R:=R (.ref s.heap.objs.size)) (D:=s.heap.objs.size) hc ok oj (hg _ _ _) (hi _ _ _) (he _ _ _) I3 T cS f3 hns₁ hsb₁ (hq _ hD)) λr s' ⟨e,b⟩=>⟨e,V.ref s.heap.objs.size,rfl,b⟩
def AFn(own:uU)(ix:uL)(wi:TI)(g:TG)(tc:TT)(te:TE):TE:=λσ H Q=>wi σ H λJ H1=>∀D,H1 D=none->Gk J D g tc te (Q (.ref D)) (start2 σ own ix) (upd H1 D (.lst []))
end
section
variable{iter:Expr}{g:TG}{wi:TI}
theorem Pr(I:Inv X aa σ H s)(ok:CompOk X.env.scope scope):∀y∈scope.names,y.2=.free->(X.env.cells.lookup y.1).isSome=true:=λy hy hf=>by
 obtain⟨c,h⟩:=I.ok.has y.1 (ok.free y hy hf);rw[h];rfl
theorem Bq(fh:F9)(own fr:uU)(ix:uL)(hc:X.calm=true)(ho:X.env.scope=fh)(hok:compOk fh scope=true)(oj:FreeAt X scope fr ix)(bq:PI X tg iter wi)
  (hg:∀fp s H,PG (cxComp X (own++fr) scope fp s H) tg g) (hi:∀fp s H,PIfs (cxComp X (own++fr) scope fp s H) dL tc) (he:∀fp s H,PE (cxComp X (own++fr) scope fp s H) dC te)
  (hs:autoParam (∀x,Os iter X.env x=pure x) zA2._auto_1):PE X (.ListComp dC [⟨tg,iter,dL,0⟩] scope pos) (AFn own ix wi g tc te):=by
 intro aa s σ H Q I h;have ok:=CompOk.of (ho ▸ hok);rw[eval_ListComp];refine OY (use:=uB) rfl hs (ACN (Pr I ok)) ok.kind ok.loc (thn (bq aa s σ H _ I h) λxv s₁ h₁=>thn h₁ λitv s₂ h₂=>?_);obtain⟨it,fp,tn,J,H2,rfl,I2,T,bb,f2,hq⟩:=h₂;refine thn (Tp (R:=Q) hc ok oj hg hi he I2 T bb f2 hq) λacc s₃ h₃=>thn h₃ λsL s₄ h₄=>FU h₄ λr s' hq=>?_;obtain⟨hr,v,rv,H',m,I',hn,r8,q⟩:=hq;subst hr;exact⟨m,hn,λh' sb=>⟨v,H',I'.sameBut r8 sb,rv,q⟩⟩
set_option tactic.hygienic true in
theorem JM{sV:Pos}(fh:F9)(own fr:uU)(ix:uL)(hN:X.N.Nodup)(hx:X.N[i]?=uA x)(hl:Loc X.env.scope x)(hc:X.calm=true)(ho:X.env.scope=fh)(hok:compOk fh scope=true)(oj:FreeAt X scope fr ix)(bq:PI X tg iter wi)
  (hg:∀fp s H,PG (cxComp X (own++fr) scope fp s H) tg g) (hi:∀fp s H,PIfs (cxComp X (own++fr) scope fp s H) dL tc) (he:∀fp s H,PE (cxComp X (own++fr) scope fp s H) dC te)
  (hsw:autoParam (MC (.ListComp dC [⟨tg,iter,dL,0⟩] scope pos) (uA (.Name x bg)) sV.line X.env=pure true) zA0._auto_1) (hs:autoParam (∀x,Os iter X.env x=pure x) zA2._auto_1)
  (hf:autoParam (X.fn x=true\/X.env.scope.names.lookup x=uA .local) zB1._auto_1) :
  PS X (.Assign [.Name x bg] (.ListComp dC [⟨tg,iter,dL,0⟩] scope pos) sV) (AFL (AFn own ix wi g tc te) (gName i)):=by
 intro aa s σ H D I h;have ok:=CompOk.of (ho ▸ hok);rw[exec_Assign_Name_used _ _ _ _ hsw];refine Au (RR (Au ?_));refine Au (EK (OY (use:=uA (SC (.Name x bg) X.env)) (Q:=λ_ s'=>SP X aa D .next s') rfl hs (ACN (Pr I ok)) ok.kind ok.loc
  (thn (bq aa s σ H _ I h) λxv s₁ h₁=>thn h₁ λitv s₂ h₂=>?_)) (λ_ s' hq=>AC (AC hq)) λ_ _ e=>e)
 obtain⟨it,fp,tn,J,H2,rfl,I2,T,bb,f2,hq⟩:=h₂;refine thn (Tp (R:=λv H'=>D.nx (σ.set i (uA v)) H') hc ok oj hg hi he I2 T bb f2 hq) λacc s₃ h₃=>thn h₃ λsL s₄ h₄=>FU h₄ λr s' hq=>?_;obtain⟨hr,v,rv,H',m,I',hn,r8,q⟩:=hq;subst hr;refine To (Ph I' hN hx hl rv (λtW I'' gz=>?_) hf);obtain⟨a,sb,ha⟩:=gz;have hCa:sL.locals≠a:=by
  rcases ha with z| z
  .rw[z];exact r8.2.1
  .exact λe=>r8.2.2.2.2.1 x a z e.symm
 exact⟨m,hn.sameBut sb hCa,λh' sb'=>⟨_,H',I''.sameBut r8 sb',q⟩⟩
end
theorem Ja{items}{x:As}(bq:s.heap.IsTupleIter it l i)
  (hl:s.heap.IsTuple l items) (hx:items[i]?=uA x)
  (hQ:∀h',h'.IsTupleIter it l (i+1)->EZ it s.heap h'->Q x {s with heap:=h'}) :
  wpAny (AM prog w) A (IH (.ref it)) Q E s:=by
 obtain⟨o,ho,hc,hd⟩:=id bq;obtain⟨ol,gX,_,nl,rE⟩:=hl;unfold IH;refine Au (wpAny_callSpecial?_slot (name:=KG "__next__") bq.typeIs ID
  (D1 ID bq.typeIs NX ?_ (NE _)))
 show wpAny _ _ (field (.ref it) 0 >>= _) _ _ s;refine Au (P5 ho hd (x:=.ref l) rfl ?_);rw[uC (show ¬ ((A7 l==DE)=true) from Be)];refine Au (P5 ho hd (x:=.int i 0) rfl ?_);refine Au (KI gX rE ?_);simp only[Cc,hx];refine Au (IQ ho hd (by simp) (AC ⟨x,rfl,AC (hQ _ ?_ (D9 ..))⟩));exact⟨_,EM _ ho (KL (Fk hd _)),(L4 ..).trans hc,by
  rw[Fk hd];simp[Hm]⟩
theorem Jd{items}(hh:A.handled=uB)
  (bq:s.heap.IsTupleIter it l i) (hl:s.heap.IsTuple l items) (hx:items[i]?=uB)
  (hE:∀h' e,TW it s.heap h'->(∃o,h'.get? e=uA o/\o.cls=.type "StopIteration")->E (.ref e) {s with heap:=h'}) :
  wpAny (AM prog w) A (IH (.ref it)) Q E s:=by
 obtain⟨o,ho,hc,hd⟩:=id bq;obtain⟨ol,gX,_,nl,rE⟩:=hl;unfold IH;refine Au (wpAny_callSpecial?_slot (name:=KG "__next__") bq.typeIs ID
  (D1 ID bq.typeIs NX ?_ (NE _)))
 show wpAny _ _ (field (.ref it) 0 >>= _) _ _ s;refine Au (P5 ho hd (x:=.ref l) rfl ?_);rw[uC (show ¬ ((A7 l==DE)=true) from Be)];refine Au (P5 ho hd (x:=.int i 0) rfl ?_);refine Au (KI gX rE ?_);simp only[Cc,hx];refine Au (IJ (Au (IQ ho hd (by simp) ?_)));refine Au ?_;refine Au (DS ?_ (by size_fits));refine Au (m:=KM _ _) (Me (a:=DE) (by first| rfl| (simp only[KM];rfl)) ?_);refine DS ?_ (by size_fits);refine Au (R6 ?_)
 first| rw[show A.in1.handled=uB from hh]| rw[hh]
 refine Au (AC (TZ ?_));exact hE _ _ (((D9 ..).extBut.push _).push _) ⟨_,AU _ rfl,rfl⟩
theorem Tc(hh:A.handled=uB)(it l:Addr)(dQ:l≠it)(items:Array As) :
  Draws prog w A it [it,l] items.size (λi v=>items[i]?=uA v) (λi h=>h.IsTupleIter it l i/\h.IsTuple l items) where
 live:=λ_ _ st=>by obtain⟨o,ho,_⟩:=st.1;exact⟨o,ho⟩
 frame:=λ_ _ _ st hk=>⟨st.1.at λo e=>hk it (by simp) o e,st.2.at λo e=>hk l (by simp) o e⟩
 item:=λi s Q E hi st hQ=>by
  refine Ja st.1 st.2 (x:=items[i]) (by simp[hi]) λh' fz om=>?_;exact hQ _ h' s.toks (by simp[hi]) ⟨fz,st.2.extBut om.extBut dQ⟩ om
 done:=λs Q E st hE=>Jd hh st.1 st.2 (by simp) hE
section
open AutoSeq1 (wpAny_loadPart')
set_option tactic.hygienic true in
theorem Gv(l:Addr)(items:Array As)(n:Nat)(dct:Option Addr)(sl:Array (Option As)) :
  Meets (Builtin.«enumerate.__new__» ⟨[.type "enumerate",.ref l],[]⟩) (λ_ R s=>s.heap.get? l=uA {cls:=.type "tuple",dict:=dct,data:=.seq items n,slots:=sl} /\
   R (.ok (.ret (.ref (s.heap.push {cls:=.type "tuple_iterator",data:=.fields #[.ref l,.int 0 0]}).objs.size)))
    {s with heap:=(s.heap.push {cls:=.type "tuple_iterator",data:=.fields #[.ref l,.int 0 0]}).push {cls:=.type "enumerate",data:=.fields #[.none,.bool false,.ref s.heap.objs.size,Hm 0,.none,.none]}}) :=
 .of_wp λprog w A R s h=>by
  obtain⟨hp,g,d,tk,os⟩:=s;obtain⟨hl,h⟩:=h;have pV:=sub_enumerate;have hL:Heap.IsTuple (Shared.heap ⟨hp,g,d,tk,os⟩) l items:=⟨_,hl,rfl,n,rfl⟩
  wp_walk using wpAny_loadPart' hl
  refine wpAny_stack_any λst=>AC ?_;split
  .rename_i c _ _ _ _ _
   cases (c==DU "enumerate")
   .wp_walk using wpAny_loadPart' hl,LF hL
    exact⟨_,rfl,h⟩
   .wp_walk using wpAny_loadPart' hl,LF hL
    exact⟨_,rfl,h⟩
  .wp_walk using wpAny_loadPart' hl,LF hL
   exact⟨_,rfl,h⟩
end
theorem Gz(hL:s.heap.IsTuple l items)
  (h:∀h',SK h' (s.heap.objs.size+1) s.heap.objs.size 0 .none->h'.IsTupleIter s.heap.objs.size l 0->h'.objs.size=s.heap.objs.size+2 ->
   (∀b o,s.heap.get? b=uA o->h'.get? b=uA o)->Q (.ref (s.heap.objs.size+1)) {s with heap:=h'}) :
  wpAny (AM prog w) A (call (.type "enumerate") [.ref l]) Q E s:=by
 obtain⟨⟨c,dct,dt,sl⟩,hl,hc,n,hd⟩:=hL
 replace hc:c=.type "tuple":=hc
 replace hd:dt=.seq items n:=hd
 subst hc hd;refine callType_new F.called_enumerate (by decide) (F.typeCall_enumerate_1 _) (F.newCall_enumerate_1 _) (λobj=>F.args_object_init_2 obj _) F.entry_enumerate_new
  (Gv l items n dct sl) ⟨hl,?_⟩
 have hz:(s.heap.push {cls:=.type "tuple_iterator",data:=.fields #[.ref l,.int 0 0]}).objs.size=s.heap.objs.size+1:=FB ..;rw[hz];have he:SK ((s.heap.push {cls:=.type "tuple_iterator",data:=.fields #[.ref l,.int 0 0]}).push
   {cls:=.type "enumerate",data:=.fields #[.none,.bool false,.ref s.heap.objs.size,Hm 0,.none,.none]}) (s.heap.objs.size+1) s.heap.objs.size 0 .none:=by
  have:=AU (s.heap.push {cls:=.type "tuple_iterator",data:=.fields #[.ref l,.int 0 0]})
   (o:={cls:=.type "enumerate",data:=.fields #[.none,.bool false,.ref s.heap.objs.size,Hm 0,.none,.none]}) rfl
  rw[hz] at this;exact this
 refine⟨⟨_,he,rfl⟩,h _ he ⟨_,AJ _ (AU _ rfl),rfl,rfl⟩ (by rw[FB,hz]) λb o x=>AJ _ (AJ _ x)⟩
theorem Inv.walked(I:Inv X aa σ H s)(k:∀b o,b∉wr->s.heap.get? b=uA o->h'.get? b=uA o)(hf:∀b∈wr,FpOk X aa H b):Inv X aa σ H {s with heap:=h',toks:=t'}:=by
 have sQ:∀b u,H b=uA u->b∉wr:=λb u e z=>by rw[(hf b z).1] at e;cases e
 refine I.step (g':=s.gens) (d':=s.drawn) (ch:=wr) (λb hb=>?_) (λb o _ _ hc e _=>k b o hc e) (λb o _ _ hc e _=>⟨o.slots,k b o hc e⟩) (λ_ _ _ _ n=>n)
  (λb o hc e=>⟨o,k b o hc e⟩) (λ_ _ e=>e) (λ_ _ _ e=>e) (λb ps e=>⟨#[],by rw[e];simp⟩) (λm hm=>?_) (λb u e=>?_) I.bare
 .obtain⟨f0,f1,f2,f3,f4,f5⟩:=hf b hb
  exact⟨f3,f1,f4,f5⟩
 .obtain⟨o,es,ep,ho,r⟩:=hm
  exact⟨o,es,ep,k _ o (λz=>(hf _ z).2.1 rfl) ho,r⟩
 .refine(I.hok b u e).stay (λc v hc q=>k c v ?_ q) (λ_ q=>q) λ_ _ q=>q
  rcases hc with z| z
  .rw[z];exact sQ b u e
  .exact sQ c _ z
theorem Inv.track{o:HO}(I:Inv X aa σ H s)(f:FpOk X aa H a)(new:ObjOk X.prog X.w (upd H a o) s.heap a o):Inv X aa σ (upd H a o) s:=by
 obtain⟨f0,f1,f2,f3,f4,f5⟩:=f;have ne:∀b u,H b=uA u->b≠a:=λb u e z=>by rw[z,f0] at e;cases e
 obtain⟨hh,g,d,t,os⟩:=s;refine I.step (h':=hh) (g':=g) (d':=d) (t':=t) (ch:=[a]) (λb hb=>?_) (λb o _ _ _ e _=>e) (λb o _ _ _ e _=>⟨o.slots,e⟩) (λb o hc _ n=>?_) (λb o _ e=>⟨o,e⟩)
  (λb xs e=>?_) (λb u xs e=>?_) (λb ps e=>⟨#[],?_⟩) (λm hm=>hm) (λb u e=>?_) I.bare
 .have e:b=a:=by simpa using hb
  subst e;exact⟨f3,f1,f4,f5⟩
 .rw[Af (λz=>hc (by simp[z]))];exact n
 .rw[Af (ne b _ e)];exact e
 .rw[Af (ne b _ e)];exact e
 .rw[Af (ne b _ e),e];simp
 .by_cases hb:b=a
  .subst hb;rw[Ab] at e;cases e;exact new
  .rw[Af hb] at e
   exact(I.hok b u e).stay (λ_ _ _ q=>q) (λc q=>by rw[Af (ne c _ q)];exact q) λc xs q=>by rw[Af (ne c _ q)];exact q
def Ien(S:Hp->List V->Prop):It :=
 ⟨λi H=>∃xs x,S H xs/\xs[i]?=uA x,λi H v H'=>∃T x,v=.ref T/\H T=uB/\H'=upd H T (.tup [.int i,x])/\∀xs,S H xs->xs[i]?=uA x,λi H=>∃xs,S H xs/\xs.length=i⟩
theorem PL{k:Nat}{S:Hp->List V->Prop}{e l:Addr}{St0:Nat->Heap->Prop}
  (nc:e≠it)
  (obj:∀i h,St0 i h->∃o,h.get? it=uA o/\∀v,o.data≠.cell v)
  (keep:∀i h h',St0 i h->(∀o,h.get? it=uA o->h'.get? it=uA o)->St0 i h')
  (drw:∀(X:Cx),X.prog=P->X.w=w->X.K=K->X.calm=true->∀(i:Nat) (aa:uQ) (s:AA) (σ:St) (H:Hp) (xs:List V),Inv X aa σ H s->St0 i s.heap->(∃b6,SK s.heap e it i b6)->S H xs ->
   ∃(ag:List As) (fp:uY) (St:Nat->Heap->Prop),Vals xs ag/\Draws P w X.A.in1 it fp ag.toArray.size (λi v=>ag.toArray[i]?=uA v) St/\St i s.heap/\e∉fp/\it∈fp/\(∀j h,St j h->St0 j h))
  (inj:∀(X:Cx),X.K=K->∀(aa:uQ) (s:AA) (σ:St) (H:Hp) (xs ys:List V),Inv X aa σ H s->S H xs->S H ys->xs=ys) :
  Turn P w K (.Tuple df k tp) (Ien S) [e,it] e (λi h=>(∃b6,SK h e it i b6)/\St0 i h) where
 mem:=by simp
 obj:=λi h st b hb=>by
  obtain⟨⟨b6,he⟩,hs⟩:=st;rcases BH.mp hb with rfl| hb
  .exact⟨_,he,λv z=>by
    have z':=z;cases z'⟩
  .have e1:b=it:=by simpa using hb
   subst e1;exact obj i h hs
 keep:=λi h h' st k=>⟨by obtain⟨b6,he⟩:=st.1;exact⟨b6,k e (by simp) _ he⟩,keep i h h' st.2 λo q=>k it (by simp) o q⟩
 item:=by
  intro X hP hw hK hc i aa s σ H E I hf st hg;obtain⟨xs,x,hq,hx⟩:=hg;obtain⟨ag,fp,St,rv,Dr,dk,hef,hif,ma⟩:=drw X hP hw hK hc i aa s σ H xs I st.2 st.1 hq;subst hP hw;obtain⟨u,hu,ru⟩:=rv.get hx;have hi:i<ag.toArray.size:=by rw[AT];exact(AH.mp hu).1
  have lw:ag.toArray[i]?=uA u:=by simpa using hu
  have WT:=Tx Dr e nc hef hif;refine WT.item i s _ _ hi ⟨st.1,dk⟩ λT vals h' tk hPt hsz hT rT hk=>⟨.ref T,rfl,?_⟩;obtain⟨t,y,hy,rfl⟩:=hPt;have hTw:=WT.apart i T _ rT;rw[lw] at hy;have hy':=AN hy;subst hy';have hwr:=hf;have I1:Inv X aa σ H {s with heap:=h',toks:=tk}:=I.walked hk hwr;have hTn:=I.hok.fresh hsz;have I2:Inv X aa σ (upd H T (.tup [.int i,x])) {s with heap:=h',toks:=tk}:=by
   refine I1.track (I.fpOk hsz hTn) ⟨by show 2<=sizeLine;decide,[.int i t,u],.cons ⟨t,rfl⟩ (.cons ru .nil),?_⟩;exact hT
  have tJ:∀b∈[e,it],FpOk X aa (upd H T (.tup [.int i,x])) b:=λb hb=>by
   obtain⟨f0,fr⟩:=hf b hb;have ne:b≠T:=λz=>hTw (by rw[<- z];exact hb);exact⟨by rw[Af ne];exact f0,fr⟩
  refine WT.go df k tp i T _ _ _ rT λh'' ot hk''=>?_;refine⟨.ref T,_,I2.walked (t':=tk) hk'' tJ,rfl,⟨T,x,rfl,hTn,rfl,λys hy=>by rw[inj X hK aa s σ H ys xs I hy hq];exact hx⟩,⟨ot.1,ma _ _ ot.2⟩,λb hb=>(tJ b hb).1⟩
 done:=by
  intro X hP hw hK hc i aa s σ H E I hf st hg;obtain⟨xs,hq,hx⟩:=hg;obtain⟨ag,fp,St,rv,Dr,dk,hef,hif,ma⟩:=drw X hP hw hK hc i aa s σ H xs I st.2 st.1 hq;subst hP hw;have hl:=rv.length;have hi:i=ag.toArray.size:=by rw[AT];lia
  subst hi;exact(Tx Dr e nc hef hif).done s _ _ ⟨st.1,dk⟩ λh' tk hk=>⟨rfl,I.walked hk hf⟩
 self:=λA i s Q E st h=>by
  obtain⟨⟨b6,he⟩,_⟩:=st;exact OA he h
theorem QM{u:Obj}(ha:h.get? a=uA o)(hb:h.get? b=uA u)(hc:o.cls≠u.cls):a≠b:=λe=>by
 subst e;rw[ha] at hb;cases hb;exact hc rfl
theorem Wd{k:Nat}{e:Addr}(nc:e≠it) :
  Turn P w K (.Tuple df k tp) (Ien λH xs=>SqL K H a xs) [e,it] e (λi h=>(∃b6,SK h e it i b6)/\h.IsListIter it a i):=by
 refine PL (l:=a) nc (λi h st=>?_) (λi h h' st k=>st.at k) (λX hP hw hK hc i aa s σ H xs I st he hq=>?_) (λX hK aa s σ H xs ys I h1 h2=>?_)
 .obtain⟨o,e,c,d⟩:=st
  exact⟨o,e,λv z=>by rw[d] at z;cases z⟩
 .subst hP hw hK
  obtain⟨ag,rv,p,hz⟩:=I.list hq;obtain⟨b6,he⟩:=he;obtain⟨ol,nl,gX,gN,_,_⟩:=id p;obtain⟨oi,m4,rP,_⟩:=id st;have h1:a≠it:=QM gX m4 (by rw[gN,rP];decide);have h2:e≠a:=QM he gX (by rw[gN];show DU "enumerate"≠DU "list";decide);exact⟨ag,[it,a],_,rv,Draws.list (A:=X.A.in1) (I.ok.hd hc) it a h1 ag.toArray,⟨st,p.isList⟩,by simp[nc,h2],by simp,λj h z=>z.1⟩
 .subst hK
  exact I.list_inj h1 h2
theorem Wc{k:Nat}{e:Addr}(nc:e≠it) :
  Turn P w K (.Tuple df k tp) (Ien λH xs=>SqT K H a xs) [e,it] e (λi h=>(∃b6,SK h e it i b6)/\h.IsTupleIter it a i):=by
 refine PL (l:=a) nc (λi h st=>?_) (λi h h' st k=>st.at k) (λX hP hw hK hc i aa s σ H xs I st he hq=>?_) (λX hK aa s σ H xs ys I h1 h2=>?_)
 .obtain⟨o,e,c,d⟩:=st
  exact⟨o,e,λv z=>by rw[d] at z;cases z⟩
 .subst hP hw hK
  obtain⟨ag,rv,p,hz⟩:=I.tuple hq;obtain⟨b6,he⟩:=he;obtain⟨ol,gX,gN,_⟩:=id p;obtain⟨oi,m4,rP,_⟩:=id st;have h1:=QM gX m4 (by rw[gN,rP];decide);have h2:=QM he gX (by rw[gN];show DU "enumerate"≠DU "tuple";decide);exact⟨ag,[it,a],_,rv,Tc (A:=X.A.in1) (I.ok.hd hc) it a h1 ag.toArray,⟨st,p⟩,by simp[nc,h2],by simp,λj h z=>z.1⟩
 .subst hK
  exact I.tuple_inj h1 h2
section
variable{k:Nat}
def AIJ(K:Ap)(ta:TA):TI:=λσ H R=>ta σ H λvs H1=>∃a,vs=[.ref a]/\(∃xs,SqL K H1 a xs)/\R (Ien λH xs=>SqL K H a xs) H1
def AHy(K:Ap)(ta:TA):TI:=λσ H R=>ta σ H λvs H1=>∃a,vs=[.ref a]/\(∃xs,SqT K H1 a xs)/\R (Ien λH xs=>SqT K H a xs) H1
theorem HY{l:Expr}{ta:TA}{p:Pos}(hg:Gl X "enumerate")(hm:X.mg "enumerate" = uB)(ha:PA X [l] ta)(hs:autoParam (CI [l] X.env=[(false,eval l X.env)]) zA0._auto_1) :
  PI X (.Tuple df k tp) (.Call (.Name "enumerate" p) [l] [] pos) (AIJ X.K ta):=by
 intro aa s σ H R I h;refine W1 (Fb I hg hm V4 (Ee (thn (ha pos aa s σ H _ I h) λus s1 hq=>?_) hs rfl));obtain⟨vs,H1,I1,r1,q1⟩:=hq;obtain⟨a,rfl,⟨xs,hq⟩,q⟩:=q1;obtain⟨u,rfl,ru⟩:=r1.one;cases ru;obtain⟨ag,rv,pl,hz⟩:=I1.list hq;refine call_enumerate_list pl.isList λh' he bq hsz hk=>OA he ?_;have I2:Inv X aa σ H1 {s1 with heap:=h'}:=I1.kept (t':=s1.toks) hk;refine⟨s1.heap.objs.size+1,[s1.heap.objs.size+1,s1.heap.objs.size],_,_,H1,rfl,I2,Wd (UK _),⟨⟨_,he⟩,bq⟩,λb hb=>?_,q⟩;have e:s1.heap.objs.size<=b:=by
  rcases BH.mp hb with rfl| hb
  .exact L9 _
  .rw[BG.mp hb];exact AF _
 exact I1.fpOk e (I1.hok.fresh e)
theorem Vb{l:Expr}{ta:TA}{p:Pos}(hg:Gl X "enumerate")(hm:X.mg "enumerate" = uB)(ha:PA X [l] ta)(hs:autoParam (CI [l] X.env=[(false,eval l X.env)]) zA0._auto_1) :
  PI X (.Tuple df k tp) (.Call (.Name "enumerate" p) [l] [] pos) (AHy X.K ta):=by
 intro aa s σ H R I h;refine W1 (Fb I hg hm V4 (Ee (thn (ha pos aa s σ H _ I h) λus s1 hq=>?_) hs rfl));obtain⟨vs,H1,I1,r1,q1⟩:=hq;obtain⟨a,rfl,⟨xs,hq⟩,q⟩:=q1;obtain⟨u,rfl,ru⟩:=r1.one;cases ru;obtain⟨ag,rv,pl,hz⟩:=I1.tuple hq;refine Gz pl λh' he bq hsz hk=>OA he ?_;have I2:=I1.kept (t':=s1.toks) hk;refine⟨s1.heap.objs.size+1,[s1.heap.objs.size+1,s1.heap.objs.size],_,_,H1,rfl,I2,Wc (UK _),⟨⟨_,he⟩,bq⟩,λb hb=>?_,q⟩;have e:s1.heap.objs.size<=b:=by
  rcases BH.mp hb with rfl| hb
  .exact L9 _
  .rw[BG.mp hb];exact AF _
 exact I1.fpOk e (I1.hok.fresh e)
end
theorem Iu{g:TG}{R:Hp->Prop}(n:Nat)(Pv:Nat->St->Hp->Prop)(h0:Pv 0 τ H)(hgo:∀i τ H,i<n->Pv i τ H->J.go i H)(iP:∀τ H,Pv n τ H->J.stop n H)
  (hs:∀i τ H x H',i<n->Pv i τ H->J.yld i H x H'->g x τ H' λτ2 H2=>tc τ2 H2 λb H3=>if b=true then te τ2 H3 λv H4=>∃ys,H4 D=uA (.lst ys)/\ys.length<sizeLine/\Pv (i+1) τ2 (upd H4 D (.lst (ys++[v]))) else Pv (i+1) τ2 H3)
  (hd:∀τ H,Pv n τ H->R H):Gk J D g tc te R τ H:=by
 refine⟨λi m τ H=>m=n-i/\i<=n/\Pv i τ H,⟨n,by simp,AY _,h0⟩,?_⟩;rintro i m τ H ⟨rfl,hi,p⟩;by_cases bj:i<n
 .exact .inr ⟨hgo i τ H bj p,Pv (i+1),λτ' H' p'=>⟨n-(i+1),vU bj,rfl,bj,p'⟩,λx H' y=>hs i τ H x H' bj p y⟩
 .have e:i=n:=vG hi bj
  subst e;exact .inl ⟨iP τ H p,hd τ H p⟩
theorem AFx{g:TG}{D:Ends}(n:Nat)(Pv:Nat->St->Hp->Prop)(h0:Pv 0 σ H)(hgo:∀i σ H,i<n->Pv i σ H->J.go i H)(iP:∀σ H,Pv n σ H->J.stop n H)
  (hs:∀i σ H x H',i<n->Pv i σ H->J.yld i H x H'->g x σ H' λσ2 H2=>tb {D with nx:=Pv (i+1),ct:=Pv (i+1),bk:=D.nx} σ2 H2) (hd:∀σ H,Pv n σ H->D.nx σ H) :
  ∃W:Nat->Nat->St->Hp->Prop,(∃m,W 0 m σ H)/\∀i m σ H,W i m σ H ->
   (J.stop i H/\D.nx σ H)\/(J.go i H/\∃N:St->Hp->Prop,(∀σ' H',N σ' H'->∃m',m'<m/\W (i+1) m' σ' H')/\∀x H',J.yld i H x H'->g x σ H' λσ2 H2=>tb {D with nx:=N,ct:=N,bk:=D.nx} σ2 H2):=by
 refine⟨λi m σ H=>m=n-i/\i<=n/\Pv i σ H,⟨n,by simp,AY _,h0⟩,?_⟩;rintro i m σ H ⟨rfl,hi,p⟩;by_cases bj:i<n
 .exact .inr ⟨hgo i σ H bj p,Pv (i+1),λσ' H' p'=>⟨n-(i+1),vU bj,rfl,bj,p'⟩,λx H' y=>hs i σ H x H' bj p y⟩
 .have e:i=n:=vG hi bj
  subst e;exact .inl ⟨iP σ H p,hd σ H p⟩
theorem Nr{Q:List As->AA->Prop}(hl:s.heap.IsTuple l vs.toArray)
  (h:Q vs {s with heap:=(s.heap.push (E9 "list" #[] 0)).update s.heap.objs.size (DV (·++vs.toArray))}) (hsz:vs.length<=sizeLine:=by size_fits) :
  wpAny (AM prog w) A (QI (.ref l)) Q E s:=by
 obtain⟨o,ho,hc,n,hd⟩:=id hl;unfold QI;refine Au (NF (EE entry_proto_collect' ?_));refine Au (N5 (AC ⟨SL _ (by decide+kernel),EE entry_list_iadd' ?_⟩));show wpAny _ _ (HV (.ref s.heap.objs.size) (.ref l) (.ref s.heap.objs.size)) _ _ {s with heap:=s.heap.push (E9 "list" #[] 0)};unfold HV;have dA:(s.heap.push (E9 "list" #[] 0)).get? l=uA o:=AJ _ ho;refine Au (MW (T:="tuple") ⟨o,dA,hc⟩ ?_);have ht:(DU "tuple" == DU "tuple")=true:=by rfl
 rw[uD (by rw[ht];simp)];refine Au (OZ dA hd ?_);refine Au (OZ (xs:=#[]) (n:=0) (AU _ rfl) rfl ?_);rw[uC (by simp)];refine Au (N6 (xs:=#[]) (n:=0) (AU _ rfl) rfl ?_ (AY _) (by simp only[Array.size_append,AT,J2];lia));refine AC ?_;show wpAny (AM prog w) A (do
   let o <- load s.heap.objs.size
   match o.data with
   | .seq xs _=>pure xs.toList
   | _=>unsupported "internal:collect") Q E {s with heap:=(s.heap.push (E9 "list" #[] 0)).update s.heap.objs.size (DV (·++vs.toArray))}
 refine Au (Q5 (get?_update_seq (AU _ rfl) _) ?_);show wpAny _ _ (pure ((#[]:Array As)++vs.toArray).toList) Q E _;rw[show((#[]:Array As)++vs.toArray).toList=vs by simp];exact AC h
theorem Ro(hl:s.heap.IsTuple l vs.toArray)(hI:F5 vs ns)(rA:vs.length<64)
  (h:∀(out:Array As) (g7:uI),F5 out.toList g7->g7.Perm ns->g7.Pairwise (·<=·)->Q (.ref (s.heap.objs.size+1)) {s with heap:=sortedAll s.heap vs out}) :
  wpAny (AM prog w) A (call (.builtin "sorted") [.ref l]) Q E s:=by
 refine Lm kind_sorted plain_sorted entry_sorted (args_sorted1 _) ?_;unfold UM;refine Au (m:=checkCount "sorted" 1 1 _) (AC ?_);refine Au (Nr hl ?_ (by
                       have:(64:Nat)<=sizeLine:=by decide
                       exact wW rA this))
 refine Au (N5 ?_);have hsz:((s.heap.push (E9 "list" #[] 0)).update s.heap.objs.size (DV (·++vs.toArray))).objs.size=s.heap.objs.size+1:=by
  rw[Heap.size_update,size_push']
 have nE:(((s.heap.push (E9 "list" #[] 0)).update s.heap.objs.size (DV (·++vs.toArray))).push (E9 "list" vs.toArray 0)).get? (s.heap.objs.size+1)=uA (E9 "list" vs.toArray 0):=by
  rw[<- hsz];exact AU _ rfl
 rw[hsz];refine Au (EA (D1 V5 ⟨_,nE,rfl⟩ U5 (list_sort_tree nE hI rA λout g7 a1 a2 a3=>⟨_,rfl,?_⟩) (V6 _)));exact AC ⟨_,rfl,h out g7 a1 a2 a3⟩
def ADp(K:Ap):List V->Hp->VK->Prop:=λxs H Q=>∃(p:Addr) (ns:uI),xs=[.ref p]/\(SqL K H p (ns.map V.int)\/SqT K H p (ns.map V.int))/\ns.length<64/\∀(l:Addr) (ms:uI),H l=none->ms.Perm ns->ms.Pairwise (·<=·)->Q (.ref l) (upd H l (.lst (ms.map V.int)))
theorem RB:∀{us:List As}{ns:uI},F5 us ns->Vals (ns.map V.int) us:=by
 intro vs ns h
 induction h with
 | nil=>exact .nil
 | cons n t h ih=>exact .cons ⟨t,rfl⟩ ih
theorem Gm:CallR X (.builtin "sorted") (ADp X.K):=by
 intro aa s σ H xs us Q I r h;obtain⟨p,ns,rfl,hq,rA,q⟩:=h;obtain⟨u,rfl,ru⟩:=r.one;cases ru;have fin:∀(ag:List As) (out:Array As) (ms:uI),F5 out.toList ms->ms.Perm ns->ms.Pairwise (·<=·)->EP X aa σ Q (.ref (s.heap.objs.size+1)) {s with heap:=sortedAll s.heap ag out}:=λag out ms a1 a2 a3=>by
  obtain⟨e,he⟩:=sortedAll_at s.heap ag out;have hn:=I.hok.fresh (L9 _);have hv:=RB a1;have hms:=a2.length_eq;refine⟨.ref (s.heap.objs.size+1),_,I.laid (a:=s.heap.objs.size+1) (o:=.lst (ms.map V.int)) (t':=s.toks) (λb o=>sortedAll_old) (L9 _) ⟨?_,out.toList,e,hv,?_⟩,rfl,q _ ms hn a2 a3⟩
  .rw[AB,hms]
   exact BY (DB rA) (by decide)
  .rw[Re]
   exact he
 rcases hq with hq| hq
 .obtain⟨ag,rv,pl,hz⟩:=I.list hq
  have hl:=rv.length;rw[AB] at hl;exact sorted_ints pl.isList (intsAre_of rv) (we rA hl) λout ms a1 a2 a3=>fin ag out ms a1 a2 a3
 .obtain⟨ag,rv,pl,hz⟩:=I.tuple hq
  have hl:=rv.length;rw[AB] at hl;exact Ro pl (intsAre_of rv) (we rA hl) λout ms a1 a2 a3=>fin ag out ms a1 a2 a3
abbrev Rep(α:Type):=Hp->α->V->Prop
def rInt:Rep Int:=λ_ i v=>v=.int i
def rTup(K:Ap){α:Type}(R:Rep α):Rep (List α):=λH as v=>∃p xs,v=.ref p/\SqT K H p xs/\BI (R H) as xs
def rLst(K:Ap){α:Type}(R:Rep α):Rep (List α):=λH as v=>∃p xs,v=.ref p/\SqL K H p xs/\BI (R H) as xs
theorem Paired.get{F:α->β->Prop}:∀{l₁:List α}{l₂:List β}{i:Nat}{b:β},BI F l₁ l₂->l₂[i]?=uA b->∃a,l₁[i]?=uA a/\F a b
 | _,_,_,_,.nil,e=>by simp at e
 | _,_,0,_,.cons r _,e=>by simp at e;subst e;exact⟨_,rfl,r⟩
 | _,_,i+1,b,.cons _ t,e=>by
  obtain⟨a,h1,h2⟩:=Paired.get (i:=i) (b:=b) t (by simpa using e);exact⟨a,by simpa using h1,h2⟩
theorem uw{F:α->β->Prop}:∀{l₁:List α}{l₂:List β}{i:Nat}{a:α},BI F l₁ l₂->l₁[i]?=uA a->∃b,l₂[i]?=uA b/\F a b:=by
 intro l m i a h
 induction h generalizing i with
 | nil=>intro e;simp at e
 | cons r t ih =>
  intro e;cases i with
  | zero=>simp at e;subst e;exact⟨_,rfl,r⟩
  | succ i =>
   obtain⟨b,h1,h2⟩:=ih (i:=i) (by simpa using e);exact⟨b,by simpa using h1,h2⟩
theorem Paired.app{F:α->β->Prop}:∀{l₁ m₁:List α}{l₂ m₂:List β},BI F l₁ l₂->BI F m₁ m₂->BI F (l₁++m₁) (l₂++m₂):=by
 intro l l' m m' h s
 induction h with
 | nil=>exact s
 | cons r t ih=>exact .cons r ih
def u4:=@Paired.app
theorem Paired.one{F:α->β->Prop}{a:α}{b:β}(h:F a b):BI F [a] [b]:=.cons h .nil
def u5:=@Paired.one
theorem Paired.uniq{F:α->β->Prop}(fn:∀a a' b,F a b->F a' b->a=a'):∀{l₁ l₁':List α}{l₂:List β},BI F l₁ l₂->BI F l₁' l₂->l₁=l₁':=by
 intro l l' m h
 induction h generalizing l' with
 | nil=>intro h;cases h;rfl
 | cons r t ih=>intro h;cases h with| cons r' t'=>rw[fn _ _ _ r r',ih t']
theorem paired_ints{H:Hp}:∀(ns:uI),BI (rInt H) ns (ns.map V.int)
 | []=>.nil
 | _::r=>.cons rfl (paired_ints r)
theorem KJ:∀{ns:uI}{xs:List V},BI (rInt H) ns xs->xs=ns.map V.int:=by
 intro ns xs h
 induction h with
 | nil=>rfl
 | cons r t ih=>rw[B4,<- ih];exact congrArg (·::_) r
structure Dat(X:Cx){α:Type}[DecidableEq α](n:Nat)(R:Rep α):Prop where
 eq:∀(aa:uQ) (s:AA) (σ:St) (H:Hp) (A:BV) (a b:α) (x y:V) (u v:As),Inv X aa σ H s->A.units+n<C0->R H a x->R H b y->RelV x u->RelV y v->MT A s u v (decide (a=b))
 fn:∀(aa:uQ) (s:AA) (σ:St) (H:Hp) (a b:α) (x:V),Inv X aa σ H s->R H a x->R H b x->a=b
section
variable[DecidableEq α]{R:Rep α}
theorem CT:Dat X 0 rInt where
 eq:=λaa s σ H A a b x y u v I hu ha hb ru rv=>by
  cases ha;cases hb;obtain⟨t,rfl⟩:=ru;obtain⟨t',rfl⟩:=rv;have e:=LG (A:=A) (s:=s) a t b t';rw[ME] at e;exact e
 fn:=λaa s σ H a b x I ha hb=>by
  cases ha;exact(V.int.inj hb)
theorem Ip{as bs:List α}{k:Nat}(h1:as.length=m)(h2:bs.length=k):((AW (min m k)).all (λj=>decide (as[j]?=bs[j]?))&&m==k)=decide (as=bs):=by
 subst h1;subst h2;by_cases e:as=bs
 .subst e
  simp
 .rw[uF e]
  cases q:((AW (min as.length bs.length)).all (λj=>decide (as[j]?=bs[j]?))&&as.length==bs.length) with
  | false=>rfl
  | true =>
   rw[F0] at q;obtain⟨q1,q2⟩:=q;have hl:as.length=bs.length:=by simpa using q2
   refine uH (FG λj=>?_) e;by_cases hj:j<as.length
   .exact uG (EW.mp q1 j (A8.mpr (by lia)))
   .rw[Ev (uR hj),Ev (by lia)]
theorem SQ{as bs:List α}(h1:as.length=m)(h2:bs.length=m):((AW m).all (λj=>decide (as[j]?=bs[j]?)))=decide (as=bs):=by
 have e:=Ip h1 h2;rw[Nat.min_self,beq_self_eq_true,WI] at e;exact e
theorem Dat.place(D:Dat X n R)(I:Inv X aa σ H s)(hu:A.units+n<C0){as bs:List α}{gV:List As}
  (pa:BI (R H) as xs) (pb:BI (R H) bs ys) (ra:Vals xs ag) (rb:Vals ys gV):∀(j:Nat) (h1:j<ag.toArray.size) (h2:j<gV.toArray.size),MT A s ag.toArray[j] gV.toArray[j] (decide (as[j]?=bs[j]?)):=by
 intro j h1 h2;rw[AT] at h1 h2;have hx:j<xs.length:=by rw[ra.length];exact h1
 have hy:j<ys.length:=by rw[rb.length];exact h2
 have ex:=AI hx;have ey:=AI hy;obtain⟨u,qE,ru⟩:=ra.get ex;obtain⟨v,hv1,rv⟩:=rb.get ey;obtain⟨a,ha,qa⟩:=Paired.get pa ex;obtain⟨b,hb,qb⟩:=Paired.get pb ey;have e1:ag.toArray[j]=u:=by
  rw[Rl];rw[AI h1] at qE;exact AN qE
 have e2:gV.toArray[j]=v:=by
  rw[Rl];rw[AI h2] at hv1;exact AN hv1
 rw[e1,e2,ha,hb];have e3:decide (uA a=uA b)=decide (a=b):=by simp
 rw[e3];exact D.eq aa s σ H A a b _ _ u v I hu qa qb ru rv
theorem FN(D:Dat X n R):Dat X (n+1) (rTup X.K R) where
 eq:=λaa s σ H A as bs x y u v I hu ha hb ru rv=>by
  obtain⟨p,xs,rfl,hp,pa⟩:=ha;obtain⟨q,ys,rfl,hq,pb⟩:=hb;cases ru;cases rv;by_cases e:p=q
  .subst e
   have exy:=I.tuple_inj hp hq;subst exy;have eab:=Paired.uniq (λa a' b h1 h2=>D.fn aa s σ H a a' b I h1 h2) pa pb;subst eab;rw[uE rfl];exact MU _
  .obtain⟨ag,ra,ta,_⟩:=I.tuple hp
   obtain⟨gV,rb,tb,_⟩:=I.tuple hq;have l1:as.length=ag.toArray.size:=by rw[AT,<- ra.length];exact AV pa
   have l2:bs.length=gV.toArray.size:=by rw[AT,<- rb.length];exact AV pb
   have r:=SeqAt.RcAt.tuples (A:=A) (s:=s) (e:=λj=>decide (as[j]?=bs[j]?)) ta tb (uW hu) (D.place (A:=A.in1) I (by show A.units+1+n<C0;exact vF hu) pa pb ra rb);rw[Ip l1 l2] at r;exact .of_refs e r
 fn:=λaa s σ H as bs x I ha hb=>by
  obtain⟨p,xs,rfl,hp,pa⟩:=ha;obtain⟨q,ys,e,hq,pb⟩:=hb;cases e;have exy:=I.tuple_inj hp hq;subst exy;exact Paired.uniq (λa a' b h1 h2=>D.fn aa s σ H a a' b I h1 h2) pa pb
theorem Rz(D:Dat X n R)(I:Inv X aa σ H s)(hu:A.units+(n+1)<C0){q:Addr}{as bs:List α}
  (hp:SqL X.K H p xs) (hq:SqL X.K H q ys) (pa:BI (R H) as xs) (pb:BI (R H) bs ys):SeqAt.RcAt A s (.ref p) (.ref q) (decide (as=bs))/\SeqAt.RcNeAt A s (.ref p) (.ref q) (!decide (as=bs)):=by
 obtain⟨ag,ra,ta,_⟩:=I.list hp;obtain⟨gV,rb,tb,_⟩:=I.list hq;have l1:as.length=ag.toArray.size:=by rw[AT,<- ra.length];exact AV pa
 have l2:bs.length=gV.toArray.size:=by rw[AT,<- rb.length];exact AV pb
 by_cases hs:ag.toArray.size=gV.toArray.size
 .have r:=SeqAt.RcAt.lists (A:=A) (s:=s) (e:=λj=>decide (as[j]?=bs[j]?)) ta.isList tb.isList hs (uW hu) (D.place (A:=A.in1) I (by show A.units+1+n<C0;exact vF hu) pa pb ra rb)
  have r':=ZN (A:=A) (s:=s) (e:=λj=>decide (as[j]?=bs[j]?)) ta.isList tb.isList hs (uW hu) (D.place (A:=A.in1) I (by show A.units+1+n<C0;exact vF hu) pa pb ra rb);rw[SQ l1 (l2.trans hs.symm)] at r r';exact⟨r,r'⟩
 .have hb:(ag.toArray.size != gV.toArray.size)=true:=by simpa using hs
  have e:as≠bs:=λe=>hs (by rw[<- l1,<- l2,e]);rw[uF e];exact⟨SeqAt.RcAt.lists_lengths ta.isList tb.isList hb (uW hu),WJ ta.isList tb.isList hb (uW hu)⟩
def rEqL(K:Ap){α:Type}[DecidableEq α](R:Rep α):R2:=λx y H Q=>∃as bs,rLst K R H as x/\rLst K R H bs y/\Q (.bl (decide (as=bs))) H
def rNeL(K:Ap){α:Type}[DecidableEq α](R:Rep α):R2:=λx y H Q=>∃as bs,rLst K R H as x/\rLst K R H bs y/\Q (.bl (!decide (as=bs))) H
theorem Kz(D:Dat X n R)(hu:X.A.units+(n+1)<C0):OpR X (ED .Eq) (rEqL X.K R):=by
 intro aa s σ H x y v u Q I rx ry h;obtain⟨as,bs,⟨p,xs,rfl,hp,pa⟩,⟨q,ys,rfl,hq,pb⟩,h⟩:=h;cases rx;cases ry;exact(Rz D I hu hp hq pa pb).1 X.prog X.w _ _ ⟨.bl _,H,I,rfl,h⟩
theorem Ie(D:Dat X n R)(hu:X.A.units+(n+1)<C0):OpR X (ED .NotEq) (rNeL X.K R):=by
 intro aa s σ H x y v u Q I rx ry h;obtain⟨as,bs,⟨p,xs,rfl,hp,pa⟩,⟨q,ys,rfl,hq,pb⟩,h⟩:=h;cases rx;cases ry;exact(Rz D I hu hp hq pa pb).2 X.prog X.w _ _ ⟨.bl _,H,I,rfl,h⟩
open Classical in
noncomputable def isDat(R:Rep α)(H:Hp)(a:α)(u:As):Bool:=decide (∃z,RelV z u/\R H a z)
theorem Mu(D:Dat X n R)(I:Inv X aa σ H s){a b:α}{z:V}(rz:RelV z u)(hb:R H b z):isDat R H a u=decide (b=a):=by
 unfold isDat;by_cases e:b=a
 .subst e
  rw[uE rfl];exact @decide_eq_true _ (FE _) ⟨z,rz,hb⟩
 .rw[uF e]
  refine @decide_eq_false _ (FE _) ?_;rintro⟨z',rz',h'⟩;have ez:=rz'.inj rz;subst ez;exact e (D.fn aa s σ H b a z' I hb h')
theorem Yx(D:Dat X n R)(I:Inv X aa σ H s){a:α}:∀{as:List α}{xs:List V}{ag:List As},BI (R H) as xs->Vals xs ag->ag.any (isDat R H a)=decide (a∈as):=by
 intro as xs ag h hv
 induction h generalizing ag with
 | nil=>cases hv;simp
 | @cons b _ as _ r t ih =>
  cases hv with
  | cons rv tv =>
   rw[JU,Mu D I rv r,ih tv];by_cases e:b=a
   .subst e;simp
   .have e':¬ a=b:=λz=>e z.symm
    simp[e,e']
theorem Kf(D:Dat X n R){aa:uQ}{s:AA}{σ:St}{H:Hp}{A:BV}(I:Inv X aa σ H s)(hu:A.units+n<C0){a:α}{x:V}{v:As}(rx:RelV x v)(ha:R H a x) :
  ∀{as:List α}{xs:List V}{ag:List As},BI (R H) as xs->Vals xs ag->∀u∈ag,MT A s u v (isDat R H a u)
 | _,_,_,.nil,.nil=>λu hm=>by cases hm
 | _,_,_,.cons r t,.cons rv tv=>λu hm=>by
  rcases BH.mp hm with rfl| hm
  .rw[Mu D I rv r]
   exact D.eq aa s σ H A _ a _ x _ v I hu r ha rv rx
  .exact Kf D I hu rx ha t tv u hm
def rInL(K:Ap){α:Type}[DecidableEq α](R:Rep α)(neg:Bool):R2:=λx y H Q=>∃a as,R H a x/\(rLst K R H as y\/rTup K R H as y)/\Q (.bl (if neg then !decide (a∈as) else decide (a∈as))) H
theorem ABj(D:Dat X n R)(hu:X.A.units+(n+1)<C0):OpR X (ED .In) (rInL X.K R false):=by
 intro aa s σ H x y v u Q I rx ry h;obtain⟨a,as,ha,hs,h⟩:=h;have qE:X.A.in1.units+n<C0:=by show X.A.units+1+n<C0;exact vF hu
 rcases hs with⟨p,xs,rfl,hp,pa⟩| ⟨p,xs,rfl,hp,pa⟩
 .cases ry
  obtain⟨ag,r,pl,_⟩:=I.list hp;refine U0 (isDat R H a) pl.isList (λw hw=>Kf D I qE rx ha pa r w (by simpa using hw)) ⟨.bl _,H,I,rfl,?_⟩;rw[show ag.toArray.any (isDat R H a)=ag.any (isDat R H a) by simp,Yx D I pa r];exact h
 .cases ry
  obtain⟨ag,r,pl,_⟩:=I.tuple hp;refine UI (isDat R H a) pl (λw hw=>Kf D I qE rx ha pa r w (by simpa using hw)) ⟨.bl _,H,I,rfl,?_⟩;rw[show ag.toArray.any (isDat R H a)=ag.any (isDat R H a) by simp,Yx D I pa r];exact h
end
def TSm(H H':Hp):Prop:=∀b u,H b=uA u->(∃xs,u=.tup xs\/∃o,u=.frz o (.tup xs))->H' b=uA u
theorem TSm.trans(a:TSm H H1)(b:TSm H1 H2):TSm H H2:=λc u h t=>b c u (a c u h t) t
theorem Same.ts(e:Same H H'):TSm H H':=λb u h _=>e b u h
theorem TSm.lst{o:HO}(h:H l=uA (.lst xs)):TSm H (upd H l o):=λb u hb t=>by
 rw[Af ?_]
 .exact hb
 .rintro rfl
  rw[h] at hb;cases hb;obtain⟨ys,e| ⟨o,e⟩⟩:=t
  .cases e
  .cases e
def u6:=@TSm.lst
theorem TSm.new{o:HO}(h:H p=uB):TSm H (upd H p o):=λb u hb _=>by rw[Af (Ae hb h)];exact hb
theorem TSm.seq(e:TSm H H')(h:SqT K H a xs):SqT K H' a xs:=by
 rcases h with(h| ⟨o,h⟩)| h
 .exact .inl (.inl (e _ _ h ⟨xs,.inl rfl⟩))
 .exact .inl (.inr ⟨o,e _ _ h ⟨xs,.inr ⟨o,rfl⟩⟩⟩)
 .exact .inr h
theorem Paired.imp{F G:α->β->Prop}(f:∀a b,F a b->G a b):∀{l₁:List α}{l₂:List β},BI F l₁ l₂->BI G l₁ l₂:=by
 intro l m h
 induction h with
 | nil=>exact .nil
 | cons r t ih=>exact .cons (f _ _ r) ih
def u7:=@Paired.imp
def TRep{α:Type}(R:Rep α):Prop:=∀H H' a x,TSm H H'->R H a x->R H' a x
theorem Aw:TRep rInt:=λ_ _ _ _ _ h=>h
theorem Aq{R:Rep α}(t:TRep R):TRep (rTup K R):=λH H' as x e h=>by
 obtain⟨p,xs,rfl,hp,pa⟩:=h;exact⟨p,xs,rfl,e.seq hp,u7 (λa b=>t H H' a b e) pa⟩
theorem Same.new(h:H p=uB)(o:HO):Same H (upd H p o):=λb u q=>by rw[Af (Ae q h)];exact q
def u8:=@Same.new
abbrev rPair(K:Ap):Rep uI:=rTup K rInt
theorem Fl(h:H p=uA (.tup (ns.map V.int))):rPair K H ns (.ref p):=⟨p,_,rfl,uz h,paired_ints ns⟩
theorem CG{x:V}(h:rPair K H ns x):∃p,x=.ref p/\SqT K H p (ns.map V.int):=by
 obtain⟨p,xs,rfl,hp,pa⟩:=h;rw[KJ pa] at hp;exact⟨p,rfl,hp⟩
def rSeq(K:Ap):Rep uI:=λH t x=>rLst K rInt H t x\/rPair K H t x
theorem ACU{x:V}(h:rSeq K H ns x):∃p,x=.ref p/\(SqL K H p (ns.map V.int)\/SqT K H p (ns.map V.int)):=by
 rcases h with⟨p,xs,rfl,hp,pa⟩| h
 .rw[KJ pa] at hp
  exact⟨p,rfl,.inl hp⟩
 .obtain⟨p,e,hp⟩:=CG h
  exact⟨p,e,.inr hp⟩
section
variable{g:TG}{R:Hp->Prop}
abbrev putD(D:Addr)(N:St->Hp->Prop)(te:TE)(τ2:St):Bool->Hp->Prop:=λb H3=>if b=true then te τ2 H3 λv H4=>∃ys,H4 D=uA (.lst ys)/\ys.length<sizeLine/\N τ2 (upd H4 D (.lst (ys++[v]))) else N τ2 H3
theorem yesD{N:St->Hp->Prop}(h:te τ H λv H4=>∃ys,H4 D=uA (.lst ys)/\ys.length<sizeLine/\N τ (upd H4 D (.lst (ys++[v])))):AHC τ H (putD D N te τ):=by
 show putD D N te τ true H;unfold putD;rw[uD rfl];exact h
theorem yesN{N:St->Hp->Prop}{x:V}(h:te (τ.set i (uA x)) H λv H4=>∃ys,H4 D=uA (.lst ys)/\ys.length<sizeLine/\N (τ.set i (uA x)) (upd H4 D (.lst (ys++[v])))):gName i x τ H λτ2 H2=>AHC τ2 H2 (putD D N te τ2):=yesD h
theorem Bu(Pv:Nat->St->Hp->Prop)(h0:Pv 0 τ H)(hl:∀i τ H,i<=xs.length->Pv i τ H->SqL K H a xs)
  (hs:∀i x τ H,xs[i]?=uA x->Pv i τ H->g x τ H λτ2 H2=>tc τ2 H2 (putD D (Pv (i+1)) te τ2)) (hd:∀τ H,Pv xs.length τ H->R H):Gk (Itl K a) D g tc te R τ H:=by
 refine Iu xs.length Pv h0 (λi τ H hi p=>⟨xs,xs[i],hl i τ H (DB hi) p,by simp[hi]⟩) (λτ H p=>⟨xs,hl _ τ H (AF _) p,AF _⟩) (λi τ H x H' hi p y=>?_) hd;obtain⟨e,y⟩:=y;subst e;exact hs i x τ _ (y xs (hl i τ _ (DB hi) p)) p
theorem AAq(Pv:Nat->St->Hp->Prop)(h0:Pv 0 τ H)(hl:∀i τ H,i<=xs.length->Pv i τ H->SqT K H a xs)
  (hs:∀i x τ H,xs[i]?=uA x->Pv i τ H->g x τ H λτ2 H2=>tc τ2 H2 (putD D (Pv (i+1)) te τ2)) (hd:∀τ H,Pv xs.length τ H->R H):Gk (Itt K a) D g tc te R τ H:=by
 refine Iu xs.length Pv h0 (λi τ H hi p=>⟨xs,xs[i],hl i τ H (DB hi) p,by simp[hi]⟩) (λτ H p=>⟨xs,hl _ τ H (AF _) p,AF _⟩) (λi τ H x H' hi p y=>?_) hd;obtain⟨e,y⟩:=y;subst e;exact hs i x τ _ (y xs (hl i τ _ (DB hi) p)) p
theorem Ci{lo:Int}(Pv:Nat->St->Hp->Prop)(h0:Pv 0 τ H)
  (hs:∀i τ H,i<n->Pv i τ H->g (.int (lo+i)) τ H λτ2 H2=>tc τ2 H2 (putD D (Pv (i+1)) te τ2)) (hd:∀τ H,Pv n τ H->R H):Gk (Itr lo n) D g tc te R τ H:=by
 refine Iu n Pv h0 (λi τ H hi p=>hi) (λτ H p=>AF _) (λi τ H x H' hi p y=>?_) hd;obtain⟨e,y⟩:=y;subst e y;exact hs i τ _ hi p
theorem Gf{S:Hp->List V->Prop}(Pv:Nat->St->Hp->Prop)(h0:Pv 0 τ H)(hl:∀i τ H,i<=xs.length->Pv i τ H->S H xs)
  (hs:∀i x τ H T,xs[i]?=uA x->H T=none->Pv i τ H->g (.ref T) τ (upd H T (.tup [.int i,x])) λτ2 H2=>tc τ2 H2 (putD D (Pv (i+1)) te τ2)) (hd:∀τ H,Pv xs.length τ H->R H):Gk (Ien S) D g tc te R τ H:=by
 refine Iu xs.length Pv h0 (λi τ H hi p=>⟨xs,xs[i],hl i τ H (DB hi) p,by simp[hi]⟩) (λτ H p=>⟨xs,hl _ τ H (AF _) p,rfl⟩) (λi τ H x H' hi p y=>?_) hd;obtain⟨T,z,rfl,hT,rfl,y⟩:=y;exact hs i z τ H T (y xs (hl i τ _ (DB hi) p)) hT p
end
theorem Br{k:Nat}(hr:Room k A)(h:autoParam (n<=64) zA1._auto_1):A.units+n<C0:=EB (Nat.add_le_add_left h _) hr.units
theorem Hj(hK:X.K=K){k:Nat}{t:TGs}(hc:X.calm=true)(h:PGs X es t)
  (hn:autoParam ((K3 es X.env).length=n) zA0._auto_1) (dk:autoParam ((K3 es X.env).findIdx? (·.1)=uB) zA0._auto_1):PG X (.Tuple es k pos) (gTup K n t):=by subst hK;exact Ju hc h hn dk
theorem Er(hK:X.K=K):OpR X (ED .In) (rIn K false):=by subst hK;exact Eo
theorem Ng(hK:X.K=K):OpR X (ED .NotIn) (rIn K true):=by subst hK;exact Gd
theorem Fe(hK:X.K=K):CallR X (.builtin "len") (λxs H Q=>∃p ys,xs=[.ref p]/\(SqL K H p ys\/SqT K H p ys)/\Q (.int ys.length) H):=by subst hK;exact Ar
theorem Vc(hK:X.K=K):IxR X (rIxL K):=by subst hK;exact BL
theorem YC(hK:X.K=K):IxR X (rIxT K):=by subst hK;exact BW
theorem Cz(x:Int):∀(tie:uI),inV (.int x) (tie.map V.int)=decide (x∈tie)
 | []=>rfl
 | z::r=>by
  have ih:=Cz x r;unfold inV at ih ⊢;rw[B4,JU,ih];show((z==x)||decide (x∈r))=decide (x∈z::r);by_cases e:z=x
  .subst e;simp
  .have e':¬ x=z:=λq=>e q.symm
   simp[e,e']
theorem iteNN{c A B:Prop}{inst:Decidable c}(hc:¬ c)(h:A):if(!decide c)=true then A else B:=by
 rw[uF hc];exact iteT h
theorem iteNP{c A B:Prop}{inst:Decidable c}(hc:c)(h:B):if(!decide c)=true then A else B:=by
 rw[uE hc];exact iteF h
theorem iteN{c A B:Prop}{inst:Decidable c}(hc:¬ c)(h:B):if decide c=true then A else B:=by
 rw[uF hc];exact iteF h
theorem iteP{c A B:Prop}{inst:Decidable c}(hc:c)(h:A):if decide c=true then A else B:=by
 rw[uE hc];exact iteT h
theorem ABP{k:Int}(h0:0<=k)(h:k<(ns.length:Int)):∃v:Int,atI (ns.map V.int) k=uA (.int v):=by
 have hk:k.toNat<ns.length:=vw h0 h;have ek:k=((k.toNat:Nat):Int):=by lia
 have q:atI (ns.map V.int) ((k.toNat:Nat):Int)=uA (.int ns[k.toNat]):=Bg (by rw[AS,AI hk]<;>rfl);rw[<- ek] at q;exact⟨_,q⟩
theorem small(h:n<=1000):n<=sizeLine:=DB (Ay h)
noncomputable def srt:uI->uI
 | [a,b]=>if b<a then [b,a] else [a,b]
 | t=>t
theorem Et(a b:Int):srt [a,b]=if b<a then [b,a] else [a,b]:=rfl
theorem AAe{a b:Int}(h:ms.Perm [a,b])(s:ms.Pairwise (·<=·)):ms=srt [a,b]:=by
 have hl:=h.length_eq
 match ms,hl,h,s with
 | [x,y],_,h,s =>
  have hxy:x<=y:=by simpa using s
  have hx:x∈[a,b]:=h.mem_iff.mp (by simp);have hy:y∈[a,b]:=h.mem_iff.mp (by simp);have ha:a∈[x,y]:=h.mem_iff.mpr (by simp);have hb:b∈[x,y]:=h.mem_iff.mpr (by simp);simp only[BH,D5,or_false] at hx hy ha hb;rw[Et];split
  .have e1:x=b:=by lia
   have e2:y=a:=by lia
   rw[e1,e2]
  .have e1:x=a:=by lia
   have e2:y=b:=by lia
   rw[e1,e2]
def OkTie(m:Int)(t:uI):Prop:=∃a b,t=[a,b]/\0<=a/\a<m/\0<=b/\b<m/\a≠b
structure OkTies(m:Int)(as:uJ):Prop where
 ok:∀t∈as,OkTie m t
 nd:(as.map srt).Nodup
theorem OkTies.take_new{m:Int}{t:uI}(h:OkTies m as)(ht:as[i]?=uA t):srt t∉(as.take i).map srt:=by
 intro hm;obtain⟨u,hu,e⟩:=A1.mp hm;obtain⟨j,hj,ej⟩:=C1.mp hu;have hji:j<i:=by rw[B0] at hj;exact v9 hj
 have hi:=(AH.mp ht).1;have et:=(AH.mp ht).2;have eu:as[j]'(uT hji hi)=u:=by rw[<- ej,Kt]
 have hnd:=h.nd;have:=(UA (h₀:=by rw[AB];exact uT hji hi) (h₁:=by rw[AB];exact hi) hnd (i:=j) (j:=i)).mp (by rw[MA,MA,et,eu,e]);exact vq hji this
noncomputable def BZ(p:Int):Nat->uJ->uI
 | _,[]=>[]
 | k,t::r=>if p∈t then(k:Int)::BZ p (k+1) r else BZ p (k+1) r
theorem PN(p:Int)(t:uI):∀(k:Nat) (as:uJ),BZ p k (as++[t])=BZ p k as++(if p∈t then [((k+as.length:Nat):Int)] else [])
 | k,[]=>by
  show(if p∈t then(k:Int)::BZ p (k+1) [] else BZ p (k+1) [])=_;split<;>simp[BZ]
 | k,u::r=>by
  have ih:=PN p t (k+1) r;have e:k+1+r.length=k+(u::r).length:=by simp;exact vA
  rw[e] at ih;show(if p∈u then(k:Int)::BZ p (k+1) (r++[t]) else BZ p (k+1) (r++[t]))=(if p∈u then(k:Int)::BZ p (k+1) r else BZ p (k+1) r)++_;rw[ih];split<;>rfl
abbrev hits(p:Int)(as:uJ):uI:=BZ p 0 as
theorem Oz{p:Int}{t:uI}(h:as[i]?=uA t):hits p (as.take (i+1))=hits p (as.take i)++(if p∈t then [(i:Int)] else []):=by
 have hi:=(AH.mp h).1;have e:as.take (i+1)=as.take i++[t]:=by rw[Ex,h];rfl
 rw[e,hits,PN];have:0+(as.take i).length=i:=by rw[B0];lia
 rw[this]
theorem JC(p:Int):∀(k:Nat) (as:uJ),(BZ p k as).length<=as.length
 | _,[]=>AF _
 | k,t::r=>by
  have ih:=JC p (k+1) r;show(if p∈t then(k:Int)::BZ p (k+1) r else BZ p (k+1) r).length<=r.length+1;split
  .simp;exact ih
  .exact vd ih
theorem max_list(hc:X.calm=true):CallR X (.builtin "max") (λxs H Q=>∃(p:Addr) (ns:uI),xs=[.ref p]/\SqL X.K H p (ns.map V.int)/\0<ns.length/\∀m,m∈ns->(∀a∈ns,a<=m)->Q (.int m) H):=by
 intro aa s σ H xs us Q I r h;obtain⟨p,ns,rfl,hq,dQ,q⟩:=h;obtain⟨u0,rfl,ru⟩:=r.one;cases ru;obtain⟨ag,rv,pl,hz⟩:=I.list hq;have hi:=intsAre_of rv;have hl:=pl.isList;obtain⟨ys,e⟩:=hi.allInts.items;have kC:ns=ys.toList.map (·.1):=by rw[<- hi.numsOf,<- nums_intItems,<- e]
 have hsz:0<ys.size:=by
  rw[kC,AB,A9] at dQ;exact dQ
 rw[e] at hl;refine max_intList (I.ok.hd hc) hl hsz λv h' tk hv hk=>?_;obtain⟨t,rfl⟩:=intItems_at hv;obtain⟨h1,h2⟩:=argBest_gt (numAt ys) (ys.size-1);refine⟨.int (numAt ys (argBest (λi j=>decide (numAt ys i>numAt ys j)) (ys.size-1))),H,I.kept hk,⟨t,rfl⟩,q _ ?_ λa ha=>?_⟩
 .rw[kC,numAt_eq]
  exact getD_mem (by rw[AB,A9];lia)
 .rw[kC] at ha
  obtain⟨j,hj,rfl⟩:=mem_getD ha;rw[AB,A9] at hj;rw[<- numAt_eq];exact h2 j (vJ hj)
noncomputable def upTo(n:Nat)(f:Int->Bool):uI:=((AW n).map λ(i:Nat)=>(i:Int)).filter f
theorem Oi(n:Nat)(f:Int->Bool):upTo (n+1) f=upTo n f++(if f n=true then [(n:Int)] else []):=by
 unfold upTo;rw[FM,BM,CL,J3]
 congr 1
 rw[HL];split<;>rfl
theorem ABa(n:Nat)(f:Int->Bool):(upTo n f).length<=n:=by
 unfold upTo;refine BY (Do _ _) ?_;simp
set_option tactic.hygienic true in
theorem Fw{p x:Int}:∀{k:Nat}{as:uJ},x∈BZ p k as↔∃i:Nat,∃t,as[i]?=uA t/\p∈t/\x=((k+i:Nat):Int)
 | k,[]=>by simp[BZ]
 | k,u::r=>by
  have ih:=@Fw p x (k+1) r;have e:BZ p k (u::r)=if p∈u then(k:Int)::BZ p (k+1) r else BZ p (k+1) r:=rfl
  rw[e];constructor
  .intro h
   split at h
   .rename_i hu
    rcases BH.mp h with h| h
    .exact⟨0,u,rfl,hu,by simpa using h⟩
    .obtain⟨i,t,h1,h2,h3⟩:=ih.mp h
     exact⟨i+1,t,by simpa using h1,h2,by rw[h3];congr 1;exact vA⟩
   .obtain⟨i,t,h1,h2,h3⟩:=ih.mp h
    exact⟨i+1,t,by simpa using h1,h2,by rw[h3];congr 1;exact vA⟩
  .rintro⟨i,t,h1,h2,h3⟩
   cases i with
   | zero =>
    have:u=t:=by simpa using h1
    subst this;rw[uD h2];exact BH.mpr (.inl (by simpa using h3))
   | succ i =>
    have hm:=ih.mpr ⟨i,t,by simpa using h1,h2,by rw[h3];congr 1;lia⟩;split
    .exact AK _ hm
    .exact hm
theorem Hg(p:Int):∀(k:Nat) (as:uJ),(BZ p k as).Pairwise (· < ·)
 | _,[]=>L3
 | k,u::r=>by
  have ih:=Hg p (k+1) r;have e:BZ p k (u::r)=if p∈u then(k:Int)::BZ p (k+1) r else BZ p (k+1) r:=rfl
  rw[e];split
  .refine SO (λx hx=>?_) ih
   obtain⟨i,t,_,_,h3⟩:=Fw.mp hx;rw[h3];lia
  .exact ih
theorem QV:∀{ns:uI} (h:ns≠[]),ns.Pairwise (· < ·)->∀x∈ns,x<=ns.getLast h
 | [],h,_,_,_=>uH rfl h
 | [a],_,_,x,hx=>by
  have:x=a:=by simpa using hx
  subst this;exact HQ _
 | a::b::r,_,pw,x,hx=>by
  have h2:=Dx.mp pw;have e:(a::b::r).getLast (by simp)=(b::r).getLast (by simp):=by simp
  rw[e];have l:=QV (ns:=b::r) (by simp) h2.2;rcases BH.mp hx with hx| hx
  .subst hx
   have h3:=h2.1 b (by simp);have h4:=l b (by simp);exact zd h3 h4
  .exact l x hx
end L2
namespace L2
def Cl(S:Int->Prop)(es:uJ):Prop:=∀e∈es,∀x∈e,∀y∈e,S x->S y
def gh(h:uI)(p:Int):Int:=h.getD p.toNat 0
theorem AGb(h:uI)(p:Nat):gh h (p:Int)=h.getD p 0:=by unfold gh;rw[Cc]
theorem XF{h:uI}{p:Int}(h0:0<=p)(h1:p<h.length):h[p.toNat]?=uA (gh h p):=by
 unfold gh;rw[AD,AI (vw h0 h1)];rfl
structure Heads(n:Nat)(es:uJ)(h:uI):Prop where
 len:h.length=n
 le:∀p:Int,0<=p->p<n->0<=gh h p/\gh h p<=p
 idem:∀p:Int,0<=p->p<n->gh h (gh h p)=gh h p
 edge:∀e∈es,∀x∈e,∀y∈e,gh h x=gh h y
 reach:∀S:Int->Prop,Cl S es->∀p q:Int,0<=p->p<n->0<=q->q<n->gh h p=gh h q->S p->S q
abbrev below(n:Nat):uI:=(AW n).map λ(i:Nat)=>(i:Int)
theorem HJ{p:Int}(h0:0<=p)(h1:p<n):gh (below n) p=p:=by
 unfold gh;rw[AD,AS,E7 (vw h0 h1)];show((p.toNat:Nat):Int)=p;exact wx h0
theorem Heads.start(n:Nat):Heads n [] (below n) where
 len:=by simp
 le:=λp h0 h1=>by rw[HJ h0 h1];lia
 idem:=λp h0 h1=>by rw[HJ h0 h1,HJ h0 h1]
 edge:=λe he=>by cases he
 reach:=λS _ p q p0 p1 q0 q1 e hp=>by
  rw[HJ p0 p1,HJ q0 q1] at e;rw[<- e];exact hp
noncomputable def asOne(h:uI)(a b:Int):uI:=h.map λx=>if x=a\/x=b then(if b<a then b else a) else x
theorem ABw{h:uI}{a b p:Int}(h0:0<=p)(h1:p<h.length):gh (asOne h a b) p=if gh h p=a\/gh h p=b then(if b<a then b else a) else gh h p:=by
 unfold gh asOne;rw[AD,AD,AS,AI (vw h0 h1)];rfl
set_option tactic.hygienic true in
theorem Heads.join{es:uJ}{h:uI}(H:Heads n es h){a b:Int}(a0:0<=a)(a1:a<n)(b0:0<=b)(b1:b<n)(gg:∀e∈es,∀x∈e,0<=x/\x<n) :
  Heads n (es++[[a,b]]) (asOne h (gh h a) (gh h b)):=by
 have hl:=H.len;have la:=H.le a a0 a1;have lb:=H.le b b0 b1;have ia:=H.idem a a0 a1;have ib:=H.idem b b0 b1;have G:∀{p:Int},0<=p->p<n->gh (asOne h (gh h a) (gh h b)) p=if gh h p=gh h a\/gh h p=gh h b then(if gh h b<gh h a then gh h b else gh h a) else gh h p:=λ{p} h0 h1=>ABw h0 (by lia)
 have mn:∃m,(if gh h b<gh h a then gh h b else gh h a)=m/\(m=gh h a\/m=gh h b)/\m<=gh h a/\m<=gh h b:=by
  refine⟨_,rfl,?_⟩;split
  .exact⟨.inr rfl,by lia,HQ _⟩
  .exact⟨.inl rfl,HQ _,by lia⟩
 obtain⟨m,em,mm,m1,m2⟩:=mn;rw[em] at G;refine⟨by unfold asOne;rw[AB];exact hl,λp p0 p1=>?_,λp p0 p1=>?_,λe he x hx y hy=>?_,λS cl p q p0 p1 q0 q1 e hp=>?_⟩
 .have lp:=H.le p p0 p1
  rw[G p0 p1];split
  .rename_i c
   rcases c with c| c<;>rcases mm with z| z<;>lia
  .exact lp
 .have lp:=H.le p p0 p1
  have ip:=H.idem p p0 p1;rw[G p0 p1];split
  .-- m is ag own head
   have m0:0<=m/\m<n:=by rcases mm with z| z<;>lia
   rw[G m0.1 m0.2];have gm:gh h m=m:=by
    rcases mm with z| z
    .rw[z];exact ia
    .rw[z];exact ib
   rw[gm];rw[uD mm]
  .rename_i c
   rw[G lp.1 (by lia),ip,uC c]
 .rcases Ct.mp he with he| he
  .have hxr:=gg e he x hx
   have hyr:=gg e he y hy;rw[G hxr.1 hxr.2,G hyr.1 hyr.2,H.edge e he x hx y hy]
  .have:e=[a,b]:=by simpa using he
   subst this;have ga:gh (asOne h (gh h a) (gh h b)) a=m:=by rw[G a0 a1,uD (.inl rfl)]
   have gb:gh (asOne h (gh h a) (gh h b)) b=m:=by rw[G b0 b1,uD (.inr rfl)]
   have sX:∀z∈[a,b],gh (asOne h (gh h a) (gh h b)) z=m:=λz hz=>by
    rcases BH.mp hz with hz| hz
    .rw[hz];exact ga
    .have hz':z=b:=by simpa using hz
     rw[hz'];exact gb
   rw[sX x hx,sX y hy]
 .have rV:Cl S es:=λe he=>cl e (EV _ he)
  have ab:=cl [a,b] (by simp) a (by simp) b (by simp);have ba:=cl [a,b] (by simp) b (by simp) a (by simp);rw[G p0 p1,G q0 q1] at e;by_cases cp:gh h p=gh h a\/gh h p=gh h b
  .have sab:S a/\S b:=by
    rcases cp with z| z
    .have sa:=H.reach S rV p a p0 p1 a0 a1 z hp
     exact⟨sa,ab sa⟩
    .have sb:=H.reach S rV p b p0 p1 b0 b1 z hp
     exact⟨ba sb,sb⟩
   by_cases cq:gh h q=gh h a\/gh h q=gh h b
   .rcases cq with z| z
    .exact H.reach S rV a q a0 a1 q0 q1 z.symm sab.1
    .exact H.reach S rV b q b0 b1 q0 q1 z.symm sab.2
   .rw[uD cp,uC cq] at e
    exact uH (by rw[<- e];exact mm) cq
  .by_cases cq:gh h q=gh h a\/gh h q=gh h b
   .rw[uC cp,uD cq] at e
    exact uH (by rw[e];exact mm) cp
   .rw[uC cp,uC cq] at e
    exact H.reach S rV p q p0 p1 q0 q1 e hp
theorem WY{l:uI}(f:Int->Bool)(h:l.Pairwise (· < ·)):(l.filter f).Pairwise (· < ·):=h.sublist Se
theorem AAf(n:Nat):(below n).Pairwise (· < ·):=by
 unfold below;rw[CY];exact P6.imp λh=>uP h
theorem Zi{x:Int}:x∈below n↔0<=x/\x<n:=by
 unfold below;rw[A1];constructor
 .rintro⟨i,hi,rfl⟩
  have:=A8.mp hi;exact x8 this
 .rintro⟨h0,h1⟩
  exact⟨x.toNat,A8.mpr (vw h0 h1),wx h0⟩
theorem AFT(n:Nat)(f:Int->Bool):upTo n f=(below n).filter f:=rfl
theorem mem_upTo{f:Int->Bool}{x:Int}:x∈upTo n f↔(0<=x/\x<n)/\f x=true:=by
 rw[AFT,BQ,Zi]
theorem ABL(n:Nat)(f:Int->Bool):(upTo n f).Pairwise (· < ·):=WY f (AAf n)
def under(n:Nat)(h:uI)(x:Int):uI:=upTo n λp=>decide (gh h p=x)
noncomputable def Bv(n:Nat)(h:uI):Nat->uJ
 | 0=>[]
 | i+1=>Bv n h i++(if gh h (i:Int)=(i:Int) then [under n h (i:Int)] else [])
noncomputable def sel(as:uJ)(ms:uI):Nat->uJ
 | 0=>[]
 | i+1=>sel as ms i++(if(i:Int)∈ms then [as.getD i []] else [])
set_option tactic.hygienic true in
theorem GQ{as:uJ}{ms:uI}{e:uI}:∀{n:Nat},e∈sel as ms n↔∃i:Nat,i<n/\(i:Int)∈ms/\e=as.getD i []
 | 0=>by simp[sel]
 | n+1=>by
  have ih:=@GQ as ms e n;show e∈sel as ms n++_↔_;rw[Ct,ih];constructor
  .rintro(⟨i,h1,h2,h3⟩| h)
   .exact⟨i,vb h1,h2,h3⟩
   .split at h
    .rename_i c
     exact⟨n,vE,c,by simpa using h⟩
    .cases h
  .rintro⟨i,h1,h2,h3⟩
   by_cases c:i<n
   .exact .inl ⟨i,c,h2,h3⟩
   .have:i=n:=wE h1 c
    subst this;right;rw[uD h2,h3];simp
end L2
namespace L2
open PySem PySem.Spec PyProof.Rows
theorem Kg:∀{xs:List V}{us:List As},xs.length=us.length->(∀(i:Nat) (x:V) (u:As),xs[i]?=uA x->us[i]?=uA u->RelV x u)->Vals xs us
 | [],[],_,_=>.nil
 | [],_::_,h,_=>by simp at h
 | _::_,[],h,_=>by simp at h
 | x::xs,u::us,h,f=>.cons (f 0 x u rfl rfl) (Kg (by simpa using h) λi y v h1 h2=>f (i+1) y v (by simpa using h1) (by simpa using h2))
theorem Jx:CallR X (.type "range") (λxs H Q=>∃j,xs=[.int j]/\∀r,H r=none->Q (.ref r) (upd H r (.rng 0 j))):=by
 intro aa s σ H xs us Q I r h;obtain⟨j,rfl,q⟩:=h;obtain⟨u,rfl,t,rfl⟩:=r.one;refine call_range_1 ?_;have hn:=I.hok.fresh (AF _);exact⟨.ref s.heap.objs.size,_,I.laid (a:=s.heap.objs.size) (o:=.rng 0 j) (λb u e=>AJ _ e) (AF _) ⟨_,_,_,AU _ rfl⟩,rfl,q _ hn⟩
theorem NZ(hc:X.calm=true):CallR X (.type "list") (λxs H Q=>∃r j,xs=[.ref r]/\H r=uA (.rng 0 j)/\0<=j/\j<=1000/\∀l,H l=none->Q (.ref l) (upd H l (.lst ((below j.toNat).map V.int)))):=by
 intro aa s σ H xs us Q I rr h;obtain⟨r,j,rfl,hr,j0,j1,q⟩:=h;obtain⟨u,rfl,ru⟩:=rr.one;cases ru;obtain⟨t1,t2,t3,e⟩:=I.hok r _ hr;have hn:=I.hok.fresh (AF _);refine call_list_range (n:=j.toNat) (I.ok.hd hc) e (Wp (by lia) (by lia) (by lia) (by lia)) (by rw[RU];split<;>lia) (by lia) λh' tk ay c' hk db aE=>?_;refine⟨.ref s.heap.objs.size,_,I.laid (a:=s.heap.objs.size) (o:=.lst ((below j.toNat).map V.int)) hk (AF _) ⟨?_,ay.toList,c',?_,by simpa using db⟩,rfl,q _ hn⟩
 .rw[AB,AB,CB]
  exact small (wX j1)
 .refine Kg (by simp[aE.1]) λi x u h1 h2=>?_
  have kc:ay[i]?=uA u:=by simpa using h2
  obtain⟨t,rfl⟩:=aE.2 i u kc;have hi:i<j.toNat:=by
   have:=(C7.mp kc).1;rw[aE.1] at this;exact this
  rw[AS,AS,E7 hi] at h1;have ex:=(AN h1).symm;subst ex;exact⟨t,by rw[TR,Sn]⟩
def rEqT(K:Ap){α:Type}[DecidableEq α](R:Rep α):R2:=λx y H Q=>∃as bs,rTup K R H as x/\rTup K R H bs y/\Q (.bl (decide (as=bs))) H
theorem RW[DecidableEq α]{R:Rep α}(D:Dat X n R)(hu:X.A.units+(n+1)<C0):OpR X (ED .Eq) (rEqT X.K R):=by
 intro aa s σ H x y v u Q I rx ry h;obtain⟨as,bs,⟨p,xs,rfl,hp,pa⟩,⟨q,ys,rfl,hq,pb⟩,h⟩:=h;cases rx;cases ry;obtain⟨ag,ra,ta,_⟩:=I.tuple hp;obtain⟨gV,rb,tb,_⟩:=I.tuple hq;have l1:as.length=ag.toArray.size:=by rw[AT,<- ra.length];exact AV pa
 have l2:bs.length=gV.toArray.size:=by rw[AT,<- rb.length];exact AV pb
 refine SeqAt.eq_tupleAt (e:=λj=>decide (as[j]?=bs[j]?)) ta tb (uW hu) (D.place (A:=X.A.in1) I (by show X.A.units+1+n<C0;exact vF hu) pa pb ra rb) ?_;rw[Ip l1 l2];exact⟨.bl _,H,I,rfl,h⟩
section
variable{st:Stmt}{t u:TS}
def AIA(t u:TS):TS:=λD σ H=>∃M:St->Hp->Prop,t {D with nx:=M} σ H/\∀σ' H',M σ' H'->u D σ' H'
theorem Hu(h1:PS X st t)(h2:PSs X ar u):PSs X (st::ar) (AIA t u):=by
 intro aa s σ H D I h;obtain⟨M,ha,hb⟩:=h;refine OU (thn (h1 aa s σ H {D with nx:=M} I ha) λf s1 q=>?_);cases f with
 | next =>
  obtain⟨σ',H',I',q⟩:=q;exact h2 aa s1 σ' H' D I' (hb _ _ q)
 | ret v=>exact q
 | brk=>exact q
 | cont=>exact q
end
end L2
namespace L2
open PySem PySem.Spec PyProof.Rows PySem.W
theorem Vals.app(h:Vals xs us)(k:Vals ys vs):Vals (xs++ys) (us++vs):=by
 induction h with
 | nil=>exact k
 | cons r t ih=>exact .cons r ih
def rAddL(K:Ap):R2:=λx y H Q=>∃a b xs ys,x=.ref a/\y=.ref b/\SqL K H a xs/\SqL K H b ys/\xs.length+ys.length<=sizeLine/\∀p,H p=none->Q (.ref p) (upd H p (.lst (xs++ys)))
theorem Ys:OpR X (G1 .Add) (rAddL X.K):=by
 intro aa s σ H x y v u Q I rx ry h;obtain⟨a,b,xs,ys,rfl,rfl,ha,hb,hz,q⟩:=h;cases rx;cases ry;obtain⟨vs,r1,p1,_⟩:=I.list ha;obtain⟨ws,r2,p2,_⟩:=I.list hb;have hl:=p1.isList;have n5:=p2.isList;obtain⟨⟨cls,dd,data,sl⟩,ho,hc,n,hd⟩:=id hl;obtain⟨⟨kH,gT,XA,gE⟩,eC,fg,n2,eQ⟩:=id n5;simp only at hc hd fg eQ;subst hc hd fg eQ;have e:vs.toArray++ws.toArray=(vs++ws).toArray:=by simp
 have l1:=r1.length;have l2:=r2.length;refine OW ⟨_,ho,rfl⟩ ⟨_,eC,rfl⟩ noFill_list_add seq_list_add PySem.F.slot_list_add PySem.F.entry_list_add (PySem.F.args_list_add_2 _ _) (list_addW a b vs.toArray ws.toArray n n2 dd gT sl gE (by rw[AT,AT];exact xM hz l1 l2)) ⟨ho,eC,?_⟩;rw[e];refine⟨.ref s.heap.objs.size,_,I.laid (t':=s.toks) (o:=.lst (xs++ys)) (λb ob q=>AJ _ q) (AF _) ?_,rfl,q _ (I.hok.fresh (AF _))⟩;exact⟨by rw[AZ];exact hz,_,0,Vals.app r1 r2,AU _ rfl⟩
structure Own(K:Frag)(C:Addr):Prop where
 ha:findIn K (.ref C) "__class__" = uA (uA (.builtin "object.__class__"))
 hn:specialIn K (.builtin "object.__class__") "__get__" = uA (uA (.builtin "getset_descriptor.__get__"))
 tk:takesIn K (.builtin "object.__class__")=uA true
 hm:mroIn K C (.type "object")=uA true
 is:kitOne K (.ref C) (.ref C)=uA true
end L2
namespace L2
open PySem PySem.Spec PyProof.Rows
open PySem.W
section
variable{p:Pos}
def AHM(C:Addr):TE:=λ_ H Q=>∀y dx,H y=none->H dx=none->dx≠y->Q (.ref y) (upd (upd H dx (.own y)) y (.ins C dx []))
theorem YT(mk:makesIn X.K C=true)(hi:findIn X.K (.ref C) "__init__" = uA (uA (.builtin "object.__init__")))(kp:keepIn X.K (.ref C)=true)(hg:Gl X x)(hm:X.mg x=uA (.ref C))
  (ie:autoParam ((x==("__debug__" : Str))=false) zA1._auto_1):PE X (.Call (.Name x p) [] [] pos) (AHM C):=by
 intro aa s σ H Q I h;refine F4 (Ku I hg hm ?_ ie);refine Sb I.kIn kp (Q7 ?_);have hq:=h (s.heap.objs.size+1) s.heap.objs.size (I.hok.fresh (L9 _)) (I.hok.fresh (AF _)) (BU (DI _));have I2:=Inv.made (C:=C) I;refine Zn I.kIn mk hi (λself=>WN (oi_bind self)) ?_;have Y:=makes_of (M:=AM X.prog X.w) I.kIn mk;have e2:((s.heap.push EL).push (FK C s.heap.objs.size)).get? (s.heap.objs.size+1)=uA (FK C s.heap.objs.size):=by
  have:=AU (s.heap.push EL) (o:=FK C s.heap.objs.size) rfl
  rwa [FB] at this
 have t1:Looks (AM X.prog X.w) ((s.heap.push EL).push (FK C s.heap.objs.size)) (typeOf (.ref (s.heap.objs.size+1))) (.ref C):=(X8 e2).andThen .now;have t2:Looks (AM X.prog X.w) ((s.heap.push EL).push (FK C s.heap.objs.size)) (Rs (.ref (s.heap.objs.size+1)) (.type "object")) true:=t1.andThen (Y.top.keeps λb o e=>AJ _ (AJ _ e));refine RC oi_plain entry_oi (@check_slot (AM X.prog X.w) _ _ _ "object.__init__" "object" "__init__" (.ref (s.heap.objs.size+1)) [] [] _ oi_kind oi_split t2 (oi_args (.ref (s.heap.objs.size+1))) ?_);rw[oi_run];exact AC (And.intro rfl ⟨.ref (s.heap.objs.size+1),_,I2,rfl,hq⟩)
theorem Uw(c:Cls X.K C)(O:Own X.K C)(is:kitOne X.K (.ref C) (.ref R)=uA true):CallR X (.builtin "isinstance") (λxs H Q=>∃p dx fs,xs=[.ref p,.ref R]/\H p=uA (.ins C dx fs)/\Q (.bl true) H):=by
 intro aa s σ H xs us Q I r h;obtain⟨p,dx,fs,rfl,hq,q⟩:=h;obtain⟨u,v,rfl,ru,rv⟩:=r.two;cases ru;cases rv;obtain⟨mA,M,_,_,_,_⟩:=Kq I.hok hq;obtain⟨od,J,_⟩:=M.look;have nl:(A7 p)≠.builtin "__main__.__loader__#opaque":=by intro z;cases z
 exact kia_one (kitx_own (c.get "__class__") c.hd O.ha O.hn O.tk O.hm) I.kIn J is nl λtk=>⟨.bl true,H,I.tok _,rfl,q⟩
end
end L2
namespace L2
open PySem PySem.Spec PyProof.Rows
section
variable{κ:Type}[DecidableEq κ]
noncomputable def valV(af:List (κ×V))(k:κ):Option V:=(af.find? λkv=>decide (kv.1=k)).map (·.2)
noncomputable def putK(af:List (κ×V))(k:κ)(v:V):List (κ×V) :=
 if(af.any λkv=>decide (kv.1=k))=true then af.map (λkv=>if kv.1=k then(kv.1,v) else kv) else af++[(k,v)]
theorem Cg{p:κ×V}{r:List (κ×V)}{k:κ}(e:p.1=k):valV (p::r) k=uA p.2:=by simp[valV,G4,e]
theorem CZ{p:κ×V}{r:List (κ×V)}{k:κ}(e:¬ p.1=k):valV (p::r) k=valV r k:=by simp[valV,G4,e]
theorem HS(k:κ):∀af:List (κ×V),(af.any λkv=>decide (kv.1=k))=(valV af k).isSome
 | []=>rfl
 | p::r=>by
  rw[JU];by_cases e:p.1=k
  .simp only[Cg e,uE e,Bool.true_or,Option.isSome_some]
  .rw[CZ e,uF e,WO];exact HS k r
theorem VP(k j:κ)(y:V):∀af:List (κ×V),valV (af.map λkv=>if kv.1=k then(kv.1,y) else kv) j=(valV af j).map λx=>if j=k then y else x
 | []=>rfl
 | p::r=>by
  have ih:=VP k j y r;rw[B4];by_cases h:p.1=k
  .rw[uD h]
   by_cases e:p.1=j
   .rw[Cg (p:=(p.1,y)) e,Cg e,MX,uD (e.symm.trans h)]
   .rw[CZ (p:=(p.1,y)) e,CZ e,ih]
  .rw[uC h]
   by_cases e:p.1=j
   .rw[Cg (p:=p) e,Cg e,MX,uC (λz=>h (e.trans z))]
   .rw[CZ (p:=p) e,CZ e,ih]
theorem Ou(k j:κ)(y:V):∀af:List (κ×V),valV af k=none->valV (af++[(k,y)]) j=if j=k then uA y else valV af j
 | [],_=>by
  by_cases e:k=j
  .rw[uD e.symm];exact Cg (p:=(k,y)) e
  .rw[uC (λz=>e z.symm)];exact CZ (p:=(k,y)) e
 | p::r,hn=>by
  rw[UN];have hk:¬ p.1=k:=λz=>by rw[Cg z] at hn;cases hn
  rw[CZ hk] at hn;have ih:=Ou k j y r hn;by_cases e:p.1=j
  .rw[Cg e,Cg e,uC (λz=>hk (e.trans z))]
  .rw[CZ e,CZ e,ih]
theorem Ey(af:List (κ×V))(k j:κ)(y:V):valV (putK af k y) j=if j=k then uA y else valV af j:=by
 unfold putK;by_cases a:(af.any λkv=>decide (kv.1=k))=true
 .rw[uD a,VP]
  rw[HS] at a;by_cases e:j=k
  .obtain⟨x,hx⟩:=G2.mp a
   rw[uD e,e,hx,MX,uD rfl]
  .rw[uC e]
   cases valV af j with
   | none=>rfl
   | some x=>rw[MX,uC e]
 .rw[uC a]
  refine Ou k j y af ?_;rw[HS] at a;cases q:valV af k with
  | none=>rfl
  | some x=>rw[q] at a;exact(a rfl).elim
theorem Ck(af:List (κ×V))(k:κ)(v:V):(putK af k v).length<=af.length+1:=by
 unfold putK;split
 .rw[AB];exact u9
 .rw[AZ,C9,J2];lia
theorem JV{af:List (κ×V)}{k:κ}(v:V)(h:valV af k=uB):putK af k v=af++[(k,v)]:=by
 unfold putK;rw[HS,h];exact uC (by decide)
theorem RelO.isSome_eq{o:Option V}{u:Option As}(r:RelO o u):o.isSome=u.isSome:=by
 cases o with
 | none=>cases u with
  | none=>rfl
  | some _=>exact r.elim
 | some _=>cases u with
  | none=>exact r.elim
  | some _=>rfl
theorem RelO.getD{o:Option V}{u:Option As}{d:V}{d':As}(r:RelO o u)(rd:RelV d d'):RelV (o.getD d) (u.getD d'):=by
 cases o with
 | none=>cases u with
  | none=>exact rd
  | some _=>exact r.elim
 | some _=>cases u with
  | none=>exact r.elim
  | some _=>exact r
theorem KV.val{af:List (κ×V)}{vs:List (κ×As)}(r:KV af vs)(k:κ):RelO (valV af k) (OQ vs k):=by
 unfold KV at r
 induction r with
 | nil=>exact IG
 | @cons p q ps qs h t ih =>
  obtain⟨h1,h2⟩:=h;by_cases e:p.1=k
  .have e':=h1.symm.trans e
   have b:OQ (q::qs) k=uA q.2:=by simp[OQ,G4,e']
   rw[Cg e,b];exact h2
  .have e':¬ q.1=k:=λz=>e (h1.trans z)
   have b:OQ (q::qs) k=OQ qs k:=by simp[OQ,G4,e']
   rw[CZ e,b];exact ih
theorem KV.any{af:List (κ×V)}{vs:List (κ×As)}(r:KV af vs)(k:κ):(af.any λkv=>decide (kv.1=k))=vs.any λkv=>decide (kv.1=k):=by
 unfold KV at r
 induction r with
 | nil=>rfl
 | cons h t ih=>rw[JU,JU,ih,h.1]
theorem KV.repl{af:List (κ×V)}{vs:List (κ×As)}(r:KV af vs)(k:κ)(ry:RelV y u) :
  KV (af.map λkv=>if kv.1=k then(kv.1,y) else kv) (vs.map λkv=>if kv.1=k then(kv.1,u) else kv):=by
 unfold KV at r ⊢
 induction r with
 | nil=>exact .nil
 | @cons p q ps qs h t ih =>
  rw[B4,B4];refine .cons ?_ ih;obtain⟨h1,h2⟩:=h;by_cases e:p.1=k
  .rw[uD e,uD (h1.symm.trans e)];exact⟨h1,ry⟩
  .rw[uC e,uC (λz=>e (h1.trans z))];exact⟨h1,h2⟩
theorem KV.put{af:List (κ×V)}{vs:List (κ×As)}(r:KV af vs)(k:κ)(ry:RelV y u):KV (putK af k y) (stored vs k u):=by
 unfold putK stored;rw[r.any k];by_cases e:(vs.any λkv=>decide (kv.1=k))=true
 .rw[uD e,uD e];exact r.repl k ry
 .rw[uC e,uC e];exact T4 r ⟨rfl,ry⟩
theorem KV.length{af:List (κ×V)}{vs:List (κ×As)}(r:KV af vs):af.length=vs.length:=AV r
end
theorem Oc{k:Key}(r:RelV (kV k) u):(CV P w).is k u=true:=by
 cases k with
 | inl i=>obtain⟨t,e⟩:=r;subst e;exact Rq P w i t
 | inr x=>obtain⟨t,e⟩:=r;subst e;exact Sw P w x t
theorem Pb{P:AL}{w:AQ}:∀{ks:List Key}{us:List As},Vals (ks.map kV) us->ItemsAre (CV P w) ks us
 | [],_,r=>by rw[LI] at r;cases r;exact .nil
 | k::ks,_,r=>by
  rw[B4] at r;cases r with
  | cons h t=>exact .cons (Oc h) (Pb t)
abbrev KT(H:Hp):List (List Key×V)->List (List Key×Addr×As)->Prop:=BI λp q=>p.1=q.1/\H q.2.1=uA (.tup (p.1.map kV))/\RelV p.2 q.2.2
theorem KT.val{xs:List (List Key×Addr×As)}(r:KT H af xs)(k:List Key):RelO (valV af k) ((J4 xs k).map (·.2)):=by
 induction r with
 | nil=>exact IG
 | @cons p q ps qs h t ih =>
  obtain⟨h1,_,h2⟩:=h;by_cases e:p.1=k
  .have e':=h1.symm.trans e
   have b:J4 (q::qs) k=uA q.2:=by simp[J4,G4,e']
   rw[Cg e,b];exact h2
  .have e':¬ q.1=k:=λz=>e (h1.trans z)
   have b:J4 (q::qs) k=J4 qs k:=by simp[J4,G4,e']
   rw[CZ e,b];exact ih
theorem KT.repl{xs:List (List Key×Addr×As)}(r:KT H af xs)(k:List Key)(ry:RelV y u) :
  KT H (af.map λkv=>if kv.1=k then(kv.1,y) else kv) (xs.map (putAt k u)):=by
 induction r with
 | nil=>exact .nil
 | @cons p q ps qs h t ih =>
  rw[B4,B4];refine .cons ?_ ih;obtain⟨h1,h2,h3⟩:=h;unfold putAt;by_cases e:p.1=k
  .rw[uD e,uD (h1.symm.trans e)];exact⟨h1,h2,ry⟩
  .rw[uC e,uC (λz=>e (h1.trans z))];exact⟨h1,h2,h3⟩
theorem KT.put{xs:List (List Key×Addr×As)}(r:KT H af xs)(k:List Key)(hb:H b=uA (.tup (k.map kV)))(ry:RelV y u) :
  KT H (putK af k y) (Th xs k b u):=by
 have e:(af.any λkv=>decide (kv.1=k))=(J4 xs k).isSome:=by
  rw[HS,(r.val k).isSome_eq,L5]
 unfold putK Th;rw[e];by_cases q:(J4 xs k).isSome=true
 .rw[uD q,uD q];exact r.repl k ry
 .rw[uC q,uC q];exact T4 r ⟨rfl,hb,ry⟩
theorem KT.keeps{xs:List (List Key×Addr×As)}(r:KT H af xs)(ht:∀b ys,H b=uA (.tup ys)->H' b=uA (.tup ys)):KT H' af xs :=
 uZ r λ_ _ z=>⟨z.1,ht _ _ z.2.1,z.2.2⟩
theorem AFo{u:HO}(ok:HOk P w H h)(e:Rd H a u):ObjOk P w H h a u:=e.ok ok
theorem Pj{af:List (Key×V)}(ok:HOk P w H h)(e:Rd H a (.dK af)):af.length<=sizeLine/\(a==EC)=false/\∃vs,KV af vs/\h.DictOf (CV P w) a vs :=
 show ObjOk P w H h a (.dK af) from AFo ok e
theorem AFj{af:List (Key×V)}(ok:HOk P w H h)(e:H a=uA (.dK af)):af.length<=sizeLine/\(a==EC)=false/\∃vs,KV af vs/\h.DictOf (CV P w) a vs:=Pj ok (.inl e)
theorem NT{ks:List Key}(ok:HOk P w H h)(e:H a=uA (.tup (ks.map kV))):(NN (CV P w)).is h ks a:=by
 obtain⟨_,ag,r,o,h1,h2,n,h3⟩:=(ok a _ e);exact⟨o,ag.toArray,n,h1,h2,h3,by simpa using Pb r⟩
theorem QB(ok:HOk P w H h)(e:Rd H a (.dT af)):af.length<=sizeLine/\(a==EC)=false /\
  ∃xs,KT H af xs/\h.DictOfH (NN (CV P w)) a xs:=by
 obtain⟨z,y,xs,r,o,es,ep,h1,h2,h3,h4,h5⟩:=(AFo ok e);refine⟨z,y,xs,r,o,es,ep,h1,h2,h3,h4,λx hx=>?_,h5⟩;have all:∀{l:List (List Key×V)}{m:List (List Key×Addr×As)},KT H l m->∀x∈m,(NN (CV P w)).is h x.1 x.2.1:=by
  intro l m q
  induction q with
  | nil=>intro x hx;exact nomatch hx
  | @cons p q ps qs hq t ih =>
   intro x hx;rcases BH.mp hx with e| hx
   .subst e
    exact NT ok (by rw[<- hq.1];exact hq.2.1)
   .exact ih x hx
 exact all r x hx
theorem AHk(ok:HOk P w H h)(e:H a=uA (.dT af)):af.length<=sizeLine/\(a==EC)=false /\
  ∃xs,KT H af xs/\h.DictOfH (NN (CV P w)) a xs:=QB ok (.inl e)
def DGet(H:Hp)(a:Addr)(y:V)(r:Option V):Prop :=
 (∃af k,Rd H a (.dK af)/\y=kV k/\r=valV af k)\/∃af k b,Rd H a (.dT af)/\y=.ref b/\H b=uA (.tup (k.map kV))/\r=valV af k
def DPut(H:Hp)(a:Addr)(y v:V)(H':Hp):Prop :=
 (∃af k,H a=uA (.dK af)/\y=kV k/\af.length<sizeLine/\H'=upd H a (.dK (putK af k v))) \/
 ∃af k b,H a=uA (.dT af)/\y=.ref b/\H b=uA (.tup (k.map kV))/\af.length<sizeLine/\H'=upd H a (.dT (putK af k v))
theorem DGet.k{H:Hp}{a:Addr}{af:List (Key×V)}{k:Key}(e:H a=uA (.dK af)):DGet H a (kV k) (valV af k):=.inl ⟨af,k,.inl e,rfl,rfl⟩
theorem ux{k:List Key}(e:H a=uA (.dT af))(eb:H b=uA (.tup (k.map kV))):DGet H a (.ref b) (valV af k):=.inr ⟨af,k,b,.inl e,rfl,eb,rfl⟩
section
variable{r:As}{o:Option V}
theorem Inv.big(I:Inv X aa σ H s):EC<s.heap.objs.size:=by
 have h:=(I.mod.glob.keeps I.bk).lt;exact XE (by decide) h
theorem AAH(hu:A.units+1<C0)(I:Inv X aa σ H s)(g:DGet H a y (uA v))(ry:RelV y u)(h:∀w' s',Inv X aa σ H s'->RelV v w'->Q w' s') :
  wpAny (AM X.prog X.w) A (OO (.ref a) u) Q E s:=by
 rcases g with⟨af,k,e,ey,l⟩| ⟨af,k,b,e,ey,eb,l⟩
 .subst ey
  obtain⟨z,hd,vs,b5,dd⟩:=Pj I.hok e;obtain⟨w',hw,dE⟩:=ur (v:=v) (o:=OQ vs k) (by rw[l];exact b5.val k);exact wpAny_getItem_of (Oc ry) dd.mapOf hw (h w' _ (I.tok _) dE)
 .subst ey
  cases ry;obtain⟨z,hd,xs,b5,dd⟩:=QB I.hok e;obtain⟨w',hw,dE⟩:=ur (v:=v) (o:=(J4 xs k).map (·.2)) (by rw[l];exact b5.val k);obtain⟨p,hp,kG⟩:=Kb.mp hw;refine SR (LJ hu) (NT I.hok eb) dd hp ?_;rw[kG];exact h w' _ (I.tok _) dE
theorem AIO(hu:A.units+1<C0)(I:Inv X aa σ H s)(g:DGet H a y o)(ry:RelV y u)(h:∀s',Inv X aa σ H s'->Q (.bool o.isSome) s') :
  wpAny (AM X.prog X.w) A (ED .In u (.ref a)) Q E s:=by
 rcases g with⟨af,k,e,ey,l⟩| ⟨af,k,b,e,ey,eb,l⟩
 .subst ey
  obtain⟨z,hd,vs,b5,dd⟩:=Pj I.hok e;refine wpAny_in_of (Oc ry) hd dd.mapOf ?_;rw[<- (b5.val k).isSome_eq,<- l];exact h _ (I.tok _)
 .subst ey
  cases ry;obtain⟨z,hd,xs,b5,dd⟩:=QB I.hok e;refine wpAny_in_heap (LJ hu) (NT I.hok eb) hd dd ?_;have q:=(b5.val k).isSome_eq;rw[L5] at q;rw[<- q,<- l];exact h _ (I.tok _)
theorem Ka{ob:HO}(I:Inv X aa σ H s)(mu:Mut (H a))(hs:EZ a s.heap h')(he:∃q,h'.get? a=uA q)(new:ObjOk X.prog X.w (upd H a ob) h' a ob) :
  Inv X aa σ (upd H a ob) {s with heap:=h',toks:=t'} :=
 I.write (x:=a) (e:=a) mu (.inl rfl) (λb q hb z=>(hs.2 b hb).trans z) he new
theorem ABe{af:List (Key×V)}{vs:List (Key×As)}(z:af.length<=sizeLine)(hd:(a==EC)=false)(b5:KV af vs)(dd:h'.DictOf (CV P w) a vs) :
  ObjOk P w H' h' a (.dK af):=⟨z,hd,vs,b5,dd⟩
theorem AAZ{Q:uO}(hu:A.units+1<C0)(I:Inv X aa σ H s)(g:DPut H a y v H')(ry:RelV y u)(rv:RelV v r)(h:∀s',Inv X aa σ H' s'->Q () s') :
  wpAny (AM X.prog X.w) A (VY (.ref a) u r) Q E s:=by
 rcases g with⟨af,k,e,ey,l,eH⟩| ⟨af,k,b,e,ey,eb,l,eH⟩
 .subst ey eH
  obtain⟨z,hd,vs,b5,dd⟩:=AFj I.hok e;have hz:vs.length<=sizeLine:=by rw[<- b5.length];exact z
  have hl:(putK af k v).length<=sizeLine:=by have:=Ck af k v;exact wY this l
  refine wpAny_setItem_pairs (hsz:=hz) (Oc ry) dd λh' kx hs=>h _ ?_;have he:∃q,h'.get? a=uA q:=by obtain⟨q,_,_,hq,_⟩:=kx;exact⟨q,hq⟩
  exact Ka I (by rw[e];exact IG) hs he (ABe hl hd (b5.put k rv) kx)
 .subst ey eH
  cases ry;obtain⟨z,hd,xs,b5,dd⟩:=AHk I.hok e;have hz:xs.length<=sizeLine:=by rw[<- AV b5];exact z
  have hl:(putK af k v).length<=sizeLine:=by have:=Ck af k v;exact wY this l
  refine SS (hsz:=hz) (LJ hu) (NT I.hok eb) dd λh' kx hs=>h _ ?_;obtain⟨q,es,ep,hq,h2,h3,h4,_,h5⟩:=kx;refine Ka I (by rw[e];exact IG) hs ⟨q,hq⟩ ⟨hl,hd,_,(b5.put k eb rv).keeps λc ys ec=>?_,q,es,ep,hq,h2,h3,h4,h5⟩;rw[Af (DQ ec e (λz=>nomatch z))];exact ec
end
def NoSl(i:Expr):Prop:=∀ov iv,P3 i false ov iv=operate [ov,iv] (OO ov iv)
theorem Yt{env:Env}{bn:Expr}{id:String}
  (hl:typeLookup (.type T) "__getitem__" = pure (uA (.builtin id))) (hs:NoSl bn)
  (h:wpAny (AM prog w) A (eval a5 env) (λo s₁=>wpAny (AM prog w) A (eval bn env) (λi s₂=>s₂.TypeIs o T/\wpAny (AM prog w) A (OO o i) Q E s₂) E s₁) E s) :
  wpAny (AM prog w) A (eval (.Subscript a5 bn pos) env) Q E s:=by
 refine UZ (EK h (λo s₁ h₁=>EK h₁ (λi s₂ h₂=>?_) λ_ _ x=>x) λ_ _ x=>x);obtain⟨hT,h₂⟩:=h₂;unfold subscriptTail;refine Au ?_;rw[getitemInPython_of_ne hT.not_modules];refine Au (Iy hT hl ?_);have fin:wpAny (AM prog w) A (P3 bn false o i) (λr s₃=>wpAny (AM prog w) A (letTemporaryGo a5 o r >>= λ_=>pure r) Q E s₃) E s₂:=by
  rw[hs o i];exact wpAny_operating (EK h₂ (λr s₃ h₃=>Au (wpAny_letTemporaryGo (AC h₃))) λ_ _ x=>x)
 first
  | exact AC (Au fin)
  | exact Au (AC (Au fin))
  | exact Au fin
theorem Ux{o:Option V}(I:Inv X aa σ H s)(g:DGet H a y o):s.TypeIs (.ref a) "dict":=by
 rcases g with⟨af,k,e,_,_⟩| ⟨af,k,b,e,_,_,_⟩
 .obtain⟨_,_,vs,_,dd⟩:=Pj I.hok e
  exact dd.typeIs
 .obtain⟨_,_,xs,_,dd⟩:=QB I.hok e
  exact dd.typeIs
def AHO(td ty:TE):TE:=λσ H Q=>td σ H λx H1=>ty σ H1 λy H2=>∃a v,x=.ref a/\DGet H2 a y (uA v)/\Q v H2
def AHx(ty td:TE):TE:=λσ H Q=>ty σ H λy H1=>td σ H1 λx H2=>∃a o,x=.ref a/\DGet H2 a y o/\Q (.bl o.isSome) H2
def AHg(td ty tv:TE):TS:=λD σ H=>tv σ H λv H1=>td σ H1 λx H2=>ty σ H2 λy H3=>∃a H4,x=.ref a/\DPut H3 a y v H4/\D.nx σ H4
section
variable{o i:Expr}{ty:TE}
theorem Qn(hu:X.A.units+1<C0)(ho:PE X o td)(hi:PE X i ty)(hs:NoSl i):PE X (.Subscript o i pos) (AHO td ty):=by
 intro aa s σ H Q I h;refine Yt OH.lookup hs (thn (ho aa s σ H _ I h) λu s1 ⟨x,H1,I1,rx,q1⟩=>thn (hi aa s1 σ H1 _ I1 q1) λiv s2 hq=>?_);obtain⟨y,H2,I2,ry,a,v,ex,g,q2⟩:=hq;subst ex;obtain rfl:u=A7 a:=rx;exact⟨Ux I2 g,AAH hu I2 g ry λw' s3 I3 dE=>⟨v,H2,I3,dE,q2⟩⟩
theorem ACS(hu:X.A.units+1<C0)(hi:PE X i ty)(ho:PE X o td):PC X .In i o (AHx ty td):=by
 intro aa s σ H Q I h;refine thn (hi aa s σ H _ I h) λiv s1 ⟨y,H1,I1,ry,q1⟩=>thn (ho aa s1 σ H1 _ I1 q1) λu s2 hq=>?_;obtain⟨x,H2,I2,rx,a,ov,ex,g,q2⟩:=hq;subst ex;obtain rfl:u=A7 a:=rx;exact AIO hu I2 g ry λs3 I3=>⟨.bl ov.isSome,H2,I3,rfl,q2⟩
theorem Km(hu:X.A.units+1<C0)(ho:PE X o td)(hi:PE X i ty)(hv:PE X a5 tv)(hs:MC a5 (uA (.Subscript o i bg)) pos.line X.env=pure false) :
  PS X (.Assign [.Subscript o i bg] a5 pos) (AHg td ty tv):=by
 intro aa s σ H D I h;refine P7 (thn (hv aa s σ H _ I h) λr s1 ⟨v,H1,I1,rv,q1⟩=>thn (ho aa s1 σ H1 _ I1 q1) λu s2 ⟨x,H2,I2,rx,q2⟩=>thn (hi aa s2 σ H2 _ I2 q2) λiv s3 hq=>?_) hs;obtain⟨y,H3,I3,ry,a,H4,ex,g,q3⟩:=hq;subst ex;obtain rfl:u=A7 a:=rx;exact AAZ hu I3 g ry rv λs4 I4=>⟨σ,H4,I4,q3⟩
end
theorem ACP(h:Heap)(hb:EC<h.objs.size):ObjOk P w H (h.push {cls:=.type "dict",data:=.dict #[]}) h.objs.size (.dK []) :=
 ⟨AY _,beq_eq_false_iff_ne.mpr (Cb (BU hb)),[],.nil,Z3 h⟩
theorem ADc(h:Heap)(hb:EC<h.objs.size):ObjOk P w H (h.push {cls:=.type "dict",data:=.dict #[]}) h.objs.size (.dT []) :=
 ⟨AY _,beq_eq_false_iff_ne.mpr (Cb (BU hb)),[],.nil,_,#[],0,AU _ rfl,⟨rfl,rfl,rfl⟩,rfl,rfl,KP⟩
def AGd:TE:=λ_ H Q=>∀p,H p=none->Q (.ref p) (upd H p (.dT []))
theorem ABi:PE X (.Dict [] [] pos) AGd:=λaa s σ H Q I h =>
 wpAny_Dict_empty ⟨.ref s.heap.objs.size,_,I.laid (a:=s.heap.objs.size) (o:=.dT []) (t':=s.toks) (λ_ _ q=>AJ _ q) (AF _) (ADc s.heap I.big),rfl,h _ (I.hok.fresh (AF _))⟩
def Vz:List (TE×TE)->St->Hp->(List (V×V)->Hp->Prop)->Prop
 | [],_,H,Q=>Q [] H
 | (tk,tv)::r,σ,H,Q=>tk σ H λx H1=>tv σ H1 λy H2=>Vz r σ H2 λps H3=>Q ((x,y)::ps) H3
abbrev VV:List (V×V)->List (As×As)->Prop:=BI λp q=>RelV p.1 q.1/\RelV p.2 q.2
def PPs(X:Cx)(pos:Pos)(keys:List (Option Expr))(cv:uV)(kX:List (TE×TE)):Prop :=
 ∀(aa:uQ) (s:AA) (σ:St) (H:Hp) (Q:List (V×V)->Hp->Prop),Inv X aa σ H s->Vz kX σ H Q ->
  wpAny (AM X.prog X.w) X.A (evalPairs (pairTrees keys cv X.env pos)) (λvs s'=>∃ps H',Inv X aa σ H' s'/\VV ps vs/\Q ps H') X.xe s
theorem Yz:PPs X pos [] [] []:=λaa s σ H Q I h=>pairTrees_nil_walk ⟨[],H,I,.nil,h⟩
theorem Lj{k v:Expr}{ks:List (Option Expr)}{vs:uV}{tk:TE}(hk:PE X k tk)(hv:PE X v tv)(hr:PPs X pos ks vs kX) :
  PPs X pos (uA k::ks) (v::vs) ((tk,tv)::kX):=λaa s σ H Q I h =>
 pairTrees_cons_walk (thn (hk aa s σ H _ I h) λu s1 ⟨x,H1,I1,rx,q1⟩=>thn (hv aa s1 σ H1 _ I1 q1) λw2 s2 ⟨y,H2,I2,ry,q2⟩ =>
  thn (hr aa s2 σ H2 _ I2 q2) λws s3 ⟨ps,H3,I3,b5,q3⟩=>⟨(x,y)::ps,H3,I3,.cons ⟨rx,ry⟩ b5,q3⟩)
noncomputable def mergeK(af more:List (Key×V)):List (Key×V):=more.foldl (λacc kv=>putK acc kv.1 kv.2) af
theorem KV.merge:∀{more:List (Key×V)}{rs:List (Key×As)}{af:List (Key×V)}{vs:List (Key×As)},KV more rs->KV af vs->KV (mergeK af more) (merged vs rs):=by
 intro more rs af vs r;unfold KV at r
 induction r generalizing af vs with
 | nil=>intro q;exact q
 | @cons p q ps qs h t ih =>
  intro r0;have e:KV (putK af p.1 p.2) (stored vs q.1 q.2):=by
   have:=r0.put p.1 h.2;rw[<- h.1];exact this
  exact ih e
theorem IW:∀(more af:List (Key×V)),(mergeK af more).length<=af.length+more.length
 | [],af=>by show af.length<=af.length+0;exact u9
 | p::r,af=>by
  have h1:=IW r (putK af p.1 p.2);have h2:=Ck af p.1 p.2;show(mergeK (putK af p.1 p.2) r).length<=_;rw[C9];lia
theorem Mr{P:AL}{w:AQ}:∀{af:List (Key×V)}{ws:List (As×As)},VV (af.map λkv=>(kV kv.1,kv.2)) ws->∃rs,Carries (CV P w) ws rs/\KV af rs
 | [],_,r=>by rw[LI] at r;cases r;exact⟨[],IG,.nil⟩
 | p::af,_,r=>by
  rw[B4] at r;cases r with
  | @cons a b as bs h t =>
   obtain⟨rs,c,q⟩:=Mr (P:=P) (w:=w) t;obtain⟨b1,b2⟩:=b;exact⟨(p.1,b2)::rs,⟨Oc h.1,rfl,c⟩,.cons ⟨rfl,h.2⟩ q⟩
def AHm(kX:List (TE×TE)):TE:=λσ H Q=>∀p,H p=none->Vz kX σ (upd H p (.dK [])) λps H2=>H2 p=uA (.dK [])/\∃af:List (Key×V),ps=af.map (λkv=>(kV kv.1,kv.2))/\af.length<=15/\Q (.ref p) (upd H2 p (.dK (mergeK [] af)))
theorem Yp{keys:List (Option Expr)}{cv:uV}(h:PPs X pos keys cv kX)(bp:keys.all (·.isSome)=true)(hl:keys.length=cv.length)(h0:keys≠[])
  (h15:keys.length<=15):PE X (.Dict keys cv pos) (AHm kX):=by
 intro aa s σ H Q I q;have hn:=I.hok.fresh (AF s.heap.objs.size);have I1:=I.laid (a:=s.heap.objs.size) (o:=.dK []) (h':=s.heap.push {cls:=.type "dict",data:=.dict #[]}) (t':=s.toks) (λ_ _ q=>AJ _ q) (AF _) (ACP s.heap I.big);refine wpAny_Dict_walk (knd:=CV X.prog X.w) bp hl h0 h15 (thn (h aa _ σ _ _ I1 (q _ hn)) λws s2 hq=>?_);obtain⟨ps,H2,I2,b5,e,af,ep,lk,q2⟩:=hq;subst ep;obtain⟨rs,c,rk⟩:=Mr (P:=X.prog) (w:=X.w) b5;obtain⟨z,hd,vs0,r0,dd⟩:=AFj I2.hok e;cases r0;refine⟨rs,c,dd,λh' kx hs=>⟨.ref s.heap.objs.size,_,?_,rfl,q2⟩⟩;have hz:(mergeK [] af).length<=sizeLine:=by
  have h1:=IW af [];rw[J2] at h1;rw[Go];lia
 have he:∃q,h'.get? s.heap.objs.size=uA q:=by obtain⟨q,_,_,hq,_⟩:=kx;exact⟨q,hq⟩
 exact Ka I2 (by rw[e];exact IG) hs he (ABe hz hd (rk.merge .nil) kx)
structure M2(X:Cx)(o:Expr)(m:Str)(bE:Pos)(e f:Expr)(bt:Pos):Prop where
 base:Mo o m X.env (eval o X.env)=eval o X.env
 few:((KF bt (CI [e,f] X.env)).all (λx=>!x.1)&&(UF bt (PV [] X.env)).all (λx=>x.1.isSome)
  && decide (([e,f]:uV).length+([]:List V2).length+(if([]:List V2).isEmpty then 0 else 1)<30))=true
 line:(bE.endLine==bt.line)=true
 trees:KF bt (CI [e,f] X.env)=[(false,eval e X.env),(false,eval f X.env)]
def IsD(H:Hp)(a:Addr):Prop:=(∃af,Rd H a (.dK af))\/∃af,Rd H a (.dT af)
theorem AGh(I:Inv X aa σ H s)(d:IsD H a) :
  s.TypeIs (.ref a) "dict"/\(∀b,A7 a=.ref b->∃ob,s.heap.get? b=uA ob/\ob.dict=uB)/\(a==EC)=false:=by
 rcases d with⟨af,e⟩| ⟨af,e⟩
 .obtain⟨_,hd,vs,_,dd⟩:=Pj I.hok e
  refine⟨dd.typeIs,λb q=>?_,hd⟩;cases q;obtain⟨ob,_,_,h1,h2,_⟩:=dd;exact⟨ob,h1,h2.2.1⟩
 .obtain⟨_,hd,xs,_,dd⟩:=QB I.hok e
  refine⟨dd.typeIs,λb q=>?_,hd⟩;cases q;obtain⟨ob,_,_,h1,h2,_⟩:=dd;exact⟨ob,h1,h2.2.1⟩
section
variable{d:V}{r:As}{o:Option V}
theorem AGs(hu:A.units+1<C0)(I:Inv X aa σ H s)(g:DGet H a y o)(ry:RelV y u)(rd:RelV d r)(h:∀w' s',Inv X aa σ H s'->RelV (o.getD d) w'->Q w' s') :
  wpAny (AM X.prog X.w) A (call (.builtin "dict.get") [.ref a,u,r]) Q E s:=by
 rcases g with⟨af,k,e,ey,l⟩| ⟨af,k,b,e,ey,eb,l⟩
 .subst ey
  obtain⟨z,hd,vs,b5,dd⟩:=Pj I.hok e;refine SU MG dd.typeIs P8 (Pe _ _ _) (meets_dict_get_default (CV X.prog X.w) a (Oc ry) hd r) ⟨_,dd.mapOf,h _ _ (I.tok _) ?_⟩;rw[l];exact(b5.val k).getD rd
 .subst ey
  cases ry;obtain⟨z,hd,xs,b5,dd⟩:=QB I.hok e;refine SU MG dd.typeIs P8 (Pe _ _ _) (meetsH_dict_get_default (NN (CV X.prog X.w)) a b hd r) ⟨LJ hu,k,xs,NT I.hok eb,dd,h _ _ (I.tok _) ?_⟩;rw[l];exact(b5.val k).getD rd
end
def AGV(td ty tx:TE):TE:=λσ H Q=>td σ H λx H1=>∃a,x=.ref a/\IsD H1 a/\ty σ H1 λy H2=>tx σ H2 λz H3=>∃o,DGet H3 a y o/\Q (o.getD z) H3
section
variable{o f:Expr}{ty tx:TE}
theorem ADj(hu:X.A.units+1<C0)(ho:PE X o td)(he:PE X e ty)(hf:PE X f tx)(m:M2 X o "get" bE e f bt):PE X (.Call (.Attribute o "get" bE) [e,f] [] bt) (AGV td ty tx):=by
 intro aa s σ H Q I h;refine wpAny_Call_method m.base m.few m.line PySem.F.plainAttrs_dict MG PySem.F.type_dict_get (thn (ho aa s σ H _ I h) λu s1 hq=>?_);obtain⟨x,H1,I1,rx,a,ex,d,q1⟩:=hq;subst ex;obtain rfl:u=A7 a:=rx;obtain⟨t1,t2,_⟩:=AGh I1 d;refine⟨t1,t2,?_⟩;rw[m.trees];refine Mc rfl (Rc (J1 (thn (he aa s1 σ H1 _ I1 q1) λiv s2 ⟨y,H2,I2,ry,q2⟩ =>
  J1 (thn (hf aa s2 σ H2 _ I2 q2) λfv s3 ⟨z,H3,I3,rz,ov,g,q3⟩=>LY ?_))))
 exact AGs hu I3 g ry rz λw' s4 I4 dE=>⟨_,H3,I4,dE,q3⟩
end
end L2
namespace L2
open PySem PySem.Spec PyProof.Rows
open Sem (wp)
theorem Zf{es:Array NV}(hd:(d==EC)=false)(hT:s.TypeIs (.ref d) "dict")(ho:s.heap.get? d=uA o)(gc:o.data=.dict es ep)
  (hQ:Q (.ref s.heap.objs.size) {s with heap:=s.heap.push {cls:=.type "dict_keyiterator",data:=.fields #[.ref d,.int 0 0,.int es.size 0,.int ep 0]}}) :
  wpAny (AM prog w) A (Qr (.ref d)) Q E s:=by
 refine OB hT UO (D1 UO hT F.entry_dict_iter ?_ (F.args_dict_iter_1 _));unfold Builtin.«dict.__iter__»;refine Au ?_;unfold XB;refine Au (wpAny_notOrdered_dict hT ?_);refine AC ?_;show wpAny _ _ (QN d >>= _) _ _ s;unfold QN;rw[uC (by rw[hd];exact Be)];refine Au (AC ?_);refine Au (L6 ho gc ?_);refine Au (Pt ho gc ?_);refine Au (DS (AC ⟨_,rfl, "dict_keyiterator",_,⟨_,AU _ rfl,rfl⟩,FC.lookup,?_⟩));simpa [Hm] using hQ
theorem ACR{es:Array NV}{od:Obj}{Q:Option As->AA->Prop}(bq:s.heap.IsKeyIter it d i es.size ep)
  (tD:s.heap.get? d=uA od) (tm:od.data=.dict es ep) (hlt':i<es.size)
  (hQ:∀h',h'.IsKeyIter it d (i+1) es.size ep->EZ it s.heap h'->Q (uA es[i].key) {s with heap:=h'}) :
  wpAny (AM prog w) A (L8 (.ref it)) Q E s:=by
 obtain⟨o,ho,hc,hd⟩:=id bq;unfold L8;refine Au (N7 (wpAny_callSpecial?_slot (name:=KG "__next__") bq.typeIs FC
  (D1 FC bq.typeIs M9 ?_ (MY _))))
 refine Au (AC ?_);refine Au ?_;refine Au ?_
 first| refine Au (Hd bq.typeIs (AC ?_))| refine Au (IU bq.typeIs (AC ?_))
 refine Au (QO ho hd ?_);have hown:NG "dict_keyiterator" = false:=by decide
 show wpAny _ _ (if(A7 d==DE)=true then _ else _) _ _ s;rw[uC (show ¬ ((A7 d==DE)=true) from Be)];refine Au (AC ?_);refine Au (L6 tD tm ?_);rw[uC (by simp)];refine Au (AC ?_);refine Au (Pt tD tm ?_);rw[uC (by simp)];refine AC ?_;simp only[show ¬ ((i:Int)<0) from wD,if_false,Cc,Bi hlt'];refine Au ?_
 first| refine Au (Hd bq.typeIs (AC ?_))| refine Au (IU bq.typeIs (AC ?_))
 refine Au (QP bq.typeIs ?_);show wpAny _ _ (setField (.ref it) 1 (Hm ((i:Int)+1)) >>= _) _ _ s;refine Au (IQ ho hd (by simp) ?_);have fz:(s.heap.update it (N8 (·.setIfInBounds 1 (Hm ((i:Int)+1))))).IsKeyIter it d (i+1) es.size ep :=
  ⟨_,EM _ ho (KL (Fk hd _)),(L4 ..).trans hc,by rw[Fk hd];simp[Hm]⟩
 refine Au (EA ?_);refine Au (QP (s:={s with heap:=s.heap.update it (N8 (·.setIfInBounds 1 (Hm ((i:Int)+1))))}) fz.typeIs ?_);exact AC (AC ⟨_,rfl,AC (hQ _ fz (D9 ..))⟩)
theorem AAa{es:Array NV}{od:Obj}{Q:Option As->AA->Prop}(hh:A.handled=uB)(bq:s.heap.IsKeyIter it d i es.size ep)
  (tD:s.heap.get? d=uA od) (tm:od.data=.dict es ep) (t5:es.size<=i)
  (hQ:∀h',TW it s.heap h'->Q uB {s with heap:=h'}):wpAny (AM prog w) A (L8 (.ref it)) Q E s:=by
 obtain⟨o,ho,hc,hd⟩:=id bq;unfold L8;refine Au (N7 (wpAny_callSpecial?_slot (name:=KG "__next__") bq.typeIs FC
  (D1 FC bq.typeIs M9 ?_ (MY _))))
 refine Au (AC ?_);refine Au ?_;refine Au ?_
 first| refine Au (Hd bq.typeIs (AC ?_))| refine Au (IU bq.typeIs (AC ?_))
 refine Au (QO ho hd ?_);have hown:NG "dict_keyiterator" = false:=by decide
 show wpAny _ _ (if(A7 d==DE)=true then _ else _) _ _ s;rw[uC (show ¬ ((A7 d==DE)=true) from Be)];refine Au (AC ?_);refine Au (L6 tD tm ?_);rw[uC (by simp)];refine Au (AC ?_);refine Au (Pt tD tm ?_);rw[uC (by simp)];refine AC ?_;simp only[show ¬ ((i:Int)<0) from wD,if_false,Cc,HR t5];refine Au ?_
 first| refine Au (Hd bq.typeIs (AC ?_))| refine Au (IU bq.typeIs (AC ?_))
 show wpAny _ _ (setField (.ref it) 0 .none >>= _) _ _ s;refine Au (IQ ho hd (by simp) ?_);refine Au ?_;refine Au (DS ?_ (by size_fits));refine Au (m:=KM _ _) (Me (a:=DE) (by first| rfl| (simp only[KM];rfl)) ?_);refine DS ?_ (by size_fits);refine Au (R6 ?_);rw[show A.in1.handled=uB from hh];refine Au (AC (TZ ?_));refine Au (IX (T:="StopIteration") (b:=true) ⟨_,AU _ rfl,rfl⟩ V7 ?_);exact AC (hQ _ (((D9 ..).extBut.push _).push _))
end L2
namespace L2
open PySem PySem.Spec PyProof.Rows
section
variable{es:Array NV}
theorem Ve(hh:A.handled=uB)(I:Addr)(dQ:d≠I)(hd:o.data=.dict es ep) :
  Walks prog w A I [I,d] [I] es.size (λi v=>∃e,es[i]?=uA e/\v=e.key) (λi h=>h.IsKeyIter I d i es.size ep/\h.get? d=uA o) where
 sub:=λb hb=>by simp at hb;simp[hb]
 frame:=λ_ _ _ st hk=>⟨st.1.at λo e=>hk I (by simp) o e,hk d (by simp) o st.2⟩
 item:=λi s Q E hi st hQ=>by
  refine ACR st.1 st.2 hd hi λh' fz om=>?_;exact hQ _ h' s.toks ⟨es[i],by simp[hi],rfl⟩ ⟨fz,om.extBut d o dQ st.2⟩ λb o hb e=>om.extBut b o (λh=>hb (by simp[h])) e
 done:=λs Q E st hQ=>AAa hh st.1 st.2 hd (AF _) λh' he'=>hQ h' s.toks λb o hb e=>he' b o (λh=>hb (by simp[h])) e
 self:=λ_ _ _ _ st hQ=>wpAny_pyIter_keyiter st.1 hQ
theorem ADZ(lo:(d==EC)=false)(hx:o.ExactDict)(hd:o.data=.dict es ep) :
  PySem.W.KdlSrc prog w "dict" d d es.size (λi v=>∃e,es[i]?=uA e/\v=e.key) (λh=>h.get? d=uA o) where
 type:=λ_ hm=>⟨o,hm,hx.1⟩
 there:=λ_ hm=>⟨Bz hm,Bz hm⟩
 keep:=λ_ _ hm hk=>hk d (.inl rfl) o hm
 notList:=by decide
 notTuple:=by decide
 hint:=λ_ _ _ _ hm hq=>PySem.W.kdl_hint_dict ⟨o,hm,hx.1⟩ hq
 iter:=λ_ _ hh hm=>⟨_,_,(λ_ _ hq=>Zf lo ⟨o,hm,hx.1⟩ hm hd hq),Ve hh _ (BU (Bz hm)) hd,⟨⟨_,AU _ rfl,rfl,rfl⟩,AJ _ hm⟩⟩
end
def KeyL(H:Hp):List (List Key×V)->List V->Prop:=BI λkv y=>∃b,y=.ref b/\H b=uA (.tup (kv.1.map kV))
theorem AEy:∀{af:List (List Key×V)}{xs:List (List Key×Addr×As)},KT H af xs->KeyL H af (xs.map λx=>.ref x.2.1):=by
 intro l m h
 induction h with
 | nil=>exact .nil
 | cons h t ih=>exact .cons ⟨_,rfl,h.2.1⟩ ih
theorem Qh(hc:X.calm=true):CallR X (.type "list") (λxs H Q=>∃p af,xs=[.ref p]/\H p=uA (.dT af)/\∀l ys,H l=none->KeyL H af ys->Q (.ref l) (upd H l (.lst ys))):=by
 intro aa s σ H xs us Q I rr h;obtain⟨p,af,rfl,hp,q⟩:=h;obtain⟨u,rfl,ru⟩:=rr.one;cases ru;obtain⟨z,lo,ts,kt,o,es,ep,h1,h2,h3,h4,h5⟩:=(I.hok p _ hp);have hl:es.size=af.length:=by
  rw[<- A9,h4,AB];exact(AV kt).symm
 refine PySem.W.kdl_call (ADZ lo h2 h3) (I.ok.hd hc) h1 (by rw[hl];exact z) λh' tk ay c' hk hS aE=>?_;have hn:=I.hok.fresh (AF _);refine⟨.ref s.heap.objs.size,_,I.laid (a:=s.heap.objs.size) (o:=.lst (ts.map λx=>V.ref x.2.1)) (t':=tk) hk (AF _) ⟨?_,ay.toList,c',?_,?_⟩,rfl,q _ _ hn (AEy kt)⟩
 .rw[AB,<- AV kt];exact z
 .refine Kg (by rw[AB];exact(AV kt).symm.trans (hl.symm.trans (aE.1.symm.trans (A9).symm))) λi x u e1 e2=>?_
  have e2':ay[i]?=uA u:=by simpa using e2
  obtain⟨e,e3,rfl⟩:=aE.2 i u e2';rw[<- Cf,h4,AS] at e3;rw[AS] at e1;cases g:ts[i]? with
  | none=>rw[g] at e1;cases e1
  | some t =>
   rw[g] at e1 e3;cases e1;cases e3;rfl
 .simpa using hS
theorem Ma:∀ns:uI,HT.lexLt ns ns=false
 | []=>rfl
 | x::xs=>by rw[HT.Cm,uD rfl];exact Ma xs
def rAddT(K:Ap):R2:=λx y H Q=>∃a b xs ys,x=.ref a/\y=.ref b/\SqT K H a xs/\SqT K H b ys/\xs.length+ys.length<=sizeLine /\
 (xs=[]->Q (.ref b) H)/\(xs≠[]->ys=[]->Q (.ref a) H)/\(xs≠[]->ys≠[]->∀p,H p=none->Q (.ref p) (upd H p (.tup (xs++ys))))
theorem Yl:OpR X (G1 .Add) (rAddT X.K):=by
 intro aa s σ H x y v u Q I rx ry h;obtain⟨a,b,xs,ys,rfl,rfl,ha,hb,hz,q0,q1,q2⟩:=h;by_cases e:xs=[]
 .cases rx;cases ry
  obtain⟨ag,r1,p1,_⟩:=I.tuple ha;obtain⟨eh,r2,p2,_⟩:=I.tuple hb;subst e;cases r1;obtain⟨⟨cls,dd,data,sl⟩,ho,hc,n,hd⟩:=id p1;obtain⟨⟨kH,gT,XA,gE⟩,eC,fg,n2,eQ⟩:=id p2;simp only at hc hd fg eQ;subst hc hd fg eQ;exact OW ⟨_,ho,rfl⟩ ⟨_,eC,rfl⟩ OX RY Mb LW (LH _ _)
   (tuple_addW0 a b #[] eh.toArray n n2 dd gT sl gE rfl) ⟨ho,eC,⟨.ref b,H,I,rfl,q0 rfl⟩⟩
 .exact AEo aa s σ H _ _ v u Q I rx ry ⟨a,b,xs,ys,rfl,rfl,ha,hb,e,hz,q1 e,q2 e⟩
end L2
namespace L2
open PySem PySem.Spec PyProof.Rows
open AutoSeq1 (wpAny_loadPart')
theorem Nk{Q:List As->AA->Prop}{r:Addr}{a b c:Int}{t u v:Tok}(hh:A.handled=uB)(hr:IsRange s.heap r a b c t u v)(eI:Ll a b c=true)
  (hn:FD a b c=n) (aw:n<=2 ^ 24)
  (hQ:∀h' tk acc,(∀b o,s.heap.get? b=uA o->h'.get? b=uA o)->ItemsOf (λi v=>∃t,v=.int (a+i*c) t) acc n->Q acc.toList {s with heap:=h',toks:=tk}) :
  wpAny (AM prog w) A (QI (.ref r)) Q E s:=by
 unfold QI;refine Au (NF (EE NY ?_));rw[EF N0 _];refine Au (DS ?_);refine AC ⟨JY JO _,EE Pf ?_⟩;rw[EF JO _];have hS:(s.heap.push {cls:=.type "list",data:=.seq ([]:List As).toArray}).get? s.heap.objs.size=uA {cls:=.type "list",data:=.seq #[] 0}:=AU _ rfl;have iX:∀(h':Heap) (tk:Nat) (ay:Array As) (c':Nat),(∀b o,b≠s.heap.objs.size->(s.heap.push {cls:=.type "list",data:=.seq ([]:List As).toArray}).get? b=uA o->h'.get? b=uA o)->h'.get? s.heap.objs.size=uA {cls:=.type "list",dict:=uB,data:=.seq ay c',slots:=#[]} ->
   ItemsOf (λi v=>∃t,v=.int (a+i*c) t) ay n->wpAny (AM prog w) A (match A7 s.heap.objs.size with
   | A7 a=>do
    match (<- load a).data with
     | Data.seq xs _=>pure xs.toList
     | _=>unsupported "internal:collect"
   | _=>unsupported "internal:collect") Q E {s with heap:=h',toks:=tk}:=λh' tk ay c' hk db aE=>by
  refine Au (Q5 db ?_);refine AC ?_;exact hQ h' tk ay (λb o e=>hk b o (BU (Bz e)) (AJ _ e)) aE
 refine EK (wpAny_extend_range (A:=A) (R:=λr s'=>∃h' tk ay c',r=.ok (.ret (.ref s.heap.objs.size))/\s'={s with heap:=h',toks:=tk}/\(∀b o,b≠s.heap.objs.size->(s.heap.push {cls:=.type "list",data:=.seq ([]:List As).toArray}).get? b=uA o->h'.get? b=uA o)/\h'.get? s.heap.objs.size=uA {cls:=.type "list",dict:=uB,data:=.seq ay c',slots:=#[]}/\ItemsOf (λi v=>∃t,v=.int (a+i*c) t) ay n)
  (s:={s with heap:=s.heap.push {cls:=.type "list",data:=.seq ([]:List As).toArray}}) hh (AJ _ hr) eI hn aw s.heap.objs.size (.ref s.heap.objs.size) 0 hS λh' tk ay c' hk db aE=>⟨h',tk,ay,c',rfl,rfl,hk,db,aE⟩) (λfin s' h=>?_) (λe s' h=>?_)
 .cases fin with
  | done f =>
   obtain⟨h',tk,ay,c',e,rfl,hk,db,aE⟩:=h;cases e;exact iX h' tk ay c' hk db aE
  | again c'=>exact⟨h.1,FU h.2 λr tW hr=>by obtain⟨h',tk,ay,c',rfl,rfl,hk,db,aE⟩:=hr;exact iX h' tk ay c' hk db aE⟩
 .obtain⟨_,_,_,_,e,_⟩:=h
  cases e
theorem meets_tuple_range(r:Addr)(a b c:Int)(t u v:Tok)(n:Nat)(eI:Ll a b c=true)(hn:FD a b c=n)(aw:n<=1000) :
  Meets (Builtin.«tuple.__new__» ⟨[.type "tuple",.ref r],[]⟩)
   (λA R s=>A.handled=uB/\IsRange s.heap r a b c t u v/\∀(h':Heap) (tk:Nat) (acc:Array As),(∀b o',s.heap.get? b=uA o'->h'.get? b=uA o')->ItemsOf (λi v=>∃t,v=.int (a+i*c) t) acc n ->
    R (.ok (.ret (.ref h'.objs.size))) {s with heap:=h'.push {cls:=.type "tuple",data:=.seq acc},toks:=tk}) :=
 .of_wp λprog w A R s h=>by
  obtain⟨hp,g,d,tk,os⟩:=s;obtain⟨hh,ht,h⟩:=h;have pV:=sub_tuple_self;have hinit:=init_tuple_lookup;have hmh:=madeHere_tuple;have hT:WP ⟨hp,g,d,tk,os⟩ (.ref r) "range":=⟨_,ht,rfl⟩
  wp_walk using wpAny_loadPart' ht,MW hT,Nk (A:=A.in1) hh ht eI hn (by lia)
  intro h' tk' acc hk aE;show wpAny _ _ (O0 acc.toList.toArray >>= λv=>ret v) _ _ _;unfold O0;refine Au (DS ?_ (by show acc.toList.toArray.size<=sizeLine;rw[Re,aE.1];exact small aw));refine AC ⟨_,rfl,?_⟩;have e:acc.toList.toArray=acc:=by simp
  rw[e];exact h h' tk' acc hk aE
theorem Mf(hc:X.calm=true):CallR X (.type "tuple") (λxs H Q=>∃r j,xs=[.ref r]/\H r=uA (.rng 0 j)/\0<=j/\j<=1000/\∀l,H l=none->Q (.ref l) (upd H l (.tup ((below j.toNat).map V.int)))):=by
 intro aa s σ H xs us Q I rr h;obtain⟨r,j,rfl,hr,j0,j1,q⟩:=h;obtain⟨u,rfl,ru⟩:=rr.one;cases ru;obtain⟨t1,t2,t3,e⟩:=I.hok r _ hr;refine callType_new PySem.F.called_tuple (by decide) (PySem.F.typeCall_tuple_1 _) (PySem.F.newCall_tuple_1 _) (λobj=>PySem.F.args_object_init_2 obj _) PySem.F.entry_tuple_new
  (meets_tuple_range r 0 j 1 t1 t2 t3 j.toNat (Wp (by lia) (by lia) (by lia) (by lia)) (by rw[RU];split<;>lia) (wX j1)) ⟨I.ok.hd hc,e,λh' tk acc hk aE=>⟨⟨_,AU _ rfl,rfl⟩,?_⟩⟩
 have I1:Inv X aa σ H {s with heap:=h',toks:=tk}:=I.kept hk;have hn:=I1.hok.fresh (AF _);refine⟨.ref h'.objs.size,_,I1.laid (a:=h'.objs.size) (o:=.tup ((below j.toNat).map V.int)) (t':=tk) (λb o e=>AJ _ e) (AF _) ⟨?_,acc.toList,?_,⟨_,AU _ rfl,rfl,0,by simp⟩⟩,rfl,q _ hn⟩
 .rw[AB,AB,CB]
  exact small (wX j1)
 .refine Kg (by simp[aE.1]) λi x u h1 h2=>?_
  have kc:acc[i]?=uA u:=by simpa using h2
  obtain⟨t,rfl⟩:=aE.2 i u kc;have hi:i<j.toNat:=by
   have:=(C7.mp kc).1;rw[aE.1] at this;exact this
  rw[AS,AS,E7 hi] at h1;have ex:=(AN h1).symm;subst ex;exact⟨t,by rw[TR,Sn]⟩
end L2
namespace ST
open PySem PySem.SetTable
theorem CJ:∀{l₁ l₂:uL},l₁.Nodup->(∀x∈l₁,x∈l₂)->l₁.length<=l₂.length
 | [],_,_,_=>AY _
 | a::t,l₂,nd,hs=>by
  obtain⟨n1,n2⟩:=DC.mp nd;have ha:=hs a AG;have hl:=EN ha;have ih:=CJ (l₂:=l₂.erase a) n2 λx hx=>(G5 (λ(e:x=a)=>n1 (by rw[<- e];exact hx))).mpr (hs x (AK _ hx));have:0<l₂.length:=HU ha;simp;exact xj ih hl this
end ST
namespace L2
open PySem PySem.Spec PyProof.Rows
theorem VD{prog:AL}{w:AQ}:∀{ns:uI}{us:List As},Vals (ns.map V.int) us->ItemsAre (LN prog w) ns us
 | [],_,.nil=>.nil
 | n::ns,_,.cons ⟨t,e⟩ r=>by
  subst e;exact .cons (intKind_is prog w n t) (VD r)
end L2
namespace NK
open PySem
section
variable{κ:Type}[DecidableEq κ](kd:KeyKind P w κ)
def IsP(g:Heap)(p:κ×List κ)(x:Addr):Prop:=∃ob ag c v b,g.get? x=uA ob/\ob.cls=.type "tuple"/\ob.data=.seq ag c/\ag.toList=[v,.ref b]/\kd.is p.1 v=true/\U6 kd g p.2 b
noncomputable def hashP(p:κ×List κ):Int:=RE (Lu [kd.hash p.1,M1 kd p.2])
variable{kd}
theorem IsP.ty{p:κ×List κ}{x:Addr}(h:IsP kd s.heap p x):s.TypeIs (.ref x) "tuple":=by
 obtain⟨ob,_,_,_,_,e,c,_⟩:=h;exact⟨ob,e,c⟩
theorem IsP.one{g:Heap}{p q:κ×List κ}{x:Addr}(h:IsP kd g p x)(h':IsP kd g q x):p=q:=by
 obtain⟨ob,ag,c,v,b,e,_,d,l,k,t⟩:=h;obtain⟨ob',its',c',v',b',e',_,d',l',k',t'⟩:=h';obtain rfl:ob=ob':=AN (e.symm.trans e');rw[d] at d';obtain⟨rfl,rfl⟩:ag=its'/\c=c':=by cases d';exact⟨rfl,rfl⟩
 rw[l] at l';injection l' with z1 z2
 injection z2 with z2 _
 injection z2 with z2
 subst z1;subst z2;exact RF (kd.inj _ _ _ k k') (t.inj t')
theorem IsP.stays{g g':Heap}{p:κ×List κ}{x y:Addr}{es ep}(h:IsP kd g p x)(e:g.get? y=uA ob)(d:ob.data=.dict es ep)(sb:EZ y g g'):IsP kd g' p x:=by
 obtain⟨o1,ag,c,v,b,e1,c1,d1,l,k,t⟩:=h;have ne:x≠y:=λz=>by
  rw[z,e] at e1;cases e1;rw[d] at d1;cases d1
 exact⟨o1,ag,c,v,b,(sb.2 x ne).trans e1,c1,d1,l,k,t.keeps e d sb⟩
theorem Zb{p:κ×List κ}{x:Addr}{R:Int->AA->Prop}(hu:A.units+1<C0)(h:IsP kd s.heap p x)(q:R (hashP kd p) {s with toks:=s.toks+(p.2.length+3)}):wpAny (AM P w) A (pyHash (.ref x)) R E s:=by
 have ty:=h.ty;obtain⟨ob,ag,c,v,b,e,_,d,l,k,t⟩:=h;unfold pyHash
 first| unfold pyHashByItsType| skip
 first| refine Au (wpAny_cRoomFor_or (.inr (uW hu)) ?_)| skip
 refine Au (Iy ty JP.lookup ?_);show wpAny _ _ (if(uA (Value.builtin "tuple.__hash__")==uA DE)=true then _ else _) _ _ _;rw[uC (by rw[UP];exact Be)];refine Au (Iy ty JP.lookup ?_);show wpAny _ _ (callSpecialIfBoundUnlessNone? (.ref x) "__hash__" _ >>= _) _ _ _;refine Au (wpAny_callSpecialIfBoundUnlessNone?_slot ty JP (D1 JP ty PySem.F.entry_tuple_hash ?_ (PySem.F.args_tuple_hash_1 _)));show wpAny _ _ (WS (.ref x) >>= _) _ _ _;refine Au (N1 e d (Au ?_));rw[<- J5,l];refine FY _ (λar (z:Array Int) s'=>(ar=[v,.ref b]/\z=#[]/\s'=s)\/(ar=[.ref b]/\z=#[kd.hash p.1]/\s'={s with toks:=s.toks+1})\/(ar=[]/\z=#[kd.hash p.1,M1 kd p.2]/\s'={s with toks:=s.toks+1+(p.2.length+1)}))
  _ ?_ ?_ _ _ (.inl ⟨rfl,rfl,rfl⟩)
 .rintro y ar z s' (⟨er,rfl,rfl⟩| ⟨er,rfl,rfl⟩| ⟨er,_⟩)
  .cases er
   refine Au (kd.pyHash k ?_)
   first
    | exact AC (.inr (.inl ⟨rfl,rfl,rfl⟩))
    | exact Au (AC (AC (.inr (.inl ⟨rfl,rfl,rfl⟩))))
  .cases er
   refine Au (SV (by show A.units+1<C0;exact hu) t ?_)
   first
    | exact AC (.inr (.inr ⟨rfl,rfl,rfl⟩))
    | exact Au (AC (AC (.inr (.inr ⟨rfl,rfl,rfl⟩))))
  .cases er
 .rintro z s' (⟨er,_⟩| ⟨er,_⟩| ⟨_,rfl,rfl⟩)
  .cases er
  .cases er
  .have et:{s with toks:=s.toks+1+(p.2.length+1)+1}={s with toks:=s.toks+(p.2.length+3)}:=by
    congr 1
    lia
   show wpAny _ _ (retInt (Lu [kd.hash p.1,M1 kd p.2])) _ _ _;refine U7 ?_;unfold hashP RE at q;generalize Lu [kd.hash p.1,M1 kd p.2]=hv at q;show wpAny _ _ (if(decide (-(2:Int) ^ 63<=hv)&&decide (hv<2 ^ 63))=true then _ else _) _ _ _;by_cases c0:(decide (-(2:Int) ^ 63<=hv)&&decide (hv<2 ^ 63))=true
   .rw[uD c0] at q ⊢
    refine AC ?_;rw[<- et] at q;exact q
   .rw[uC c0] at q ⊢
    refine Au (IJ (AC ?_));rw[<- et] at q;exact q
theorem AFM{p q:κ×List κ}{x y:Addr}{R:Fin->AA->Prop}(hu:A.units<C0)(h:IsP kd s.heap p x)(h':IsP kd s.heap q y)(r:R (.done (.ret (.bool (decide (p=q))))) s) :
  wpAny (AM P w) A (Builtin.«tuple.__eq__» ⟨[.ref x,.ref y],[]⟩) R E s:=by
 have ty:=h'.ty;obtain⟨o1,i1,c1,v1,b1,e1,_,d1,l1,k1,t1⟩:=h;obtain⟨o2,i2,c2,v2,b2,e2,_,d2,l2,k2,t2⟩:=h';show wpAny _ _ (Rs (.ref y) (.type "tuple") >>= _) _ _ _;refine Au (IX ty MH ?_);simp only[FX,B3,if_false];refine Au (N1 e1 d1 (Au (N1 e2 d2 (Au ?_))));have sz:(i1.size==i2.size)=true:=by
  have z1:i1.size=2:=by rw[<- A9,l1];rfl
  have z2:i2.size=2:=by rw[<- A9,l2];rfl
  rw[z1,z2];rfl
 rw[l1,l2];refine FY _ (λar z s'=>z.1=uB/\s'=s/\(ar=[(v1,v2),(.ref b1,.ref b2)]\/(ar=[(.ref b1,.ref b2)]/\p.1=q.1)\/(ar=[]/\p=q))) _ ?_ ?_ _ _ ⟨rfl,rfl,.inl rfl⟩
 .rintro⟨u,v⟩ ar z s' ⟨hz,rfl,er| ⟨er,pq⟩| ⟨er,_⟩⟩
  .cases er
   refine Au (kd.eqBool (a:=p.1) (b:=q.1) k1 k2 ?_);by_cases c:p.1=q.1
   .rw[uE c]
    simp only[FX,B3,if_false];exact AC ⟨rfl,rfl,.inr (.inl ⟨trivial,c⟩)⟩
   .rw[uF c]
    simp only[V8,if_true];rw[uF (λz=>c (by rw[z]))] at r;exact Au (AC (AC (AC r)))
  .cases er
   refine Au (SW hu t1 t2 ?_);by_cases c:p.2=q.2
   .rw[uE c]
    simp only[FX,B3,if_false];exact AC ⟨rfl,rfl,.inr (.inr ⟨trivial,RF pq c⟩)⟩
   .rw[uF c]
    simp only[V8,if_true];rw[uF (λz=>c (by rw[z]))] at r;exact Au (AC (AC (AC r)))
  .cases er
 .rintro⟨z1,z2⟩ s' ⟨hz,rfl,er| ⟨er,_⟩| ⟨_,pq⟩⟩
  .cases er
  .cases er
  .dsimp only at hz
   subst hz;refine AC ?_;rw[uE pq] at r;show R (.done (.ret (.bool (i1.size==i2.size)))) s';rw[sz];exact r
theorem AEd{p q:κ×List κ}{x y:Addr}{R:uN}(hu:A.units+1<C0)(h:IsP kd s.heap p x)(h':IsP kd s.heap q y)(r:R (decide (p=q)) s):wpAny (AM P w) A (eqBool (.ref x) (.ref y)) R E s:=by
 unfold eqBool
 try with_reducible refine EA ?_
 show wpAny _ _ (if(A7 x==A7 y)=true then _ else _) _ _ _;by_cases c:(A7 x==A7 y)=true
 .rw[uD c]
  obtain rfl:x=y:=by have z:=eq_of_beq c;injection z
  obtain rfl:=h.one h';rw[uE rfl] at r;exact Au (IJ (AC r))
 .rw[uC c]
  refine Au (wpAny_richCompare_same_room (op:=.Eq) h.ty h'.ty KS (D1 KS h.ty PySem.F.entry_tuple_eq (AFM ?_ h h' ⟨_,rfl,(λe=>nomatch e),Hc r⟩) (PySem.F.args_tuple_eq_2 _ _)) (uW hu));show A.units+1<C0;exact hu
theorem Tw{ks:List κ}{x:Addr}{R:uN}(h:U6 kd s.heap ks x)(r:R true s):wpAny (AM P w) A (SY (n+1) (.ref x)) R E s:=by
 have ty:=h.typeIs;obtain⟨ob,ag,c,e,_,d,ia⟩:=h;unfold SY;refine Au (Iy ty KS.lookup ?_);show wpAny _ _ (Rs (.ref x) (.type "tuple") >>= _) _ _ _;refine Au (IX ty MH ?_);simp only[FX,B3,if_false];refine Au (KI e d (Au ?_));show wpAny _ _ (forIn ag _ _) _ _ _;rw[<- J5];refine FY _ (λar z s'=>z.1=uB/\s'=s/\∀v∈ar,V9 v=true) _ (λv ar z s' ⟨hz,es,al⟩=>?_) (λz s' ⟨hz,es,_⟩=>?_) _ _ ⟨rfl,rfl,ia.byValue⟩
 .subst es
  rw[TB _ (al v AG)];refine Au (AC ?_);simp only[FX,B3,if_false];exact AC ⟨rfl,rfl,λu h=>al u (AK _ h)⟩
 .subst es
  obtain⟨z1,z2⟩:=z;dsimp only at hz;subst hz;exact AC r
theorem XM{p:κ×List κ}{x:Addr}{R:uN}(h:IsP kd s.heap p x)(r:R true s):wpAny (AM P w) A (SY 8 (.ref x)) R E s:=by
 have ty:=h.ty;obtain⟨ob,ag,c,v,b,e,_,d,l,k,t⟩:=h;unfold SY;refine Au (Iy ty KS.lookup ?_);show wpAny _ _ (Rs (.ref x) (.type "tuple") >>= _) _ _ _;refine Au (IX ty MH ?_);simp only[FX,B3,if_false];refine Au (KI e d (Au ?_));show wpAny _ _ (forIn ag _ _) _ _ _;rw[<- J5,l];refine FY _ (λar z s'=>z.1=uB/\s'=s/\(ar=[v,.ref b]\/ar=[.ref b]\/ar=[])) _ (λu ar z s' ⟨hz,es,er⟩=>?_) (λz s' ⟨hz,es,_⟩=>?_) _ _ ⟨rfl,rfl,.inl rfl⟩
 .subst es
  rcases er with er| er| er
  .cases er
   rw[TB _ (kd.byValue _ _ k)];refine Au (AC ?_);simp only[FX,B3,if_false];exact AC ⟨rfl,rfl,.inr (.inl trivial)⟩
  .cases er
   refine Au (Tw t ?_);simp only[FX,B3,if_false];exact AC ⟨rfl,rfl,.inr (.inr trivial)⟩
  .cases er
 .subst es
  obtain⟨z1,z2⟩:=z;dsimp only at hz;subst hz;exact AC r
end
noncomputable def Ew{P:AL}{w:AQ}{κ:Type}[DecidableEq κ](kd:KeyKind P w κ):HeapKind P w (κ×List κ) where
 is:=IsP kd
 hash:=hashP kd
 draws:=λp=>p.2.length+3
 room:=λA=>A.units+1<C0
 inj:=λa b=>a.one b
 keeps:=λa b c d=>a.stays b c d
 pyHash:=λa b c=>Zb a b c
 eqBool:=λa b c d=>AEd a b c d
 quiet:=λa b=>XM a b
def oIs:Option Int->As->Bool
 | some i,v=>NJ i v
 | none,v=>match v with
  | .none=>true
  | _=>false
def oHash:Option Int->Int
 | some i=>hashInt i
 | none=>RE 0xFCA86420
theorem DG:∀{k:Option Int}{v:As},oIs k v=true->(∃i t,k=uA i/\v=NM i t)\/(k=uB/\v=DE)
 | some i,v,h=>by
  obtain⟨t,e⟩:=Hb (k:=i) (v:=v) h;exact .inl ⟨i,t,rfl,e⟩
 | none,v,h=>by
  cases v<;>first| exact .inr ⟨rfl,rfl⟩| cases h
theorem hash_none{Q:Int->AA->Prop}(h:Q (RE 0xFCA86420) {s with toks:=s.toks+1}):wpAny (AM P w) A (pyHash .none) Q E s :=
 PySem.W.pyHash_slot (T:="NoneType") rfl PySem.F.slot_NoneType_hash PySem.F.entry_NoneType_hash (PySem.F.args_NoneType_hash_1 _) (UP _) (.inl rfl) (Au (AC (Au (wpAny_mkInt (AC ⟨_,_,rfl,h⟩)))))
def optKind(P:AL)(w:AQ):KeyKind P w (Option Int) where
 is:=oIs
 hash:=oHash
 inj:=λv a b ha hb=>by
  rcases DG ha with⟨i,t,rfl,rfl⟩| ⟨rfl,rfl⟩
  .rcases DG hb with⟨j,u,rfl,e⟩| ⟨rfl,e⟩
   .injection e with e1 _;rw[e1]
   .cases e
  .rcases DG hb with⟨j,u,rfl,e⟩| ⟨rfl,e⟩
   .cases e
   .rfl
 byValue:=λk v h=>by
  rcases DG h with⟨i,t,rfl,rfl⟩| ⟨rfl,rfl⟩<;>rfl
 pyHash:=λhv h=>by
  rcases DG hv with⟨i,t,rfl,rfl⟩| ⟨rfl,rfl⟩
  .exact T8 h
  .exact hash_none h
 eqBool:=λhu hv h=>by
  rcases DG hu with⟨i,t,rfl,rfl⟩| ⟨rfl,rfl⟩
  .rcases DG hv with⟨j,u,rfl,rfl⟩| ⟨rfl,rfl⟩
   .have e:decide ((uA i:Option Int)=uA j)=(i==j):=by
     by_cases c:i=j
     .subst c;simp
     .rw[uF (λz=>c (AN z))]
      exact(beq_eq_false_iff_ne.mpr c).symm
    rw[e] at h;exact T9 h
   .exact No i t _ _ _ _ h
  .rcases DG hv with⟨j,u,rfl,rfl⟩| ⟨rfl,rfl⟩
   .exact Nl j u _ _ _ _ h
   .exact MU .none _ _ _ _ h
 «strs»:=λk x t v h=>by
  rcases DG h with⟨i,u,rfl,e⟩| ⟨rfl,e⟩
  .cases e
  .cases e
end NK
namespace L2
open PySem
noncomputable def oV:Option Int->V
 | some i=>.int i
 | none=>.non
theorem AFs{k:Option Int}(r:RelV (oV k) u):(NK.optKind P w).is k u=true:=by
 cases k with
 | some i =>
  obtain⟨t,rfl⟩:=r;show NJ i (.int i t)=true;simp[NJ]
 | none =>
  cases r;rfl
theorem oV_items{P:AL}{w:AQ}:∀{ks:List (Option Int)}{us:List As},Vals (ks.map oV) us->ItemsAre (NK.optKind P w) ks us
 | [],_,r=>by rw[LI] at r;cases r;exact .nil
 | k::ks,_,r=>by
  rw[B4] at r;cases r with
  | cons h t=>exact .cons (AFs h) (oV_items t)
abbrev OKey:=Option Int×List (Option Int)
def dO(P:AL)(w:AQ)(a:Addr)(xs:List (OKey×Addr×As)):HO:=.ext λg=>∃o es ep,g.get? a=uA o/\o.ExactDict/\o.data=.dict es ep/\es.toList=xs.map (entryOfKey (NK.Ew (NK.optKind P w)))/\(xs.map (·.1)).Nodup
def OAt(K:Ap)(H:Hp)(p:OKey)(x:Addr):Prop:=∃b,H x=uA (.tup [oV p.1,.ref b])/\SqT K H b (p.2.map oV)
theorem OAt.ts{p:OKey}{x:Addr}(h:OAt K H p x)(t:TSm H H'):OAt K H' p x:=by obtain⟨b,e1,e2⟩:=h;exact⟨b,t _ _ e1 ⟨_,.inl rfl⟩,t.seq e2⟩
abbrev KO(K:Ap)(H:Hp):List (OKey×V)->List (OKey×Addr×As)->Prop:=BI λp q=>p.1=q.1/\OAt K H p.1 q.2.1/\RelV p.2 q.2.2
def DO(K:Ap)(P:AL)(w:AQ)(H:Hp)(a:Addr)(af:List (OKey×V)):Prop:=af.length<=sizeLine/\(a==EC)=false/\∃xs,H a=uA (dO P w a xs)/\KO K H af xs
theorem DO.keep{af:List (OKey×V)}(h:DO K P w H a af)(e:∀o,H a=uA o->H' a=uA o)(t:TSm H H'):DO K P w H' a af:=by
 obtain⟨z,y,xs,e1,r⟩:=h;exact⟨z,y,xs,e _ e1,u7 (λ_ _ q=>⟨q.1,q.2.1.ts t,q.2.2⟩) r⟩
theorem KO.val{af:List (OKey×V)}{xs:List (OKey×Addr×As)}(r:KO K H af xs)(k:OKey):RelO (valV af k) ((J4 xs k).map (·.2)):=by
 induction r with
 | nil=>exact IG
 | @cons p q ps qs h t ih =>
  by_cases e:p.1=k
  .have b:J4 (q::qs) k=uA q.2:=by simp[J4,G4,h.1.symm.trans e]
   rw[Cg e,b];exact h.2.2
  .have b:J4 (q::qs) k=J4 qs k:=by simp[J4,G4,show ¬ q.1=k from λz=>e (h.1.trans z)]
   rw[CZ e,b];exact ih
theorem KO.put{af:List (OKey×V)}{xs:List (OKey×Addr×As)}(r:KO K H af xs){k:OKey}(hb:OAt K H k b)(ry:RelV y u)(new:valV af k=uB):KO K H (putK af k y) (Th xs k b u):=by
 have e:J4 xs k=uB:=by
  have z:=(r.val k).isSome_eq;rw[new,L5] at z;cases g:J4 xs k with
  | none=>rfl
  | some q=>rw[g] at z;cases z
 rw[JV y new,storedH_new e];exact T4 r ⟨rfl,hb,ry⟩
theorem JN{p:OKey}{x:Addr}(I:Inv X aa σ H s)(e:OAt X.K H p x):(NK.Ew (NK.optKind X.prog X.w)).is s.heap p x:=by
 obtain⟨b,e1,e2⟩:=e;obtain⟨_,ag,r,o,h1,h2,n,h3⟩:=(show ObjOk X.prog X.w H s.heap x (.tup [oV p.1,.ref b]) from I.hok x _ e1);obtain⟨us,ru,⟨o2,g1,g2,n2,g3⟩,_⟩:=I.tuple e2;cases r with
 | @cons _ v _ _ r1 r =>
  cases r with
  | @cons _ v2 _ _ r2 r =>
   cases r;cases r2;exact⟨o,_,n,v,b,h1,h2,h3,rfl,AFs r1,o2,us.toArray,n2,g1,g2,g3,by simpa using oV_items ru⟩
theorem ZF{af:List (OKey×V)}(I:Inv X aa σ H s)(d:DO X.K X.prog X.w H a af):af.length<=sizeLine/\(a==EC)=false/\∃xs,H a=uA (dO X.prog X.w a xs)/\KO X.K H af xs/\s.heap.DictOfH (NK.Ew (NK.optKind X.prog X.w)) a xs:=by
 obtain⟨z,y,xs,e,r⟩:=d;obtain⟨⟨o,es,ep,h1,h2,h3,h4,h5⟩,_⟩:=(show ObjOk X.prog X.w H s.heap a (dO X.prog X.w a xs) from I.hok a _ e);refine⟨z,y,xs,e,r,o,es,ep,h1,h2,h3,h4,λx hx=>?_,h5⟩;obtain⟨i,hi⟩:=F6.mp hx;obtain⟨p,_,e1,e2,_⟩:=Paired.get r hi;rw[<- e1];exact JN I e2
theorem ACQ{xs:List (OKey×Addr×As)}(d:h.DictOfH (NK.Ew (NK.optKind P w)) a xs):ObjOk P w H' h a (dO P w a xs):=by
 obtain⟨o,es,ep,h1,h2,h3,h4,_,h5⟩:=d;refine⟨⟨o,es,ep,h1,h2,h3,h4,h5⟩,⟨o,h1⟩,by rintro g1 g2 ⟨o',bv,h7,z1,z2⟩ st;exact⟨o',bv,h7,st _ z1,z2⟩⟩
def OGet(K:Ap)(P:AL)(w:AQ)(H:Hp)(a:Addr)(y:V)(r:Option V):Prop:=∃af p x,DO K P w H a af/\y=.ref x/\OAt K H p x/\valV af p=r
theorem AGw{r:Option V}(I:Inv X aa σ H s)(g:OGet X.K X.prog X.w H a y r):s.TypeIs (.ref a) "dict":=by
 obtain⟨af,p,x,d,_⟩:=g;obtain⟨_,_,xs,_,_,dd⟩:=ZF I d;exact dd.typeIs
theorem AAx(hu:A.units+2<C0)(I:Inv X aa σ H s)(g:OGet X.K X.prog X.w H a y (uA v))(ry:RelV y u)(q:∀w' s',Inv X aa σ H s'->RelV v w'->Q w' s'):wpAny (AM X.prog X.w) A (OO (.ref a) u) Q E s:=by
 obtain⟨af,p,x,d,rfl,k,l⟩:=g;cases (show u=A7 x from ry);obtain⟨z,hd,xs,e,b5,dd⟩:=ZF I d;obtain⟨w',hw,dE⟩:=ur (v:=v) (o:=(J4 xs p).map (·.2)) (by rw[<- l];exact b5.val p);obtain⟨pv,hp,kG⟩:=Kb.mp hw;refine SR (knd:=NK.Ew (NK.optKind X.prog X.w)) (k:=p) (by show A.units+1+1<C0;exact v6 hu) (JN I k) dd hp ?_;rw[kG];exact q w' _ (I.tok _) dE
theorem AEs{r:Option V}(hu:A.units+2<C0)(I:Inv X aa σ H s)(g:OGet X.K X.prog X.w H a y r)(ry:RelV y u)(q:∀s',Inv X aa σ H s'->Q (.bool (!r.isSome)) s'):wpAny (AM X.prog X.w) A (ED .NotIn u (.ref a)) Q E s:=by
 obtain⟨af,p,x,d,rfl,k,l⟩:=g;cases (show u=A7 x from ry);obtain⟨z,hd,xs,e,b5,dd⟩:=ZF I d;refine VU (knd:=NK.Ew (NK.optKind X.prog X.w)) (k:=p) (by show A.units+1+1<C0;exact v6 hu) (JN I k) hd dd ?_;have c:=(b5.val p).isSome_eq;rw[L5] at c;rw[<- c,l];exact q _ (I.tok _)
theorem AAs{r:As}{af:List (OKey×V)}{p:OKey}{x:Addr}{Q:uO}(hu:A.units+2<C0)(I:Inv X aa σ H s)(d:DO X.K X.prog X.w H a af)(ey:y=.ref x)(k:OAt X.K H p x)(new:valV af p=uB)(hl:af.length<sizeLine)(ry:RelV y u)(rv:RelV v r)
  (q:∀(H':Hp) s',(∀b,b≠a->H' b=H b)->DO X.K X.prog X.w H' a (putK af p v)->Inv X aa σ H' s'->Q () s'):wpAny (AM X.prog X.w) A (VY (.ref a) u r) Q E s:=by
 subst ey;cases (show u=A7 x from ry);obtain⟨z,hd,xs,e,b5,dd⟩:=ZF I d;have hz:xs.length<=sizeLine:=by rw[<- AV b5];exact z
 refine SS (hsz:=hz) (knd:=NK.Ew (NK.optKind X.prog X.w)) (k:=p) (by show A.units+1+1<C0;exact v6 hu) (JN I k) dd λh' kx hs=>?_;have he:∃o,h'.get? a=uA o:=by obtain⟨o,_,_,ho,_⟩:=kx;exact⟨o,ho⟩
 have tE:TSm H (upd H a (dO X.prog X.w a (Th xs p x r))):=λb u hb t=>by
  rw[Af (λz=>by
   rw[z,e] at hb;cases hb;obtain⟨ys,e| ⟨o,e⟩⟩:=t
   .cases e
   .cases e)]
  exact hb
 refine q (upd H a (dO X.prog X.w a (Th xs p x r))) _ (λb hb=>Af hb) ⟨?_,hd,_,Ab,u7 (λ_ _ c=>⟨c.1,c.2.1.ts tE,c.2.2⟩) (KO.put b5 k rv new)⟩ (Ka I (by rw[e];exact IG) hs he (ACQ kx));rw[JV v new,AZ,Eg];exact hl
def AGU(K:Ap)(P:AL)(w:AQ):TE:=λ_ H Q=>∀p,H p=none->DO K P w (upd H p (dO P w p [])) p []->Q (.ref p) (upd H p (dO P w p []))
def AHc(K:Ap)(P:AL)(w:AQ)(td ty:TE):TE:=λσ H Q=>td σ H λx H1=>ty σ H1 λy H2=>∃a v,x=.ref a/\OGet K P w H2 a y (uA v)/\Q v H2
def AFU(K:Ap)(P:AL)(w:AQ)(ty td:TE):TE:=λσ H Q=>ty σ H λy H1=>td σ H1 λx H2=>∃a r,x=.ref a/\OGet K P w H2 a y r/\Q (.bl (!r.isSome)) H2
def AHn(K:Ap)(P:AL)(w:AQ)(td ty tv:TE):TS:=λD σ H=>tv σ H λv H1=>td σ H1 λx H2=>ty σ H2 λy H3=>∃a af p b,x=.ref a/\y=.ref b/\DO K P w H3 a af/\OAt K H3 p b/\valV af p=uB/\af.length<sizeLine /\
 ∀H4,(∀c,c≠a->H4 c=H3 c)->DO K P w H4 a (putK af p v)->D.nx σ H4
section
variable{o i:Expr}{ty:TE}
theorem ABz:PE X (.Dict [] [] pos) (AGU X.K X.prog X.w):=λaa s σ H Q I h=>by
 have hn:=I.hok.fresh (AF s.heap.objs.size);have ns:(s.heap.objs.size==EC)=false:=beq_eq_false_iff_ne.mpr (Cb (BU I.big));refine wpAny_Dict_empty ⟨.ref s.heap.objs.size,_,I.laid (a:=s.heap.objs.size) (o:=dO X.prog X.w s.heap.objs.size []) (t':=s.toks) (λ_ _ q=>AJ _ q) (AF _) (ACQ (Z0 _)),rfl,h _ hn ⟨AY _,ns,[],Ab,.nil⟩⟩
theorem ADr(hu:X.A.units+2<C0)(ho:PE X o td)(hi:PE X i ty)(hs:NoSl i):PE X (.Subscript o i pos) (AHc X.K X.prog X.w td ty):=by
 intro aa s σ H Q I h;refine Yt OH.lookup hs (thn (ho aa s σ H _ I h) λu s1 ⟨x,H1,I1,rx,q1⟩=>thn (hi aa s1 σ H1 _ I1 q1) λiv s2 hq=>?_);obtain⟨y,H2,I2,ry,a,v,ex,g,q2⟩:=hq;subst ex;obtain rfl:u=A7 a:=rx;exact⟨AGw I2 g,AAx hu I2 g ry λw' s3 I3 dE=>⟨v,H2,I3,dE,q2⟩⟩
theorem AAG(hu:X.A.units+2<C0)(hi:PE X i ty)(ho:PE X o td):PC X .NotIn i o (AFU X.K X.prog X.w ty td):=by
 intro aa s σ H Q I h;refine thn (hi aa s σ H _ I h) λiv s1 ⟨y,H1,I1,ry,q1⟩=>thn (ho aa s1 σ H1 _ I1 q1) λu s2 hq=>?_;obtain⟨x,H2,I2,rx,a,r,ex,g,q2⟩:=hq;subst ex;obtain rfl:u=A7 a:=rx;exact AEs hu I2 g ry λs3 I3=>⟨.bl (!r.isSome),H2,I3,rfl,q2⟩
theorem AEg(hu:X.A.units+2<C0)(ho:PE X o td)(hi:PE X i ty)(hv:PE X a5 tv)(hs:MC a5 (uA (.Subscript o i bg)) pos.line X.env=pure false):PS X (.Assign [.Subscript o i bg] a5 pos) (AHn X.K X.prog X.w td ty tv):=by
 intro aa s σ H D I h;refine P7 (thn (hv aa s σ H _ I h) λr s1 ⟨v,H1,I1,rv,q1⟩=>thn (ho aa s1 σ H1 _ I1 q1) λu s2 ⟨x,H2,I2,rx,q2⟩=>thn (hi aa s2 σ H2 _ I2 q2) λiv s3 hq=>?_) hs;obtain⟨y,H3,I3,ry,a,af,p,b,ex,ey,d,k,new,hl,q3⟩:=hq;subst ex;obtain rfl:u=A7 a:=rx;exact AAs hu I3 d ey k new hl ry rv λH4 s4 oth d4 I4=>⟨σ,H4,I4,q3 H4 oth d4⟩
end
end L2
namespace K32
open PySem L2
def top(i:Nat):Stmt:=Ki.main.body.getD i (.Pass ⟨0,0,0,0⟩)
abbrev Lr:Stmt:=inClass (top 23) 0
abbrev ACW:Stmt:=inClass (top 23) 1
abbrev ADi:Stmt:=inClass (top 23) 2
abbrev sAt:Stmt:=inClass (top 23) 3
abbrev AGu:Stmt:=top 24
abbrev AGq:Stmt:=top 25
abbrev AGy:Stmt:=top 26
abbrev Ql:Stmt:=top 27
abbrev Vd:Stmt:=top 28
abbrev AFO:Stmt:=top 29
abbrev QZ:Stmt:=top 30
abbrev Kv:Stmt:=top 31
abbrev KY:Stmt:=top 32
abbrev Wm:Stmt:=top 15
abbrev Ke:Stmt:=top 17
abbrev QS:Stmt:=inClass (top 16) 0
abbrev Ko:Stmt:=inClass (top 16) 1
abbrev ABu:Stmt:=inClass (top 16) 2
abbrev YM:Stmt:=inClass (top 19) 3
abbrev QK:Stmt:=inClass (top 35) 0
abbrev RP:Stmt:=inClass (top 35) 1
abbrev Hy:Stmt:=inClass (top 35) 2
abbrev ACg:Stmt:=inClass (top 35) 3
abbrev Wa:Stmt:=inClass (top 37) 1
abbrev JR:Stmt:=inClass (top 35) 4
abbrev AFG:Stmt:=inClass (top 35) 5
abbrev Vj:Stmt:=inClass (top 36) 0
abbrev Ws:Stmt:=inClass (top 37) 0
abbrev ABY:Stmt:=top 38
abbrev Qm:Stmt:=top 39
abbrev Yk:Stmt:=top 40
abbrev ABc:Stmt:=top 42
abbrev AGW:Stmt:=top 43
abbrev Qy:Stmt:=top 44
abbrev ADG:Stmt:=top 45
abbrev YB:Stmt:=top 46
abbrev RG:Stmt:=top 47
abbrev Qv:Stmt:=top 48
abbrev Xu:Stmt:=top 49
abbrev Xj:Stmt:=top 50
abbrev Xv:Stmt:=top 51
abbrev Rg:Stmt:=top 52
theorem ja:¬ (("amount" : Str) = "joints"):=by decide+kernel
def flds(z:Int)(j:Addr):List (Str×V):=putF "joints" (.ref j) (putF "amount" (.int z) [])
theorem HW(z:Int)(j:Addr):(flds z j).lookup ("amount" : Str)=uA (.int z):=by
 unfold flds;rw[Aj,uC ja,Aj,uD rfl]
theorem Jv(z:Int)(j:Addr):(flds z j).lookup ("joints" : Str)=uA (.ref j):=by
 unfold flds;rw[Aj,uD rfl]
theorem ZM(z:Int)(j:Addr){m:Str}(h1:¬ m = "joints")(h2:¬ m = "amount"):(flds z j).lookup m=uB:=by
 unfold flds;rw[Aj,uC h1,Aj,uC h2]
 all_goals rfl
structure Txt(K:Ap)(mg:Str->Option As)(C:Addr):Prop where
 cl:Cls K C
 nA:NoAttr K C "amount"
 nJ:NoAttr K C "joints"
 mgC:mg "Web" = uA (.ref C)
 mp:∃t,mg "MOST_POINTS" = uA (.int 10 t)
 mt:∃t,mg "MOST_TIES" = uA (.int 12 t)
 len:mg "len" = uB
 range:mg "range" = uB
 int:mg "int" = uB
 max:mg "max" = uB
 min:mg "min" = uB
 sorted:mg "sorted" = uB
 tuple:mg "tuple" = uB
 list:mg "list" = uB
 bool:mg "bool" = uB
 enum:mg "enumerate" = uB
 isi:mg "isinstance" = uB
def WebAt(K:Ap)(C:Addr)(H:Hp)(p:Addr)(z:Int)(as:uJ):Prop:=∃dx j,H p=uA (.ins C dx (flds z j))/\rTup K (rPair K) H as (.ref j)
theorem WebAt.same{z:Int}(h:WebAt K C H p z as)(e:Same H H'):WebAt K C H' p z as:=by
 obtain⟨dx,j,h1,h2⟩:=h;exact⟨dx,j,e _ _ h1,Aq (Aq Aw) _ _ _ _ e.ts h2⟩
def ABR(K:Ap):Sp:=λvs H Q _=>∃(a:Addr) (ns:uI) (k:Int),vs=[.ref a,.int k]/\SqL K H a (ns.map V.int)/\0<=k/\∀c:Int,Q (.int c) H
def AFl:Sp:=λvs H Q _=>∃(p t:Int),vs=[.int p,.int t]/\1<=p/\p<=10/\0<=t/\t<=12/\Q .non H
def AFp(K:Ap):Sp:=λvs H Q _=>∃(m a b:Int) (t:Addr),vs=[.int m,.ref t]/\SqT K H t [.int a,.int b]/\0<=a/\a<b/\b<m/\Q .non H
def AFg(K:Ap):Sp:=λvs H Q _=>∃(m:Int) (l:Addr) (xs:List V) (as:uJ),vs=[.int m,.ref l]/\SqL K H l xs/\BI (rSeq K H) as xs/\OkTies m as/\as.length<=12 /\
 ∀(j:Addr) (H':Hp),Same H H'->rTup K (rPair K) H' (as.map srt) (.ref j)->Q (.ref j) H'
def Jo(K:Ap)(C:Addr):Sp:=λvs H Q _=>∃(p dx l:Addr) (m:Int) (xs:List V) (as:uJ),vs=[.ref p,.int m,.ref l]/\H p=uA (.ins C dx [])/\SqL K H l xs/\BI (rSeq K H) as xs/\OkTies m as/\as.length<=12/\1<=m/\m<=10 /\
 ∀(H':Hp),(∀b o,H b=uA o->b≠p->H' b=uA o)->WebAt K C H' p m (as.map srt)->Q .non H'
def Ii(K:Ap)(C:Addr):Sp:=λvs H Q _=>∃(p:Addr) (m:Int) (as:uJ),vs=[.ref p]/\WebAt K C H p m as/\Q (.int m) H
def Qf(K:Ap)(C:Addr):Sp:=λvs H Q _=>∃(p:Addr) (m:Int) (as:uJ),vs=[.ref p]/\WebAt K C H p m as/\∀(l:Addr) (H':Hp),Same H H'->H l=none->rLst K (rPair K) H' as (.ref l)->Q (.ref l) H'
def AGI(K:Ap)(C:Addr):Sp:=λvs H Q _=>∃(p:Addr) (m x:Int) (as:uJ),vs=[.ref p,.int x]/\WebAt K C H p m as/\as.length<=12 /\
 ∀(l:Addr) (H':Hp),Same H H'->H l=none->H' l=uA (.lst ((hits x as).map V.int))->Q (.ref l) H'
def Uj(K:Ap):Sp:=λvs H Q _=>∃(a:Addr) (ns:uI),vs=[.ref a]/\SqL K H a (ns.map V.int)/\ns.length<=63/\∀H',Q (.bl true) H'
theorem AHV:FnScope zl0 zl0 (Ah AGu):=fscp (by decide+kernel)
theorem AGF(F:Fun K "refuse_amounts" "refuse_amounts" AGu f fd)(T:Txt K mg C):FnOk P w K mg base CX0 1 f fd zl0 AFl:=by
 refine F.ok AHV (λvs H Q E h=>?_) (λa7 A outer s H vs Q E hr h=>?_)
 .obtain⟨p,t,rfl,_⟩:=h
  rfl
 obtain⟨p,t,rfl,h1,h2,h3,h4,q⟩:=h;obtain⟨t1,e1⟩:=T.mp;obtain⟨t2,e2⟩:=T.mt;refine⟨_,Ad (Bl (uq (Gg (Am Ln (pv 0) Ag) (FT (Am Yh (pv 0) (FP (v:=.int 10) rfl e1 ⟨t1,rfl⟩))))) Fi BJ)
  (Ai (Bl (Am Yh (pv 1) (FP (v:=.int 12) rfl e2 ⟨t2,rfl⟩)) Fi BJ)),?_⟩
 refine⟨_,rfl,_,_,rfl,rfl,_,rfl,?_⟩;refine iteN (vQ h1) ?_;refine⟨_,rfl,_,_,rfl,rfl,_,rfl,?_⟩;refine iteN (vQ h2) ?_;refine⟨_,rfl,_,_,rfl,rfl,_,rfl,?_⟩;refine iteN (vQ h4) ?_;exact q
theorem AHN:FnScope zl1 zl1 (Ah AGy):=fscp (by decide+kernel)
theorem at0{a b:V}:atI [a,b] 0=uA a:=rfl
theorem at1{a b:V}:atI [a,b] 1=uA b:=rfl
theorem AGk(F:Fun K "refuse_points" "refuse_points" AGy f fd):FnOk P w K mg base CX0 1 f fd zl1 (AFp K):=by
 refine F.ok AHN (λvs H Q E h=>?_) (λa7 A outer s H vs Q E hr h=>?_)
 .obtain⟨m,a,b,t,rfl,_⟩:=h
  rfl
 obtain⟨m,a,b,t,rfl,hT,h0,h1,h2,q⟩:=h;refine⟨_,Ad (Bl (uq (Gg (Am Ln (Av BW (pv 1) Ag) Ag) (FT (Am AHX (Av BW (pv 1) Ag) (pv 0))))) Fi BJ)
  (Ai (Bl (Am DR (Av BW (pv 1) Ag) (Av BW (pv 1) Ag)) Fi BJ)),?_⟩
 refine⟨_,rfl,t,_,_,_,rfl,rfl,hT,at0,_,_,rfl,rfl,_,rfl,?_⟩;refine iteN (vQ h0) ?_;refine⟨_,rfl,t,_,_,_,rfl,rfl,hT,at1,_,rfl,_,_,rfl,rfl,_,rfl,?_⟩;refine iteN (by lia) ?_;refine⟨_,rfl,t,_,_,_,rfl,rfl,hT,at0,_,rfl,t,_,_,_,rfl,rfl,hT,at1,rfl,_,rfl,?_⟩;refine iteN (λe=>?_) q;have:=V.int.inj e;lia
theorem Yr:FnScope ["many","ties","checked","handed","tie"] zl22 (Ah AGq):=fscp (by decide+kernel)
theorem AGH(F:Fun K "checked_ties" "checked_ties" AGq f fd)(T:Txt K mg C)(GP:Cal P w K mg base 1 fP g5 "refuse_points" zl1 (AFp K)) :
  FnOk P w K mg base CX0 2 f fd zl22 (AFg K):=by
 refine F.ok Yr (λvs H Q E h=>?_) (λa7 A outer s H vs Q E hr h=>?_)
 .obtain⟨m,l,xs,as,rfl,_⟩:=h
  rfl
 obtain⟨m,l,xs,as,rfl,hS,pa,ok,f6,q⟩:=h;refine⟨_,Ad (Ak (i:=2) Yr.nd (Bm Ac))
  (Ad (DW C5 rfl (Bt (pv 1)) (BX (i:=3) Yr.nd)
   (Ad (Ak (i:=4) Yr.nd (Bb Bo rfl T.tuple Db (Aa (Ax Gm rfl T.sorted IY (Aa (pv 3) Ac)) Ac)))
   (Ad (Cw (BP GP hr rfl (Aa (pv 0) (Aa (pv 4) Ac))))
   (Ad (Bl (Am (ABj (FN CT) (Br hr)) (pv 4) (pv 2) rfl) Fi BJ)
   (Ai (Cw (Hf C2 D7 D8 DP (pv 2) (Aa (pv 4) Ac))))))))
  (Ai (Ao (Bb Bo rfl T.tuple Db (Aa (pv 2) Ac))))),?_⟩
 refine⟨AY _,λc hc=>?_⟩;have lx:=AV pa;refine⟨_,rfl,l,rfl,⟨_,(u8 hc _).seq hS⟩,Eh (K:=K) (a:=l) (xs:=xs) (λi σ H2=>∃(hv tv:Option V) (ys:List V),σ=[uA (.int m),uA (.ref l),uA (.ref c),hv,tv]/\Same H H2/\H2 c=uA (.lst ys)/\BI (rPair K H2) ((as.take i).map srt) ys)
  ⟨uB,uB,[],rfl,u8 hc _,Ab,.nil⟩ (by rintro i σ H2 _ ⟨_,_,_,_,sm,_⟩;exact sm.seq hS) ?_ ?_⟩
 .rintro i x σ H2 hx ⟨hv,tv,ys,rfl,sm,hC,pc⟩
  obtain⟨t,ht,rt0⟩:=Paired.get pa hx;obtain⟨p,rfl,hp⟩:=ACU rt0;obtain⟨a,b,rfl,a0,a1,b0,b1,nab⟩:=ok.ok t (AX ht);have kG:SqL K H2 p ([a,b].map V.int)\/SqT K H2 p ([a,b].map V.int):=hp.elim (λz=>.inl (sm.seq z)) λz=>.inr (sm.ts.seq z);refine⟨_,rfl,p,[a,b],rfl,kG,(by show 2<64;decide),λl1 ms d5 perm pw=>?_⟩;have em:=AAe perm pw;subst em;refine⟨l1,_,rfl,.inl ⟨uy Ab,λt1 lv=>?_⟩⟩;have hT:(upd (upd H2 l1 (.lst ((srt [a,b]).map V.int))) t1 (.tup ((srt [a,b]).map V.int))) t1=uA (.tup ((srt [a,b]).map V.int)):=Ab;have s1:Same H2 (upd (upd H2 l1 (.lst ((srt [a,b]).map V.int))) t1 (.tup ((srt [a,b]).map V.int))):=(u8 d5 _).trans (u8 lv _);generalize hH3:upd (upd H2 l1 (.lst ((srt [a,b]).map V.int))) t1 (.tup ((srt [a,b]).map V.int))=H3 at hT s1 ⊢;have aw:(srt [a,b]).length=2:=by rw[Et];split<;>rfl
  have pts:∃u v:Int,srt [a,b]=[u,v]/\0<=u/\u<v/\v<m:=by
   rw[Et];split
   .exact⟨b,a,rfl,b0,by lia,a1⟩
   .exact⟨a,b,rfl,a0,by lia,b1⟩
  obtain⟨u,v,euv,u0,uv,vm⟩:=pts;have rB:SqT K H3 t1 [.int u,.int v]:=by
   have e:=uz (K:=K) hT;rw[euv] at e;exact e
  refine⟨_,rfl,_,rfl,m,u,v,t1,rfl,rB,u0,uv,vm,?_⟩;have hC3:=s1 _ _ hC;have sw:=u7 (λa b=>Aq Aw H2 H3 a b s1.ts) pc;have rt:rPair K H3 (srt [a,b]) (.ref t1):=Fl hT;refine⟨_,rfl,_,rfl,_,_,rt,.inl ⟨c,ys,rfl,uy hC3,sw⟩,_,rfl,?_⟩;refine iteN (ok.take_new ht) ?_;have hys:ys.length<=12:=by
   rw[<- AV pc,AB,B0];exact wA f6
  refine⟨_,rfl,.inl ⟨rfl,_,uy hC3⟩,_,rfl,c,ys,_,rfl,rfl,hC3,Ay (ww hys),?_⟩;refine⟨_,_,_,rfl,λb o e=>?_,Ab,?_⟩
  .rw[Af (Ae e hc)]
   exact s1 _ _ (sm b o e)
  .have e:as.take (i+1)=as.take i++[[a,b]]:=by rw[Ex,ht];rfl
   rw[e,BM,J3];have ts:TSm H3 (upd H3 c (.lst (ys++[.ref t1]))):=u6 hC3;exact u4 (u7 (λa b=>Aq Aw H3 _ a b ts) sw) (u5 (Aq Aw H3 _ _ _ ts rt))
 .rintro σ H2 ⟨hv,tv,ys,rfl,sm,hC,pc⟩
  rw[<- lx,CM] at pc;refine⟨_,rfl,c,_,rfl,.inl ⟨uy hC,λj hj=>?_⟩⟩;refine q j _ (sm.trans (u8 hj _)) ⟨j,ys,rfl,uz Ab,?_⟩;exact u7 (λa b=>Aq Aw H2 _ a b (TSm.new hj)) pc
theorem WW:FnScope zl2 zl2 (Ah Lr):=fscp (by decide+kernel)
theorem JD(F:Fun K "__init__" "Web.__init__" Lr f fd)(T:Txt K mg C)
  (GA:Cal P w K mg base 1 fA dS "refuse_amounts" zl0 AFl)
  (GC:Cal P w K mg base 2 fC pM "checked_ties" zl22 (AFg K)) :
  FnOk P w K mg base CX0 3 f fd zl2 (Jo K C):=by
 refine F.ok WW (λvs H Q E h=>?_) (λa7 A outer s H vs Q E hr h=>?_)
 .obtain⟨p,dx,l,m,xs,as,rfl,_⟩:=h
  rfl
 obtain⟨p,dx,l,m,xs,as,rfl,hP,hS,pa,ok,f6,h1,h10,q⟩:=h;have lx:=AV pa;refine⟨_,Ad (Cw (BP GA (hr.mono (by decide)) rfl (Aa (pv 1) (Aa (Ax Ar rfl T.len Cn (Aa (pv 2) Ac)) Ac))))
  (Ad (Eu (pv 0) (pv 1) rfl)
  (Ai (Eu (pv 0) (BP GC hr rfl (Aa (pv 1) (Aa (pv 2) Ac))) rfl))),?_⟩
 refine⟨_,rfl,_,rfl,l,_,rfl,.inl hS,m,_,rfl,h1,h10,fv,by lia,?_⟩;refine⟨_,rfl,_,rfl,p,C,dx,[],rfl,hP,T.cl,T.nA,(by decide),?_⟩;have ts:TSm H (upd H p (.ins C dx (putF "amount" (.int m) []))):=λb u hb t=>by
  rw[Af ?_]
  .exact hb
  .rintro rfl
   rw[hP] at hb;cases hb;obtain⟨ys,e| ⟨o,e⟩⟩:=t
   .cases e
   .cases e
 have sl:∀{a:Addr}{zs:List V},SqL K H a zs->SqL K (upd H p (.ins C dx (putF "amount" (.int m) []))) a zs:=λ{a zs} h=>by
  rcases h with(h| ⟨o,h⟩)| h
  .exact .inl (.inl (by rw[Af (DQ h hP (by intro z;cases z))];exact h))
  .exact .inl (.inr ⟨o,by rw[Af (DQ h hP (by intro z;cases z))];exact h⟩)
  .exact .inr h
 have pa':BI (rSeq K (upd H p (.ins C dx (putF "amount" (.int m) [])))) as xs:=u7 (λt x h=>by
  rcases h with⟨q,zs,rfl,hq,pz⟩| h
  .exact .inl ⟨q,zs,rfl,sl hq,pz⟩
  .exact .inr (Aq Aw _ _ _ _ ts h)) pa
 refine⟨_,rfl,_,rfl,m,l,xs,as,rfl,sl hS,pa',ok,f6,λj H' sm rj=>?_⟩;have mI:=sm _ _ Ab;refine⟨_,rfl,p,C,dx,_,rfl,mI,T.cl,T.nJ,(by show 1<1000;decide),?_⟩;refine q _ (λb o e hb=>?_) ⟨dx,j,Ab,?_⟩
 .rw[Af hb]
  exact sm _ _ (by rw[Af hb];exact e)
 .refine Aq (Aq Aw) _ _ _ _ (λb u hb t=>?_) rj
  rw[Af ?_]
  .exact hb
  .rintro rfl
   rw[mI] at hb;cases hb;obtain⟨ys,e| ⟨o,e⟩⟩:=t
   .cases e
   .cases e
theorem scSize:FnScope zl3 zl3 (Ah ACW):=fscp (by decide+kernel)
theorem ADm(F:Fun K "size" "Web.size" ACW f fd)(T:Txt K mg C):FnOk P w K mg base CX0 1 f fd zl3 (Ii K C):=by
 refine F.ok scSize (λvs H Q E h=>?_) (λa7 A outer s H vs Q E hr h=>?_)
 .obtain⟨p,m,as,rfl,_⟩:=h
  rfl
 obtain⟨p,m,as,rfl,⟨dx,j,hP,hj⟩,q⟩:=h;refine⟨_,Ai (Ao (Bw (pv 0) rfl)),?_⟩;exact⟨_,rfl,p,C,dx,_,_,rfl,hP,T.cl,T.nA,HW _ _,q⟩
theorem AGj:FnScope zl3 zl3 (Ah ADi):=fscp (by decide+kernel)
theorem ADl(F:Fun K "ties" "Web.ties" ADi f fd)(T:Txt K mg C):FnOk P w K mg base CX0 1 f fd zl3 (Qf K C):=by
 refine F.ok AGj (λvs H Q E h=>?_) (λa7 A outer s H vs Q E hr h=>?_)
 .obtain⟨p,m,as,rfl,_⟩:=h
  rfl
 obtain⟨p,m,as,rfl,⟨dx,j,hP,j',xs,ej,hj,pj⟩,q⟩:=h;cases ej;refine⟨_,Ai (Ao (Bb Dl rfl T.list E6 (Aa (Bw (pv 0) rfl) Ac))),?_⟩;refine⟨_,rfl,p,C,dx,_,_,rfl,hP,T.cl,T.nJ,Jv _ _,j,xs,rfl,.inr hj,λl hl=>?_⟩;refine q l _ (u8 hl _) hl ⟨l,xs,rfl,uy Ab,?_⟩;exact u7 (λa b=>Aq Aw H _ a b (TSm.new hl)) pj
theorem AHw:FnScope zl4 zl4 (Ah sAt):=fscp (by decide+kernel)
theorem AHW(F:Fun K "at" "Web.at" sAt f fd)(T:Txt K mg C):FnOk P w K mg base CX0 1 f fd zl4 (AGI K C):=by
 refine F.ok AHw (λvs H Q E h=>?_) (λa7 A outer s H vs Q E hr h=>?_)
 .obtain⟨p,m,x,as,rfl,_⟩:=h
  rfl
 obtain⟨p,m,x,as,rfl,⟨dx,j,hP,j',xs,ej,hj,pj⟩,f6,q⟩:=h;cases ej;refine⟨_,Ai (Ao (Bq (Ah sAt) ["number","tie"] ["point"] [1] rfl rfl (by decide+kernel) ⟨⟨rfl,by decide+kernel⟩,trivial⟩ (Vb rfl T.enum (Aa (Bw (pv 0) rfl) Ac))
  (λ_ _ _=>Hj (K:=K) (n:=2) rfl rfl (Bd (BK (i:=0)) (Bd (BK (i:=1)) Dp)))
  (λ_ _ _=>CK (Am (Er (K:=K) rfl) (pv 2) (pv 1) rfl))
  (λ_ _ _=>pv 0))),?_⟩
 refine⟨_,rfl,p,C,dx,_,_,rfl,hP,T.cl,T.nJ,Jv _ _,j,rfl,⟨_,hj⟩,λD hD=>?_⟩;have lx:=AV pj;refine Gf (xs:=xs) (λi τ H2=>∃n t:Option V,τ=[n,t,uA (.int x)]/\Same H H2/\H2 D=uA (.lst ((hits x (as.take i)).map V.int))) ⟨uB,uB,rfl,u8 hD _,Ab⟩
  (by rintro i τ H2 _ ⟨_,_,_,sm,_⟩;exact sm.ts.seq hj) ?_ ?_
 .rintro i y τ H2 T1 hy eJ ⟨n,t,rfl,sm,cr⟩
  obtain⟨tie,ht,rt⟩:=Paired.get pj hy;obtain⟨q1,rfl,hq1⟩:=CG rt;have s1:Same H2 (upd H2 T1 (.tup [.int i,.ref q1])):=u8 eJ _;refine⟨T1,_,rfl,uz Ab,rfl,_,_,rfl,_,_,rfl,rfl,?_⟩;refine⟨_,rfl,_,rfl,q1,_,rfl,.inr (s1.ts.seq (sm.ts.seq hq1)),rfl,?_,_,rfl,?_⟩
  .simp[flatV]
  .rw[uC (by decide),Cz]
   have hJ:=s1 _ _ cr;have bj:=(AH.mp ht).1;refine ite2 (λc=>?_) (λc=>?_)
   .have c':=uG c
    refine⟨_,rfl,_,hJ,?_,_,_,rfl,λb o e=>?_,?_⟩
    .have:(hits x (as.take i)).length<=(as.take i).length:=JC x 0 (as.take i)
     rw[AB];rw[B0] at this;exact Ay (ye this f6)
    .rw[Af (Ae e hD)]
     exact s1 _ _ (sm b o e)
    .rw[Ab,Oz ht,uD c',BM]
     rfl
   .have c':¬ x∈tie:=λz=>c (uE z)
    refine⟨_,_,rfl,sm.trans s1,?_⟩;rw[hJ,Oz ht,uC c',Co]
 .rintro τ H2 ⟨n,t,rfl,sm,cr⟩
  rw[<- lx,CM] at cr;exact q D H2 sm hD cr
end K32
namespace G
abbrev Row:=Nat×Nat×Nat
def Low(rows:List Row)(t k l:Nat):Prop:=l<k/\(l<=1\/∃r,rows[l-2]?=uA r/\t<r.1)
def Ok(n:Nat)(rows:List Row):Prop:=∀(i:Nat) (r:Row),rows[i]?=uA r->r.1<n/\Low rows r.1 (i+2) r.2.1/\Low rows r.1 (i+2) r.2.2
structure Least(n:Nat)(rows:List Row):Prop where
 ok:Ok n rows
 pos:∀(i:Nat) (r:Row),rows[i]?=uA r->r.2.2≠0
 one:∀(i j:Nat) (r:Row),rows[i]?=uA r->rows[j]?=uA r->i=j
noncomputable def rank(n:Nat)(rows:List Row)(k:Nat):Nat:=if k<2 then n+1-k else(rows.getD (k-2) (0,0,0)).1
noncomputable def ledF(rows:List Row):Nat->Nat->uL->Bool
 | 0,_,_=>false
 | f+1,k,s=>if k<=1 then decide (k=1/\s=[]) else
  let r:=rows.getD (k-2) (0,0,0)
  match s with
  | []=>ledF rows f r.2.1 []
  | x::xs=>if x<r.1 then false else if x=r.1 then ledF rows f r.2.2 xs else ledF rows f r.2.1 (x::xs)
def led(rows:List Row)(k:Nat)(s:uL):Bool:=ledF rows (k+1) k s
def Knot(rows:List Row)(k:Nat):Prop:=k<rows.length+2
section
variable{rows:List Row}
theorem Bf{k:Nat}(h:Knot rows k)(h2:2<=k):rows[k-2]?=uA (rows.getD (k-2) (0,0,0)):=by
 have:k-2<rows.length:=by unfold Knot at h;exact wb h h2
 rw[AI this,AD,AI this];rfl
theorem Ok.low(o:Ok n rows){r:Row}(h:rows[i]?=uA r):r.1<n/\r.2.1<i+2/\r.2.2<i+2/\r.1<rank n rows r.2.1/\r.1<rank n rows r.2.2/\Knot rows r.2.1/\Knot rows r.2.2:=by
 obtain⟨h1,h2,h3⟩:=o i r h;have hi:=(AH.mp h).1;have rk:∀l,Low rows r.1 (i+2) l->r.1<rank n rows l/\Knot rows l:=by
  intro l hl;obtain⟨a,b⟩:=hl;refine⟨?_,by unfold Knot;lia⟩;unfold rank;by_cases c:l<2
  .rw[uD c];lia
  .rw[uC c]
   rcases b with b| ⟨r',e,z⟩
   ·lia
   .rw[AD,e];exact z
 exact⟨h1,h2.1,h3.1,(rk _ h2).1,(rk _ h3).1,(rk _ h2).2,(rk _ h3).2⟩
theorem Zc(o:Ok n rows):∀(f k:Nat) (s:uL),k<f->Knot rows k->ledF rows (f+1) k s=ledF rows f k s:=by
 intro f
 induction f with
 | zero=>intro k s h;lia
 | succ f ih =>
  intro k s hk kn;unfold ledF;by_cases c:k<=1
  .rw[uD c,uD c]
  rw[uC c,uC c];obtain⟨h1,h2,h3,_,_,k1,k2⟩:=o.low (Bf kn (vn c));have e1:∀s,ledF rows (f+1) (rows.getD (k-2) (0,0,0)).2.1 s=ledF rows f (rows.getD (k-2) (0,0,0)).2.1 s:=λs=>ih _ _ (wk h2 hk c) k1;have e2:∀s,ledF rows (f+1) (rows.getD (k-2) (0,0,0)).2.2 s=ledF rows f (rows.getD (k-2) (0,0,0)).2.2 s:=λs=>ih _ _ (wk h3 hk c) k2;cases s with
  | nil=>exact e1 _
  | cons x xs =>
   show(if _ then _ else if _ then ledF rows (f+1) _ _ else ledF rows (f+1) _ _)=_;rw[e1,e2]
theorem Kp(o:Ok n rows){k:Nat}(s:uL)(kn:Knot rows k):∀d,ledF rows (k+1+d) k s=led rows k s
 | 0=>rfl
 | d+1=>by rw[show k+1+(d+1)=(k+1+d)+1 from wU,Zc o _ k s (by lia) kn,Kp o s kn d]
theorem Ea(s:uL):led rows 1 s=decide (s=[]):=by
 unfold led ledF;simp
theorem DX(s:uL):led rows 0 s=false:=by
 unfold led ledF;simp
theorem Eb(o:Ok n rows){k:Nat}(kn:Knot rows k)(h2:2<=k):led rows k []=led rows (rows.getD (k-2) (0,0,0)).2.1 []:=by
 obtain⟨h1,kc,h3,_,_,k1,k2⟩:=o.low (Bf kn h2);unfold led
 conv=>lhs;unfold ledF
 rw[uC (wa h2)];have:=Kp o [] k1 (k-(rows.getD (k-2) (0,0,0)).2.1-1);rw[show(rows.getD (k-2) (0,0,0)).2.1+1+(k-(rows.getD (k-2) (0,0,0)).2.1-1)=k from xr kc h2] at this;exact this
theorem Bp(o:Ok n rows){k x:Nat}{xs:uL}(kn:Knot rows k)(h2:2<=k):led rows k (x::xs) =
  if x<(rows.getD (k-2) (0,0,0)).1 then false else if x=(rows.getD (k-2) (0,0,0)).1 then led rows (rows.getD (k-2) (0,0,0)).2.2 xs else led rows (rows.getD (k-2) (0,0,0)).2.1 (x::xs):=by
 obtain⟨h1,kc,h3,_,_,k1,k2⟩:=o.low (Bf kn h2);unfold led
 conv=>lhs;unfold ledF
 rw[uC (wa h2)];have e1:=Kp o (x::xs) k1 (k-(rows.getD (k-2) (0,0,0)).2.1-1);rw[show(rows.getD (k-2) (0,0,0)).2.1+1+(k-(rows.getD (k-2) (0,0,0)).2.1-1)=k from xr kc h2] at e1;have e2:=Kp o xs k2 (k-(rows.getD (k-2) (0,0,0)).2.2-1);rw[show(rows.getD (k-2) (0,0,0)).2.2+1+(k-(rows.getD (k-2) (0,0,0)).2.2-1)=k from xr h3 h2] at e2;show(if _ then _ else if _ then ledF rows k _ _ else ledF rows k _ _)=_;rw[e1,e2];rfl
def Way(n:Nat)(rows:List Row)(k:Nat)(s:uL):Prop:=led rows k s=true/\s.Pairwise (· < ·)/\∀x∈s,x<n/\rank n rows k<=x
theorem ABW(L:Least n rows){k:Nat}{s:uL}(kn:Knot rows k)(h2:2<=k)(w:Way n rows (rows.getD (k-2) (0,0,0)).2.2 s):Way n rows k ((rows.getD (k-2) (0,0,0)).1::s):=by
 obtain⟨w1,w2,w3⟩:=w;obtain⟨h1,kc,h3,r1,r2,k1,k2⟩:=L.ok.low (Bf kn h2);have rk:rank n rows k=(rows.getD (k-2) (0,0,0)).1:=by unfold rank;rw[uC (vi h2)]
 refine⟨?_,?_,?_⟩
 .rw[Bp L.ok kn h2,uC vT,uD rfl];exact w1
 .exact SO (λx hx=>by have:=(w3 x hx).2;exact va r2 this) w2
 .intro x hx
  rcases BH.mp hx with rfl| hx
  .exact⟨h1,vB rk⟩
  .have:=w3 x hx
   exact⟨this.1,by lia⟩
theorem AEV:Way n rows 1 []:=⟨by rw[Ea];rfl,.nil,λx hx=>nomatch hx⟩
theorem off(o:Ok n rows){b x:Nat}{xs:uL}(kb:Knot rows b)(h:x<rank n rows b):led rows b (x::xs)=false:=by
 unfold rank at h;by_cases c:b<2
 .have hb:b=0\/b=1:=wg c
  rcases hb with rfl| rfl
  .exact DX _
  .rw[Ea];rfl
 .rw[uC c] at h
  rw[Bp o kb (uR c),uD h]
end
section
variable{t:Nat}{rows ae new:List Row}
def tieOf(rows:List Row)(k:Nat):Nat:=(rows.getD (k-2) (0,0,0)).1
def outOf(rows:List Row)(k:Nat):Nat:=(rows.getD (k-2) (0,0,0)).2.1
def intoOf(rows:List Row)(k:Nat):Nat:=(rows.getD (k-2) (0,0,0)).2.2
structure Closed(rows:List Row)(rc:uL):Prop where
 two:∀k∈rc,2<=k
 knot:∀k∈rc,Knot rows k
 out:∀k∈rc,outOf rows k<=1\/outOf rows k∈rc
 into:∀k∈rc,intoOf rows k<=1\/intoOf rows k∈rc
structure Kept(n t:Nat)(rows:List Row)(rc:uL)(ae:List Row)(pl:Nat->uX):Prop where
 least:Least n ae
 ge:∀r∈ae,t<=r.1
 z:pl 0=uA 0
 o:pl 1=uA 1
 has:∀k∈rc,t<=tieOf rows k->∃p,pl k=uA p/\Knot ae p/\tieOf rows k<=rank n ae p
theorem AAw(hn:∀k∈rc,tieOf rows k<n):Kept n n rows rc [] (λk=>if k=0 then uA 0 else if k=1 then uA 1 else uB) :=
 ⟨⟨λi r h=>by simp at h,λi r h=>by simp at h,λi j r h=>by simp at h⟩,λr h=>(nomatch h),rfl,rfl,λk hk h=>uH (hn k hk) (vi h)⟩
theorem Lx{p:Nat}(h:Knot ae p):rank n (ae++new) p=rank n ae p:=by
 unfold rank;by_cases c:p<2
 .rw[uD c,uD c]
 .rw[uC c,uC c,AD,AD,By (by unfold Knot at h;lia)]
theorem Gq{p:Nat}(h:Knot ae p):Knot (ae++new) p:=by unfold Knot at *;rw[AZ];lia
theorem Kept.low(I:Kept n (t+1) rows rc ae pl)(o:Ok n rows)(hn:t<n){l:Nat}(h:l<=1\/l∈rc)(z:l<=1\/t<tieOf rows l):∃p,pl l=uA p/\Knot ae p/\t<rank n ae p:=by
 rcases DJ l 2 with c| c
 .have e:l=0\/l=1:=wg c
  rcases e with rfl| rfl
  .exact⟨0,I.z,by unfold Knot;exact wG,by unfold rank;rw[uD (by decide)];lia⟩
  .exact⟨1,I.o,by unfold Knot;exact wL,by unfold rank;rw[uD (by decide)];lia⟩
 .have hr:=h.resolve_left (vW c)
  have hz:=z.resolve_left (vW c);obtain⟨p,h1,h2,h3⟩:=I.has l hr hz;exact⟨p,h1,h2,va hz h3⟩
noncomputable def rowIn(rows:List Row)(pl:Nat->uX)(k:Nat):Row:=(tieOf rows k,(pl (outOf rows k)).getD 0,(pl (intoOf rows k)).getD 0)
theorem Closed.low(c:Closed rows rc)(o:Ok n rows){k:Nat}(h:k∈rc):tieOf rows k<n/\(outOf rows k<=1\/tieOf rows k<tieOf rows (outOf rows k))/\(intoOf rows k<=1\/tieOf rows k<tieOf rows (intoOf rows k)):=by
 obtain⟨h1,h2,h3⟩:=o _ _ (Bf (c.knot k h) (c.two k h));refine⟨h1,h2.2.imp id λ⟨r,e,z⟩=>?_,h3.2.imp id λ⟨r,e,z⟩=>?_⟩
 .show(rows.getD (k-2) (0,0,0)).1<(rows.getD ((rows.getD (k-2) (0,0,0)).2.1-2) (0,0,0)).1
  rw[AD (l:=rows) (i:=(rows.getD (k-2) (0,0,0)).2.1-2),e];exact z
 .show(rows.getD (k-2) (0,0,0)).1<(rows.getD ((rows.getD (k-2) (0,0,0)).2.2-2) (0,0,0)).1
  rw[AD (l:=rows) (i:=(rows.getD (k-2) (0,0,0)).2.2-2),e];exact z
theorem Kept.row(I:Kept n (t+1) rows rc ae pl)(c:Closed rows rc)(o:Ok n rows)(hn:t<n){k:Nat}(h:k∈rc)(ht:tieOf rows k=t) :
  ∃a b,pl (outOf rows k)=uA a/\pl (intoOf rows k)=uA b/\rowIn rows pl k=(t,a,b)/\Knot ae a/\Knot ae b/\t<rank n ae a/\t<rank n ae b:=by
 obtain⟨_,z1,z2⟩:=c.low o h;obtain⟨a,a1,a2,a3⟩:=I.low o hn (c.out k h) (by rw[<- ht];exact z1);obtain⟨b,b1,b2,b3⟩:=I.low o hn (c.into k h) (by rw[<- ht];exact z2);exact⟨a,b,a1,b1,by unfold rowIn;rw[a1,b1,ht];rfl,a2,b2,a3,b3⟩
theorem ADK{p k:Nat}(h:Knot ae p)(hk:ae.length+2<=k)(z:t<rank n ae p):Low (ae++new) t k p:=by
 refine⟨by unfold Knot at h;exact va h hk,?_⟩;rcases DJ p 2 with c| c
 .exact .inl (vY c)
 .refine .inr ⟨ae.getD (p-2) (0,0,0),?_,?_⟩
  .rw[By (by unfold Knot at h;lia)]
   exact Bf h c
  .unfold rank at z
   rw[uC (wc c)] at z;exact z
theorem Kept.step(I:Kept n (t+1) rows rc ae pl)(c:Closed rows rc)(o:Ok n rows)(hn:t<n)(hw:∀r,r∈new->∃k,k∈rc/\tieOf rows k=t/\r=rowIn rows pl k/\r.2.2≠0)(nd:new.Nodup)
  (h1:∀k,k∉rc\/tieOf rows k≠t->f' k=pl k)
  (h2:∀k∈rc,tieOf rows k=t->∃p,f' k=uA p/\((∃i,(ae++new)[i]?=uA (rowIn rows pl k)/\p=i+2)\/(rowIn rows pl k∉ae++new/\p=(rowIn rows pl k).2.1))) :
  Kept n t rows rc (ae++new) f':=by
 have at_new:∀(i:Nat) (r:Row),ae.length<=i->(ae++new)[i]?=uA r->new[i-ae.length]?=uA r:=λi r hi e=>by rw[CF hi] at e;exact e
 have at_old:∀(i:Nat) (r:Row),i<ae.length->(ae++new)[i]?=uA r->ae[i]?=uA r:=λi r hi e=>by rw[By hi] at e;exact e
 have tn:∀r∈new,∃a b,r=(t,a,b)/\b≠0/\Knot ae a/\Knot ae b/\t<rank n ae a/\t<rank n ae b:=λr hr=>by
  obtain⟨k,k1,k2,k3,k4⟩:=hw r hr;obtain⟨a,b,_,_,e,x1,x2,x3,x4⟩:=I.row c o hn k1 k2;rw[e] at k3;refine⟨a,b,k3,?_,x1,x2,x3,x4⟩;rw[k3] at k4;exact k4
 have two:∀k∈rc,k≠0/\k≠1:=λk hk=>by have:=c.two k hk;lia
 refine⟨⟨?_,?_,?_⟩,?_,?_,?_,?_⟩
 .intro i r e
  rcases DJ i ae.length with hi| hi
  .obtain⟨z1,z2,z3⟩:=I.least.ok i r (at_old i r hi e)
   refine⟨z1,⟨z2.1,z2.2.imp id λ⟨q,e,z⟩=>⟨q,?_,z⟩⟩,⟨z3.1,z3.2.imp id λ⟨q,e,z⟩=>⟨q,?_,z⟩⟩⟩
   .rw[By (by have:=(AH.mp e).1;exact this)];exact e
   .rw[By (by have:=(AH.mp e).1;exact this)];exact e
  .obtain⟨a,b,rfl,_,x1,x2,x3,x4⟩:=tn r (AX (at_new i r hi e))
   exact⟨hn,ADK x1 (zj hi) x3,ADK x2 (zj hi) x4⟩
 .intro i r e
  rcases DJ i ae.length with hi| hi
  .exact I.least.pos i r (at_old i r hi e)
  .obtain⟨a,b,rfl,x,_⟩:=tn r (AX (at_new i r hi e))
   exact x
 .intro i j r e1 e2
  have mE:∀(i j:Nat),i<ae.length->ae.length<=j->(ae++new)[i]?=uA r->(ae++new)[j]?=uA r->False:=λi j hi hj e1 e2=>by
   have g:=I.ge r (AX (at_old i r hi e1));obtain⟨a,b,rfl,_⟩:=tn r (AX (at_new j r hj e2));have g':=g;lia
  rcases DJ i ae.length with hi| hi
  .rcases DJ j ae.length with hj| hj
   .exact I.least.one i j r (at_old i r hi e1) (at_old j r hj e2)
   .exact(mE i j hi hj e1 e2).elim
  .rcases DJ j ae.length with hj| hj
   .exact(mE j i hj hi e2 e1).elim
   .have a1:=at_new i r hi e1
    have a2:=at_new j r hj e2;have:=(Kx (AH.mp a1).1 nd).mp (a1.trans a2.symm);lia
 .intro r hr
  rcases Ct.mp hr with hr| hr
  .have:=I.ge r hr;exact vc this
  .obtain⟨a,b,rfl,_⟩:=tn r hr
   exact AF t
 .rw[h1 0 (.inl λh=>(two 0 h).1 rfl)];exact I.z
 .rw[h1 1 (.inl λh=>(two 1 h).2 rfl)];exact I.o
 .intro k hk jS
  by_cases e:tieOf rows k=t
  .obtain⟨p,p1,p2⟩:=h2 k hk e
   refine⟨p,p1,?_⟩;obtain⟨a,b,_,_,re,x1,x2,x3,x4⟩:=I.row c o hn hk e;rcases p2 with⟨i,i1,rfl⟩| ⟨i1,rfl⟩
   .have il:=(AH.mp i1).1
    refine⟨by unfold Knot;exact wI il,?_⟩;unfold rank;rw[uC yj,EU,AD,i1,re];show tieOf rows k<=t;exact vB e
   .rw[re]
    refine⟨Gq x1,?_⟩;rw[Lx x1,e];exact DB x3
  .obtain⟨p,p1,p2,p3⟩:=I.has k hk (vI jS e)
   exact⟨p,by rw[h1 k (.inr e)];exact p1,Gq p2,by rw[Lx p2];exact p3⟩
end
section
variable{d t k1 k2 m1 m2:Nat}{ss:uJ}{rows more bX ce:List Row}
theorem Ks{l k:Nat}(h:Low rows t k l):Low (rows++more) t k l:=⟨h.1,h.2.imp id λ⟨q,e,z⟩=>⟨q,by rw[By (AH.mp e).1];exact e,z⟩⟩
theorem AGA(o:Ok n rows)(ht:t<n)(h1:Low rows t (rows.length+2) k1)(h2:Low rows t (rows.length+2) k2):Ok n (rows++[(t,k1,k2)]):=by
 intro j r e;rcases DJ j rows.length with c| c
 .rw[By c] at e
  obtain⟨z1,z2,z3⟩:=o j r e;exact⟨z1,Ks z2,Ks z3⟩
 .rw[CF c] at e
  have j0:j=rows.length:=by
   have:=(AH.mp e).1;simp at this;lia
  subst j0;rw[IZ] at e;cases e;exact⟨ht,Ks h1,Ks h2⟩
theorem Ul{k:Nat}(kn:Knot rows k)(up:k<=1\/t+1<=tieOf rows k):Low rows t (rows.length+2) k:=by
 refine⟨kn,?_⟩;rcases DJ k 2 with c| c
 .exact .inl (vY c)
 .exact .inr ⟨_,Bf kn c,by have:=up.resolve_left (vW c);unfold tieOf at this;exact wS this⟩
theorem AEZ{k:Nat}(kn:Knot rows k)(h2:2<=k):tieOf (rows++more) k=tieOf rows k:=by
 unfold tieOf;rw[AD,AD,By (by unfold Knot at kn;exact wb kn h2)]
end
section
variable{t:Nat}{rows ae new more:List Row}
theorem ADP(o:Ok n rows):∀(f k:Nat) (s:uL),Knot rows k->ledF (rows++more) f k s=ledF rows f k s:=by
 intro f
 induction f with
 | zero=>intro k s h;rfl
 | succ f ih =>
  intro k s kn;unfold ledF;by_cases c:k<=1
  .rw[uD c,uD c]
  rw[uC c,uC c];have eg:(rows++more).getD (k-2) (0,0,0)=rows.getD (k-2) (0,0,0):=by
   rw[AD,AD,By (by unfold Knot at kn;lia)]
  obtain⟨h1,h2,h3,_,_,k1,k2⟩:=o.low (Bf kn (vn c));rw[eg];cases s with
  | nil=>exact ih _ _ k1
  | cons x xs =>
   show(if _ then _ else if _ then ledF (rows++more) f _ _ else ledF (rows++more) f _ _)=_;rw[ih _ _ k1,ih _ _ k2]
theorem Dy(o:Ok n rows){k:Nat}(s:uL)(kn:Knot rows k):led (rows++more) k s=led rows k s:=ADP o _ _ _ kn
def RowLt(a b:Row):Prop:=b.1<a.1\/(a.1=b.1/\(a.2.1<b.2.1\/(a.2.1=b.2.1/\a.2.2<b.2.2)))
structure Kept2(n t:Nat)(rows:List Row)(rc:uL)(ae:List Row)(pl:Nat->uX):Prop where
 base:Kept n t rows rc ae pl
 sem:∀k∈rc,t<=tieOf rows k->∀p,pl k=uA p->∀s,led ae p s=led rows k s
 img:∀k∈rc,t<=tieOf rows k->∀p,pl k=uA p->(2<=p/\ae[p-2]?=uA (rowIn rows pl k))\/((rowIn rows pl k).2.2=0/\p=(rowIn rows pl k).2.1)
 sur:∀(i:Nat) (r:Row),ae[i]?=uA r->∃k∈rc,t<=tieOf rows k/\pl k=uA (i+2)
 srt:ae.Pairwise RowLt
theorem WX(hn:∀k∈rc,tieOf rows k<n):Kept2 n n rows rc [] (λk=>if k=0 then uA 0 else if k=1 then uA 1 else uB) :=
 ⟨AAw hn,λk hk h=>uH (hn k hk) (vi h),λk hk h=>uH (hn k hk) (vi h),λi r h=>by simp at h,.nil⟩
theorem Wj(c:Closed rows rc)(o:Ok n rows)(h1:∀k,k∉rc\/tieOf rows k≠t->f' k=pl k){k:Nat}(hk:k∈rc)(ht:t<=tieOf rows k):rowIn rows f' k=rowIn rows pl k:=by
 have two:∀k,k<=1->k∉rc:=λk h z=>by have:=c.two k z;exact yV this h
 obtain⟨_,z1,z2⟩:=c.low o hk;have e1:f' (outOf rows k)=pl (outOf rows k):=by
  rcases z1 with z| z
  .exact h1 _ (.inl (two _ z))
  .exact h1 _ (.inr (yW ht z))
 have e2:f' (intoOf rows k)=pl (intoOf rows k):=by
  rcases z2 with z| z
  .exact h1 _ (.inl (two _ z))
  .exact h1 _ (.inr (yW ht z))
 unfold rowIn;rw[e1,e2]
theorem Kept2.low(I:Kept2 n (t+1) rows rc ae pl){l p:Nat}(h:l<=1\/l∈rc)(z:l<=1\/t<tieOf rows l)(hp:pl l=uA p)(s:uL):led ae p s=led rows l s:=by
 rcases DJ l 2 with c| c
 .have e:l=0\/l=1:=wg c
  rcases e with rfl| rfl
  .rw[I.base.z] at hp
   cases hp;rw[DX,DX]
  .rw[I.base.o] at hp
   cases hp;rw[Ea,Ea]
 .exact I.sem l (h.resolve_left (vW c)) (z.resolve_left (vW c)) p hp s
theorem Kept2.step(I:Kept2 n (t+1) rows rc ae pl)(c:Closed rows rc)(o:Ok n rows)(hn:t<n)(hw:∀r,r∈new->∃k,k∈rc/\tieOf rows k=t/\r=rowIn rows pl k/\r.2.2≠0)(nd:new.Nodup)
  (hw2:∀k∈rc,tieOf rows k=t->(rowIn rows pl k).2.2≠0->rowIn rows pl k∈new) (so:new.Pairwise RowLt)
  (h1:∀k,k∉rc\/tieOf rows k≠t->f' k=pl k)
  (h2:∀k∈rc,tieOf rows k=t->∃p,f' k=uA p/\((∃i,(ae++new)[i]?=uA (rowIn rows pl k)/\p=i+2)\/(rowIn rows pl k∉ae++new/\p=(rowIn rows pl k).2.1))) :
  Kept2 n t rows rc (ae++new) f':=by
 have B:=I.base.step c o hn hw nd h1 h2;have nV:=I.base.least.ok;have at_:∀k∈rc,tieOf rows k=t->∀p,f' k=uA p->(∃i,(ae++new)[i]?=uA (rowIn rows pl k)/\p=i+2)\/((rowIn rows pl k).2.2=0/\p=(rowIn rows pl k).2.1):=λk hk ht p hp=>by
  obtain⟨p',e,h⟩:=h2 k hk ht;rw[hp] at e;cases e;rcases h with h| ⟨nm,e⟩
  .exact .inl h
  .refine .inr ⟨?_,e⟩
   rcases S3 (rowIn rows pl k).2.2 with z| z
   .exact z
   .exact uH (CH _ (hw2 k hk ht (by lia))) nm
 have b6:∀k∈rc,t+1<=tieOf rows k->∀p,f' k=uA p->pl k=uA p:=λk hk ht p hp=>by rw[h1 k (.inr (yX ht))] at hp;exact hp
 refine⟨B,λk hk ht p hp s=>?_,λk hk ht p hp=>?_,λi r e=>?_,?_⟩
 .by_cases e:tieOf rows k=t
  .obtain⟨a,b,ea,eb,re,x1,x2,x3,x4⟩:=I.base.row c o hn hk e
   obtain⟨_,z1,z2⟩:=c.low o hk;have la:=I.low (c.out k hk) (by rw[<- e];exact z1) ea;have lb:=I.low (c.into k hk) (by rw[<- e];exact z2) eb;have kk:=c.knot k hk;have k2:=c.two k hk;have et:(rows.getD (k-2) (0,0,0)).1=t:=e;rcases at_ k hk e p hp with⟨i,hi,rfl⟩| ⟨w0,rfl⟩
   .have il:=(AH.mp hi).1
    have kp:Knot (ae++new) (i+2):=by unfold Knot;exact wI il
    have eg:(ae++new).getD (i+2-2) (0,0,0)=(t,a,b):=by rw[EU,AD,hi,re];rfl
    cases s with
    | nil =>
     rw[Eb B.least.ok kp vg,eg,Eb o kk k2];rw[Dy nV [] x1];exact la []
    | cons x xs =>
     rw[Bp B.least.ok kp vg,eg,Bp o kk k2,et];rw[Dy nV _ x1,Dy nV _ x2,la,lb];rfl
   .rw[re] at w0
    have b0:b=0:=w0;rw[re];rw[Dy nV _ x1,la];have sY:∀s,led rows (intoOf rows k) s=false:=λs=>by rw[<- lb,b0,DX]
    have tu:∀x xs,x<=t->led rows (outOf rows k) (x::xs)=false:=λx xs h=>by rw[<- la];exact off nV x1 (ve h x3)
    cases s with
    | nil=>rw[Eb o kk k2];rfl
    | cons x xs =>
     rw[Bp o kk k2,et];by_cases c1:x<t
     .rw[uD c1];exact tu x xs (vX c1)
     .rw[uC c1]
      by_cases c2:x=t
      .rw[uD c2]
       show _=led rows (intoOf rows k) xs;rw[sY];exact tu x xs (vB c2)
      .rw[uC c2];rfl
  .have rS:=b6 k hk (vI ht e) p hp
   obtain⟨p',e1,e2,_⟩:=I.base.has k hk (vI ht e);rw[rS] at e1;cases e1;rw[Dy nV s e2];exact I.sem k hk (vI ht e) p rS s
 .rw[Wj c o h1 hk ht]
  by_cases e:tieOf rows k=t
  .rcases at_ k hk e p hp with⟨i,hi,rfl⟩| h
   .exact .inl ⟨vg,hi⟩
   .exact .inr h
  .rcases I.img k hk (vI ht e) p (b6 k hk (vI ht e) p hp) with⟨h2,h3⟩| h
   .refine .inl ⟨h2,?_⟩
    rw[By (AH.mp h3).1];exact h3
   .exact .inr h
 .rcases DJ i ae.length with hi| hi
  .rw[By hi] at e
   obtain⟨k,hk,ht,hp⟩:=I.sur i r e;exact⟨k,hk,vc ht,by rw[h1 k (.inr (yX ht))];exact hp⟩
  .have e':=e
   rw[CF hi] at e';obtain⟨k,hk,ht,rfl,w0⟩:=hw r (AX e');obtain⟨p,hp,h⟩:=h2 k hk ht;refine⟨k,hk,vk ht,?_⟩;rcases h with⟨j,hj,rfl⟩| ⟨nm,_⟩
   .rw[B.least.one i j _ e hj]
    exact hp
   .exact uH (AX e) nm
 .refine C8.mpr ⟨I.srt,so,λa ha b hb=>.inl ?_⟩
  have:=I.base.ge a ha;obtain⟨k,_,hk,rfl,_⟩:=hw b hb;show tieOf rows k<a.1;lia
structure Canon(n:Nat)(ae:List Row)(top:Nat):Prop where
 least:Least n ae
 srt:ae.Pairwise RowLt
 knot:Knot ae top
 led:∀p,2<=p->Knot ae p->p=top\/∃r∈ae,r.2.1=p\/r.2.2=p
theorem Kept2.canon(I:Kept2 n 0 rows rc ae pl)(c:Closed rows rc)(o:Ok n rows){top:Nat}(ht:top<=1\/top∈rc)(hp:pl top=uA hd)(par:∀k∈rc,k=top\/∃k'∈rc,k<k'/\(outOf rows k'=k\/intoOf rows k'=k)) :
  Canon n ae hd/\∀s,led ae hd s=led rows top s:=by
 have key:∀d k p,k∈rc->rows.length+2-k<=d->pl k=uA p->2<=p->p=hd\/∃r∈ae,r.2.1=p\/r.2.2=p:=by
  intro d
  induction d with
  | zero =>
   intro k p hk cz _ _;have:=c.knot k hk;unfold Knot at this;lia
  | succ d ih =>
   intro k p hk cz qv p2;rcases par k hk with rfl| ⟨k',a6,lt,ch⟩
   .rw[hp] at qv
    exact .inl (AN qv).symm
   .obtain⟨p',rS,_⟩:=I.base.has k' a6 (AY _)
    have im:=I.img k' a6 (AY _) p' rS;rcases ch with e| e
    .have ep:(rowIn rows pl k').2.1=p:=by
      show(pl (outOf rows k')).getD 0=p;rw[e,qv];rfl
     rcases im with⟨_,h3⟩| ⟨_,h4⟩
     .exact .inr ⟨_,AX h3,.inl ep⟩
     .rw[ep] at h4
      subst h4;have:=c.knot k' a6;unfold Knot at this;exact ih k' p' a6 (yY cz lt) rS p2
    .have ep:(rowIn rows pl k').2.2=p:=by
      show(pl (intoOf rows k')).getD 0=p;rw[e,qv];rfl
     rcases im with⟨_,h3⟩| ⟨h4,_⟩
     .exact .inr ⟨_,AX h3,.inr ep⟩
     ·lia
 refine⟨⟨I.base.least,I.srt,?_,λp p2 kp=>?_⟩,λs=>?_⟩
 .rcases ht with h| h
  .have:top=0\/top=1:=wf h
   rcases this with rfl| rfl
   .rw[I.base.z] at hp;cases hp;unfold Knot;exact wG
   .rw[I.base.o] at hp;cases hp;unfold Knot;exact wL
  .obtain⟨p,e,kn,_⟩:=I.base.has top h (AY _)
   rw[hp] at e;cases e;exact kn
 .obtain⟨k,hk,_,qv⟩:=I.sur (p-2) _ (Bf kp p2)
  rw[show p-2+2=p from wR p2] at qv;exact key _ k p hk (AF _) qv p2
 .rcases ht with h| h
  .have:top=0\/top=1:=wf h
   rcases this with rfl| rfl
   .rw[I.base.z] at hp;cases hp;rw[DX,DX]
   .rw[I.base.o] at hp;cases hp;rw[Ea,Ea]
  .exact I.sem top h (AY _) hd hp s
end
section
variable{A B:List Row}{a b k:Nat}
theorem Ms(L:Least n A):∀(f k:Nat),k<f->Knot A k->k≠0->∃s,Way n A k s/\(2<=k->∃xs,s=rank n A k::xs)/\(k=1->s=[])
 | 0,k,h,_,_=>by lia
 | f+1,k,h,kn,k0=>by
  rcases DJ k 2 with c| c
  .have e:k=1:=by lia
   subst e;exact⟨[],AEV,λz=>by lia,λ_=>rfl⟩
  .obtain⟨_,_,h3,_,_,_,k2⟩:=L.ok.low (Bf kn c)
   have w0:=L.pos _ _ (Bf kn c);obtain⟨s,hs,_⟩:=Ms L f _ (xi h3 h c) k2 w0;refine⟨_,ABW L kn c hs,λ_=>⟨s,?_⟩,λz=>by lia⟩;unfold rank;rw[uC (wc c)]
structure Sim(A B:List Row)(k k':Nat):Prop where
 ka:Knot A k
 kb:Knot B k'
 eq:∀s,led A k s=led B k' s
theorem Sim.symm(S:Sim A B k k'):Sim B A k' k:=⟨S.kb,S.ka,λs=>(S.eq s).symm⟩
theorem Sim.no(LA:Least n A)(LB:Least n B)(S:Sim A B k k'):¬ rank n A k<rank n B k':=λh=>by
 have k0:k≠0:=λe=>by
  subst e;have:rank n B k'<=n+1:=by
   unfold rank;by_cases c:k'<2
   .rw[uD c];exact vt
   .rw[uC c]
    have:=(LB.ok.low (Bf S.kb (uR c))).1;lia
  have e:rank n A 0=n+1:=by unfold rank;rw[uD (by decide)];rfl
  lia
 obtain⟨s,⟨w1,_,_⟩,s2,s1⟩:=Ms LA _ k (DI _) S.ka k0;rcases DJ k 2 with c| c
 .have e:k=1:=by lia
  subst e;rw[s1 rfl,S.eq] at w1;have e1:rank n A 1=n:=by unfold rank;rw[uD (by decide)];rfl
  have k1:k'=0:=by
   unfold rank at h e1;rw[e1] at h;by_cases c':k'<2
   .rw[uD c'] at h;lia
   .rw[uC c'] at h
    have:=(LB.ok.low (Bf S.kb (uR c'))).1;lia
  rw[k1,DX] at w1;cases w1
 .obtain⟨xs,rfl⟩:=s2 c
  rw[S.eq,off LB.ok S.kb h] at w1;cases w1
theorem Sim.rank_eq(LA:Least n A)(LB:Least n B)(S:Sim A B k k'):rank n A k=rank n B k':=by
 have h1:=S.no LA LB;have h2:=S.symm.no LB LA;lia
theorem JG(L:Least n A)(kn:Knot A k):2<=k↔rank n A k<n:=by
 unfold rank;constructor
 .intro h
  rw[uC (vi h)];exact(L.ok.low (Bf kn h)).1
 .intro h
  rcases DJ k 2 with c| c
  .rw[uD c] at h;lia
  .exact c
theorem Sim.small(LA:Least n A)(LB:Least n B)(S:Sim A B k k')(h:k<=1):k=k':=by
 have e:=S.rank_eq LA LB;have z:=JG LA S.ka;have z':=JG LB S.kb;have:¬ 2<=k':=λc=>by have:=z'.mp c;rw[<- e] at this;have:=z.mpr this;exact yV this h
 unfold rank at e;rw[uD (by lia),uD (v7 this)] at e;lia
theorem Sim.child(LA:Least n A)(LB:Least n B)(S:Sim A B k k')(h:2<=k):2<=k'/\tieOf A k=tieOf B k'/\Sim A B (outOf A k) (outOf B k')/\Sim A B (intoOf A k) (intoOf B k'):=by
 have e:=S.rank_eq LA LB;have k2:=(JG LB S.kb).mpr (by rw[<- e];exact(JG LA S.ka).mp h);have et:tieOf A k=tieOf B k':=by
  unfold rank at e;rw[uC (vi h),uC (vi k2)] at e;exact e
 obtain⟨_,_,_,ra,_,ka1,ka2⟩:=LA.ok.low (Bf S.ka h);obtain⟨_,_,_,rb,_,kb1,kb2⟩:=LB.ok.low (Bf S.kb k2);refine⟨k2,et,⟨ka1,kb1,λs=>?_⟩,⟨ka2,kb2,λs=>?_⟩⟩
 .cases s with
  | nil =>
   have:=S.eq [];rw[Eb LA.ok S.ka h,Eb LB.ok S.kb k2] at this;exact this
  | cons x xs =>
   by_cases c:x<=tieOf A k
   .rw[show led A (outOf A k) (x::xs)=false from off LA.ok ka1 (by show x<rank n A (A.getD (k-2) (0,0,0)).2.1;unfold tieOf at c;exact ve c ra),show led B (outOf B k') (x::xs)=false from off LB.ok kb1 (by show x<rank n B (B.getD (k'-2) (0,0,0)).2.1;unfold tieOf at c et;lia)]
   .have:=S.eq (x::xs)
    rw[Bp LA.ok S.ka h,Bp LB.ok S.kb k2] at this;unfold tieOf at c et;rw[uC (yc c),uC (yd c),uC (by lia),uC (by lia)] at this;exact this
 .have:=S.eq (tieOf A k::s)
  rw[Bp LA.ok S.ka h,Bp LB.ok S.kb k2] at this;unfold tieOf at this et;rw[uC vT,uD rfl,uC (by lia),uD et] at this;exact this
end
def up(s:uL):uI:=s.map λ(x:Nat)=>(x:Int)
theorem Ml:∀{s u:uL},up s=up u->s=u
 | [],[],_=>rfl
 | [],_::_,h=>by cases h
 | _::_,[],h=>by cases h
 | x::s,y::u,h=>by
  have h':(x:Int)::up s=(y:Int)::up u:=h;injection h' with h1 h2
  rw[Ml h2,My h1]
theorem ABG{rows ae:List Row}(I:Kept2 n 0 rows rc ae pl)(c:Closed rows rc):ae.length<=rows.length:=by
 have ex:∀i,i<ae.length->∃k,k∈rc/\pl k=uA (i+2):=λi hi=>by
  obtain⟨k,hk,_,e⟩:=I.sur i _ (AI hi);exact⟨k,hk,e⟩
 let g:Nat->Nat:=λi=>if h:i<ae.length then Fm (ex i h) else 0
 have hg:∀i,i<ae.length->g i∈rc/\pl (g i)=uA (i+2):=λi hi=>by
  have z:=F7 (ex i hi);show(if h:i<ae.length then Fm (ex i h) else 0)∈rc/\pl (if h:i<ae.length then Fm (ex i h) else 0)=uA (i+2);rw[dif_pos hi];exact z
 have nd:((AW ae.length).map g).Nodup:=by
  unfold LP;rw[CY];refine EO (λ{a b} ha hb h e=>?_) (HM (n:=ae.length));have h1:=(hg a (A8.mp ha)).2;have h2:=(hg b (A8.mp hb)).2;rw[e,h2] at h1;injection h1 with h1
  lia
 have z:=ST.CJ nd (l₂:=(AW rows.length).map (·+2)) λx hx=>by
  obtain⟨i,hi,rfl⟩:=A1.mp hx;have hk:=(hg i (A8.mp hi)).1;have a:=c.two _ hk;have b:g i<rows.length+2:=c.knot _ hk;exact A1.mpr ⟨g i-2,A8.mpr (by lia),by lia⟩
 rw[AB,AB,CB,CB] at z;exact z
section
variable{t:Nat}{A rows ae:List Row}
theorem Sim.inj(L:Least n A):∀(f k k':Nat),k<f->Sim A A k k'->k=k':=by
 intro f
 induction f with
 | zero=>intro k k' h;lia
 | succ f ih =>
  intro k k' hk S;rcases DJ k 2 with c| c
  .exact S.small L L (vY c)
  .obtain⟨c',et,so,si⟩:=S.child L L c
   have ra:=Bf S.ka c;have rb:=Bf S.kb c';obtain⟨_,a1,a2,_⟩:=L.ok.low ra;have e1:=ih _ _ (by show(A.getD (k-2) (0,0,0)).2.1<f;exact xi a1 hk c) so;have e2:=ih _ _ (by show(A.getD (k-2) (0,0,0)).2.2<f;exact xi a2 hk c) si;have er:=RF et (RF e1 e2);rw[er] at ra;have:=L.one _ _ _ ra rb;lia
theorem YF(L:Least n A){a b:Nat}(ka:Knot A a)(kb:Knot A b)(h:∀s,led A a s=led A b s):a=b:=Sim.inj L (a+1) a b (DI _) ⟨ka,kb,h⟩
theorem Zd{P:Nat->Prop}{top:Nat}(pt:P top)(ps:∀k,P k->2<=k->Knot rows k->P (outOf rows k)/\P (intoOf rows k))(c:Closed rows rc)(par:∀k∈rc,k=top\/∃k'∈rc,k<k'/\(outOf rows k'=k\/intoOf rows k'=k)):∀(d k:Nat),rows.length+2-k<=d->k∈rc->P k:=by
 intro d
 induction d with
 | zero=>intro k h hk;have:k<rows.length+2:=c.knot k hk;lia
 | succ d ih =>
  intro k h hk;rcases par k hk with rfl| ⟨k',a6,lt,e⟩
  .exact pt
  .have:k<rows.length+2:=c.knot k hk
   have z:=ps k' (ih k' (yY h lt) a6) (c.two k' a6) (c.knot k' a6);rcases e with rfl| rfl
   .exact z.1
   .exact z.2
def lowH(t:Nat):uL->Bool
 | []=>false
 | x::_=>decide (x<=t)
end
section
variable{A rows more:List Row}{k:Nat}
theorem ADq(rows:List Row)(r:Row):(rows++[r]).getD (rows.length+2-2) (0,0,0)=r:=by
 rw[EU,AD,CF vH,IZ];rfl
theorem ABb(rows:List Row)(r:Row):Knot (rows++[r]) (rows.length+2):=by
 unfold Knot;rw[AZ,Eg];lia
theorem AAP{t:Nat}(ks:uL)(hk:∀k∈ks,2<=k/\Knot A k/\tieOf A k=t)(nd:ks.Nodup):ks.length<=(A.filter λr=>decide (r.1=t)).length:=by
 have pV:∀i∈(ks.map (· - 2)),i<A.length/\(A.getD i (0,0,0)).1=t:=λi hi=>by
  obtain⟨k,a6,rfl⟩:=A1.mp hi;obtain⟨k2,kn,ht⟩:=hk k a6;exact⟨by unfold Knot at kn;exact wb kn k2,ht⟩
 have nd2:(ks.map (· - 2)).Nodup:=by
  unfold LP;rw[CY];refine EO (λ{a b} ha hb h e=>h ?_) nd;have:=(hk a ha).1;have:=(hk b hb).1;lia
 have z:=ST.CJ nd2 (l₂:=(AW A.length).filter λi=>decide ((A.getD i (0,0,0)).1=t)) λi hi=>by
  obtain⟨h1,h2⟩:=pV i hi;exact BQ.mpr ⟨A8.mpr h1,uE h2⟩
 rw[AB] at z;refine BY z (OS ?_);have e:A=(AW A.length).map λi=>A.getD i (0,0,0):=by
  apply FG;intro i;rw[AS];by_cases c:i<A.length
  .rw[E7 c,AI c]
   simp[AD,c]
  .rw[Ev (uR c),Ev (by rw[CB];exact uR c)]
   rfl
 conv=>rhs;rw[e,J6,AB]
 rfl
end
noncomputable def addRow(S:List (List uL))(r:Row):List (List uL):=S++[S.getD r.2.1 []++(S.getD r.2.2 []).map (r.1::·)]
noncomputable def setsUp(rows:List Row):List (List uL):=rows.foldl addRow [[],[[]]]
def setsOf(rows:List Row)(k:Nat):List uL:=(setsUp rows).getD k []
theorem Gi(rows:List Row)(r:Row):setsUp (rows++[r])=addRow (setsUp rows) r:=by unfold setsUp;rw[List.foldl_append];rfl
theorem Dq:∀(rows:List Row),(setsUp rows).length=rows.length+2:=by
 intro rows
 suffices h:∀(l:List Row) (S:List (List uL)),(l.foldl addRow S).length=S.length+l.length by
  unfold setsUp;rw[h];show 2+_=_;exact x6
 intro l
 induction l with
 | nil=>intro S;simp
 | cons a l ih =>
  intro S;rw[MV,ih];unfold addRow;rw[AZ];simp;exact vA
noncomputable def num(n:Nat):uL->Nat
 | []=>0
 | x::xs=>2 ^ (n-1-x)+num n xs
theorem Vk{n:Nat}:∀{s:uL}{t:Nat},s.Pairwise (· < ·)->(∀x∈s,t<=x/\x<n)->num n s<2 ^ (n-t)
 | [],t,_,_=>Nat.two_pow_pos _
 | x::xs,t,h,hr=>by
  obtain⟨h1,h2⟩:=Dx.mp h;obtain⟨x1,x2⟩:=hr x AG;have ih:=Vk (t:=x+1) h2 λy hy=>⟨h1 y hy,(hr y (AK _ hy)).2⟩;have e:2 ^ (n-x)=2 ^ (n-1-x)+2 ^ (n-1-x):=by
   rw[show n-x=(n-1-x)+1 by lia,M3];exact wQ
  have le:2 ^ (n-x)<=2 ^ (n-t):=IL (by decide) (yh x1);have e2:n-(x+1)=n-1-x:=wJ;rw[e2] at ih;show 2 ^ (n-1-x)+num n xs<_;lia
section
variable{rows:List Row}
structure InOrder(n:Nat)(rows:List Row)(k:Nat)(L:List uL):Prop where
 mem:∀s,s∈L↔led rows k s=true
 ord:L.Pairwise λs u=>num n s<num n u
 way:∀s∈L,s.Pairwise (· < ·)/\∀x∈s,rank n rows k<=x/\x<n
theorem ACe{l m:List α}{k:Nat}{d:α}(h:k<l.length):(l++m).getD k d=l.getD k d:=by
 rw[AD,AD,By h]
theorem XH(o:Ok n rows)(r:Row){k:Nat}(kn:Knot rows k):setsOf (rows++[r]) k=setsOf rows k:=by
 unfold setsOf;rw[Gi];unfold addRow;exact ACe (by rw[Dq];exact kn)
theorem Wt(rows:List Row)(r:Row):setsOf (rows++[r]) (rows.length+2)=setsOf rows r.2.1++(setsOf rows r.2.2).map (r.1::·):=by
 unfold setsOf;rw[Gi];unfold addRow;rw[AD,CF (by rw[Dq];exact AF _),Dq,IZ];rfl
theorem InOrder.app(o:Ok n rows){r:Row}{k:Nat}(kn:Knot rows k)(I:InOrder n rows k L):InOrder n (rows++[r]) k L :=
 ⟨λs=>by rw[Dy o s kn];exact I.mem s,I.ord,λs hs=>by rw[Lx kn];exact I.way s hs⟩
theorem JD{r:Row}(o:Ok n (rows++[r])):Ok n rows:=λi q e=>by
 have il:=(AH.mp e).1;obtain⟨h1,h2,h3⟩:=o i q (by rw[By il];exact e);have low:∀l,Low (rows++[r]) q.1 (i+2) l->Low rows q.1 (i+2) l:=λl ⟨a,b⟩=>⟨a,b.imp id λ⟨u,e,z⟩=>⟨u,by rw[By (by lia)] at e;exact e,z⟩⟩;exact⟨h1,low _ h2,low _ h3⟩
theorem HN:∀(m:Nat) (rows:List Row),rows.length=m->Ok n rows->∀k,Knot rows k->InOrder n rows k (setsOf rows k):=by
 intro m
 induction m with
 | zero =>
  intro rows h o k kn;have e:=Cs.mp h;subst e;have:k=0\/k=1:=by unfold Knot at kn;simp at kn;exact wg kn
  rcases this with rfl| rfl
  .refine⟨λs=>?_,.nil,λs hs=>by cases hs⟩
   rw[DX];exact⟨λh=>(by cases h),λh=>(by cases h)⟩
  .refine⟨λs=>?_,JS _ _,λs hs=>?_⟩
   .rw[Ea,decide_eq_true_iff]
    exact BG
   .rw[BG.mp hs]
    exact⟨.nil,λx hx=>by cases hx⟩
 | succ m ih =>
  intro rows h o k kn;have ne:rows≠[]:=λe=>by rw[e] at h;cases h
  obtain⟨init,r,rfl⟩:∃init r,rows=init++[r]:=⟨rows.dropLast,rows.getLast ne,(List.dropLast_concat_getLast ne).symm⟩;have hl:init.length=m:=by simpa using h
  have oi:=JD o;have I:=ih init hl oi;by_cases c:k<init.length+2
  .rw[XH oi r c]
   exact(I k c).app oi c
  .have ek:k=init.length+2:=by unfold Knot at kn;simp at kn;lia
   subst ek;have hi:(init++[r])[init.length]?=uA r:=by simp
   obtain⟨t1,l1,l2,r1,r2,_,_⟩:=o.low hi;have kn1:=l1;have kn2:=l2;have I1:=(I _ kn1).app (r:=r) oi kn1;have I2:=(I _ kn2).app (r:=r) oi kn2;have eg:(init++[r]).getD (init.length+2-2) (0,0,0)=r:=by rw[EU,AD,hi];rfl
   have rk:rank n (init++[r]) (init.length+2)=r.1:=by unfold rank;rw[uC yj,eg]
   rw[Wt];refine⟨λs=>?_,?_,λs hs=>?_⟩
   .rw[Ct,A1]
    cases s with
    | nil =>
     rw[Eb o kn vg,eg,I1.mem];exact⟨λh=>h.elim id λ⟨u,_,e⟩=>(by cases e),.inl⟩
    | cons x xs =>
     rw[Bp o kn vg,eg,I1.mem];by_cases c1:x<r.1
     .rw[uD c1]
      refine⟨λh=>?_,λh=>by cases h⟩;rcases h with h| ⟨u,_,e⟩
      .rw[off o (Gq kn1) (uT c1 r1)] at h;exact h
      .injection e with e _;lia
     .rw[uC c1]
      by_cases c2:x=r.1
      .rw[uD c2]
       subst c2;refine⟨λh=>?_,λh=>.inr ⟨xs,(I2.mem xs).mpr h,rfl⟩⟩;rcases h with h| ⟨u,hu,e⟩
       .rw[off o (Gq kn1) r1] at h;cases h
       .injection e with _ e
        rw[<- e];exact(I2.mem u).mp hu
      .rw[uC c2]
       refine⟨λh=>h.elim id λ⟨u,_,e⟩=>(by injection e with e _;lia),.inl⟩
   .refine C8.mpr ⟨I1.ord,?_,λs hs u hu=>?_⟩
    .rw[CY]
     exact I2.ord.imp λ{a b} h=>by show 2 ^ _+_<2 ^ _+_;exact yk h
    .obtain⟨v,hv,rfl⟩:=A1.mp hu
     obtain⟨w1,w2⟩:=I1.way s hs;have:=Vk (n:=n) (t:=r.1+1) w1 λx hx=>⟨by have:=(w2 x hx).1;lia,(w2 x hx).2⟩;rw[show n-(r.1+1)=n-1-r.1 from wJ] at this;show _<2 ^ (n-1-r.1)+_;exact vb this
   .rw[rk]
    rcases Ct.mp hs with hs| hs
    .obtain⟨w1,w2⟩:=I1.way s hs
     exact⟨w1,λx hx=>⟨by have:=(w2 x hx).1;exact wW r1 this,(w2 x hx).2⟩⟩
    .obtain⟨v,hv,rfl⟩:=A1.mp hs
     obtain⟨w1,w2⟩:=I2.way v hv;refine⟨.cons (λx hx=>by have:=(w2 x hx).1;exact va r2 this) w1,λx hx=>?_⟩;rcases BH.mp hx with rfl| hx
     .exact⟨AF _,t1⟩
     .exact⟨by have:=(w2 x hx).1;exact wW r2 this,(w2 x hx).2⟩
noncomputable def hasW(rows:List Row):Nat->Nat->uI->Bool
 | 0,_,_=>false
 | f+1,k,s=>if k<=1 then decide (k=1/\s=[]) else
  match s with
  | []=>hasW rows f (rows.getD (k-2) (0,0,0)).2.1 []
  | x::xs=>if x=((rows.getD (k-2) (0,0,0)).1:Int) then hasW rows f (rows.getD (k-2) (0,0,0)).2.2 xs else hasW rows f (rows.getD (k-2) (0,0,0)).2.1 (x::xs)
theorem MF(o:Ok n rows):∀(f k:Nat) (s:uI),k<f->Knot rows k->(hasW rows f k s=true↔∃u:uL,s=up u/\led rows k u=true):=by
 intro f
 induction f with
 | zero=>intro k s h;lia
 | succ f ih =>
  intro k s hk kn;unfold hasW;by_cases c:k<=1
  .rw[uD c,decide_eq_true_iff]
   constructor
   .rintro⟨rfl,rfl⟩
    exact⟨[],rfl,by rw[Ea];rfl⟩
   .rintro⟨u,rfl,h⟩
    have:k=0\/k=1:=wf c;rcases this with rfl| rfl
    .rw[DX] at h;cases h
    .rw[Ea,decide_eq_true_iff] at h
     subst h;exact⟨rfl,rfl⟩
  .rw[uC c]
   obtain⟨h1,h2,h3,r1,r2,k1,k2⟩:=o.low (Bf kn (vn c));have rF:=λs=>ih _ s (show(rows.getD (k-2) (0,0,0)).2.1<f from wk h2 hk c) k1;have sR:=λs=>ih _ s (show(rows.getD (k-2) (0,0,0)).2.2<f from wk h3 hk c) k2;cases s with
   | nil =>
    rw[rF];constructor
    .rintro⟨u,e,h⟩
     have:u=[]:=Ml e.symm;subst this;exact⟨[],rfl,by rw[Eb o kn (vn c)];exact h⟩
    .rintro⟨u,e,h⟩
     have:u=[]:=Ml e.symm;subst this;rw[Eb o kn (vn c)] at h;exact⟨[],rfl,h⟩
   | cons x xs =>
    by_cases e:x=((rows.getD (k-2) (0,0,0)).1:Int)
    .show(if x=_ then _ else _)=true↔_
     rw[uD e,sR];constructor
     .rintro⟨u,rfl,h⟩
      refine⟨(rows.getD (k-2) (0,0,0)).1::u,by rw[e];rfl,?_⟩;rw[Bp o kn (vn c),uC vT,uD rfl];exact h
     .rintro⟨u,eu,h⟩
      cases u with
      | nil=>cases eu
      | cons y ys =>
       have tF:x::xs=(y:Int)::up ys:=eu;injection tF with e1 e2
       have ey:y=(rows.getD (k-2) (0,0,0)).1:=by lia
       rw[Bp o kn (vn c),uC (by lia),uD ey] at h;exact⟨ys,e2,h⟩
    .show(if x=_ then _ else _)=true↔_
     rw[uC e,rF];constructor
     .rintro⟨u,eu,h⟩
      refine⟨u,eu,?_⟩;cases u with
      | nil=>cases eu
      | cons y ys =>
       have tF:x::xs=(y:Int)::up ys:=eu;injection tF with e1 e2
       have ne:y≠(rows.getD (k-2) (0,0,0)).1:=λz=>e (ym e1 z);have ge:¬ y<(rows.getD (k-2) (0,0,0)).1:=λz=>by
        rw[off o k1 (uT z r1)] at h;cases h
       rw[Bp o kn (vn c),uC ge,uC ne];exact h
     .rintro⟨u,eu,h⟩
      refine⟨u,eu,?_⟩;cases u with
      | nil=>cases eu
      | cons y ys =>
       have tF:x::xs=(y:Int)::up ys:=eu;injection tF with e1 e2
       have ne:y≠(rows.getD (k-2) (0,0,0)).1:=λz=>e (ym e1 z);rw[Bp o kn (vn c)] at h;by_cases c2:y<(rows.getD (k-2) (0,0,0)).1
       .rw[uD c2] at h;cases h
       .rw[uC c2,uC ne] at h;exact h
end
abbrev Sta:=uI
section
variable{t k:Nat}{rows more:List Row}{f:uL->Bool}
structure Lead(rows:List Row)(t k:Nat)(f:uL->Bool):Prop where
 kn:Knot rows k
 up:k<=1\/t<=tieOf rows k
 eq:∀s,led rows k s=f s
theorem Lead.app(o:Ok n rows)(h:Lead rows t k f):Lead (rows++more) t k f:=by
 refine⟨Gq h.kn,?_,λs=>by rw[Dy o s h.kn,h.eq]⟩;rcases DJ 1 k with c| c
 .rw[AEZ h.kn c];exact h.up
 .exact .inl c
theorem OJ(h:∀s,f s=false):Lead rows t 0 f:=⟨by unfold Knot;exact wG,.inl v8,λs=>by rw[DX,h]⟩
theorem ACu(h:∀s,f s=decide (s=[])):Lead rows t 1 f:=⟨by unfold Knot;exact wL,.inl vH,λs=>by rw[Ea,h]⟩
def Cnt(t:Nat)(more:List Row):Prop:=∀j,(more.filter λr=>decide (r.1=j)).length<=if j<t then 0 else 2 ^ (j-t)
theorem cnt_nil:Cnt t []:=λj=>AY _
theorem ADQ{m1 m2:List Row}(h1:Cnt (t+1) m1)(h2:Cnt (t+1) m2):Cnt t (m1++m2++[(t,kl,kr)]):=λj=>by
 have a:=h1 j;have b:=h2 j;rw[CL,CL,AZ,AZ];rcases OC j t with c| c| c
 .rw[uD (by lia)] at a b
  rw[uD c,C3 (by simp;lia)];show _+_+0<=0;lia
 .subst c
  rw[uD (by lia)] at a b;rw[uC vT,IZ,De (by simp)];show _+_+1<=1;lia
 .rw[uC (by lia)] at a b
  rw[uC (by lia),C3 (by simp;lia)];have e:2 ^ (j-t)=2 ^ (j-(t+1))+2 ^ (j-(t+1)):=by
   rw[show j-t=(j-(t+1))+1 by lia,M3];exact wQ
  show _+_+0<=_;lia
end
abbrev StO:=List (Option Int)
section
variable (lef tak pas:Nat->StO->Option StO)(ful:StO->Bool)
noncomputable def stepO(t:Nat)(g:Option StO->uL->Bool)(st:StO):uL->Bool
 | []=>g (lef t st) []
 | x::xs=>if x<t then false else if x=t then g (tak t st) xs else g (lef t st) (x::xs)
noncomputable def semO:Nat->Nat->Option StO->uL->Bool
 | _,_,uB,_=>false
 | 0,t,uA r,s=>match pas t r with
  | none=>false
  | some st=>ful st&&decide (s=[])
 | d+1,t,uA r,s=>match pas t r with
  | none=>false
  | some st=>stepO lef tak t (semO d (t+1)) st s
end
theorem Zx{t:Nat}{rows:List Row}{lef tak:Nat->StO->Option StO}{g:Option StO->uL->Bool}{st:StO}(o:Ok n rows)(tn:t<n)(hl:Lead rows (t+1) kl (g (lef t st)))(hr:Lead rows (t+1) kr (g (tak t st))) :
  Ok n (rows++[(t,kl,kr)])/\Lead (rows++[(t,kl,kr)]) t (rows.length+2) (stepO lef tak t g st):=by
 have o2:Ok n (rows++[(t,kl,kr)]):=AGA o tn (Ul hl.kn hl.up) (Ul hr.kn hr.up);have e:=ADq rows (t,kl,kr);have kn:=ABb rows (t,kl,kr);refine⟨o2,kn,.inr ?_,λs=>?_⟩
 .unfold tieOf
  rw[e];exact AF _
 .cases s with
  | nil =>
   rw[Eb o2 kn vg,e,Dy o _ hl.kn,hl.eq];rfl
  | cons x xs =>
   rw[Bp o2 kn vg,e,Dy o _ hl.kn,Dy o _ hr.kn,hl.eq,hr.eq];rfl
noncomputable def tiedS(st:StO)(a b:Nat):StO:=match st.getD a uB,st.getD b uB with
 | some i,uA j=>(((st.set a uB).set b uB).set i.toNat (uA j)).set j.toNat (uA i)
 | _,_=>st
structure VldS(z:Nat)(st:StO):Prop where
 len:st=[]\/st.length=z
 pts:∀p i,st.getD p uB=uA i->0<=i/\i<z
theorem Dt(l:StO)(p q:Nat)(v:Option Int)(h:q≠p):(l.set p v).getD q uB=l.getD q uB:=by
 rw[AD,AD,K2 (Cb h)]
theorem Du(l:StO)(p:Nat)(v:Option Int):(l.set p v).getD p uB=if p<l.length then v else uB:=by
 rw[AD];by_cases c:p<l.length
 .rw[J9 c,uD c]
  rfl
 .rw[Ev (by rw[ET];exact uR c),uC c]
  rfl
theorem VldS.set{st:StO}(h:VldS z st)(p:Nat)(v:Option Int)(hv:∀i,v=uA i->0<=i/\i<z):VldS z (st.set p v):=by
 refine⟨?_,λq i e=>?_⟩
 .rcases h.len with e| e
  .left;rw[e];rfl
  .right;rw[ET];exact e
 .by_cases c:q=p
  .subst c
   rw[Du] at e;split at e
   .exact hv i e
   .cases e
  .rw[Dt _ _ _ _ c] at e
   exact h.pts q i e
set_option tactic.hygienic true in
theorem VldS.tied{st:StO}{a b:Nat}(h:VldS z st):VldS z (tiedS st a b):=by
 unfold tiedS;split
 .rename_i i j ei ej
  exact((((h.set a uB (λ_ z=>by cases z)).set b uB (λ_ z=>by cases z)).set _ _ (λk e=>by cases e;exact h.pts b _ ej)).set _ _ (λk e=>by cases e;exact h.pts a _ ei))
 .exact h
end G
variable{rows:List G.Row}
namespace K32
open PySem L2 G
def onB(bs:uJ)(p x:Nat):Bool:=decide ((p:Int)∈bs.getD x [])
theorem AAn(hK:X.K=K)(hc:X.calm=true):CallR X (.builtin "max") (λxs H Q=>∃(p:Addr) (ns:uI),xs=[.ref p]/\SqL K H p (ns.map V.int)/\0<ns.length/\∀m,m∈ns->(∀a∈ns,a<=m)->Q (.int m) H):=by subst hK;exact max_list hc
theorem ACn(hK:X.K=K):OpR X (G1 .Add) (rAddL K):=by subst hK;exact Ys
def Lp(bs:uJ)(p:Nat):Nat:=match (hits (p:Int) bs).getLast? with
 | none=>0
 | some x=>(x+1).toNat
theorem AFb{bs:uJ}{p:Nat}{x:Int}(h:x∈hits (p:Int) bs):0<=x/\x<bs.length:=by
 obtain⟨i,t,e,_,rfl⟩:=L2.Fw.mp h;have:=(AH.mp e).1;lia
theorem AGv{bs:uJ}{p:Nat}{m:Int}(h1:m∈(-1:Int)::hits (p:Int) bs)(h2:∀a∈(-1:Int)::hits (p:Int) bs,a<=m):m=(Lp bs p:Int)-1:=by
 unfold Lp;cases e:(hits (p:Int) bs).getLast? with
 | none =>
  have e':=OI.mp e;rw[e'] at h1;have:m=-1:=by simpa using h1
  rw[this];rfl
 | some x =>
  obtain⟨ne,ex⟩:=OK.mp e|> λ⟨ys,h⟩=>(⟨by rw[h];simp,by simp[h]⟩:∃ne:hits (p:Int) bs≠[],(hits (p:Int) bs).getLast ne=x)
  have xm:x∈hits (p:Int) bs:=by rw[<- ex];exact List.getLast_mem ne
  have x0:=(AFb xm).1;have:=h2 x (AK _ xm);have mx:m=x:=by
   rcases BH.mp h1 with rfl| h1
   ·lia
   .have:=QV ne (Hg _ 0 bs) m h1
    lia
  dsimp only;lia
theorem AFr{bs:uJ}{p x:Nat}(xl:x<bs.length)(h:onB bs p x=true):x<Lp bs p:=by
 have hm:=uG h;rw[AD,AI xl] at hm;have xm:(x:Int)∈hits (p:Int) bs:=L2.Fw.mpr ⟨x,_,AI xl,hm,yO⟩;unfold Lp;cases e:(hits (p:Int) bs).getLast? with
 | none=>rw[OI.mp e] at xm;cases xm
 | some y =>
  obtain⟨ne,ey⟩:=OK.mp e|> λ⟨ys,h⟩=>(⟨by rw[h];simp,by simp[h]⟩:∃ne:hits (p:Int) bs≠[],(hits (p:Int) bs).getLast ne=y)
  have:=QV ne (Hg _ 0 bs) x xm;dsimp only;lia
noncomputable def nI(ks:uL):List V:=ks.map λ(k:Nat)=>V.int (k:Int)
theorem Cy(ks:uL):(nI ks).length=ks.length:=by unfold nI;rw[AB]
theorem Rb{ks:uL}{x:V}(h:(nI ks)[j]?=uA x):∃k:Nat,ks[j]?=uA k/\x=.int (k:Int):=by
 unfold nI at h;rw[AS] at h;cases g:ks[j]? with
 | none=>rw[g] at h;cases h
 | some k=>rw[g] at h;cases h;exact⟨k,rfl,rfl⟩
noncomputable def behP(bs:uJ)(z t:Nat):uL:=(AW z).filter λp=>decide (Lp bs p=t)
def ACs(K:Ap)(C:Addr):Sp:=λvs H Q _=>∃(p:Addr) (t z:Nat) (bs:uJ),vs=[.ref p,.int t]/\WebAt K C H p z bs/\z<=10/\bs.length<=12/\∀(l:Addr) (H':Hp),Same H H'->H l=none->H' l=uA (.lst (nI (behP bs z t)))->Q (.ref l) H'
theorem AHE:FnScope zl5 zl5 (Ah Ke):=fscp (by decide+kernel)
theorem ADo(F:Fun K "points_behind" "points_behind" Ke f fd)(T:Txt K mg C)(GS:FnOk P w K mg base CX0 1 fS cK zl3 (Ii K C))(bS:Binds K cK zl3 [])(mS:Meth K C "size" fS)
  (GA:FnOk P w K mg base CX0 1 fA dS zl4 (AGI K C)) (bA:Binds K dS zl4 []) (mA:Meth K C "at" fA):FnOk P w K mg base CX0 2 f fd zl5 (ACs K C):=by
 refine F.ok AHE (λvs H Q E h=>?_) (λa7 A outer s H vs Q E hr h=>?_)
 .obtain⟨p,t,z,bs,rfl,_⟩:=h
  rfl
 obtain⟨p,t,z,bs,rfl,hW,z10,oT,q⟩:=h;obtain⟨dx,j,hp,_⟩:=id hW;refine⟨_,Ai (Ao (Bq (Ah Ke) ["point"] ["number","web"] [1,0] rfl rfl (by decide+kernel) ⟨⟨rfl,by decide+kernel⟩,⟨rfl,by decide+kernel⟩,trivial⟩ (Cv rfl T.range (Aa (CW (pv 0) T.cl mS GS hr bS .nil pass0) Ac))
   (λ_ _ _=>BK (i:=0))
   (λ_ _ _=>CK (Am DR (Ax (AAn (K:=K) rfl rfl) rfl T.max Y6 (Aa (Az (ACn (K:=K) rfl) (Bm (Aa (YL RX Ag) Ac)) (CN (pv 2) T.cl mA GA hr bA .nil pass0 (Aa (pv 0) Ac))) Ac)) (Az Fd (pv 1) Ag)))
   (λ_ _ _=>pv 0))),?_⟩
 refine⟨_,rfl,p,dx,_,rfl,hp,rfl,p,z,bs,rfl,hW,_,rfl,by lia,by lia,λZ hZ=>?_⟩;refine Ci (lo:=0) (n:=(z:Int).toNat) (λj τ H2=>∃o:Option V,τ=[o,uA (.int t),uA (.ref p)]/\Same H H2/\H2 Z=uA (.lst (nI ((AW j).filter λp=>decide (Lp bs p=t))))) ⟨uB,rfl,u8 hZ _,Ab⟩ ?_ ?_
 .rintro j τ H2 hj ⟨o,rfl,s2,eZ⟩
  have ej:(0:Int)+j=(j:Int):=vp;rw[ej];refine⟨1,rfl,(by decide),λM hM=>?_⟩;have s3:=s2.trans (u8 hM (.lst [.int (-1)]));refine⟨_,rfl,p,dx,_,rfl,s3 _ _ hp,rfl,_,rfl,p,z,j,bs,rfl,hW.same s3,oT,λl H4 s4 hl el=>?_⟩;have aw:(hits (j:Int) bs).length<=bs.length:=JC _ 0 bs;have eM4:=s4 _ _ Ab;refine⟨M,l,_,_,rfl,rfl,uy eM4,uy el,DB (Ay (by rw[AB];show 1+_<=1000;lia)),λN hN=>?_⟩;have s5:=u8 hN (.lst (V.int (-1)::(hits (j:Int) bs).map V.int));refine⟨N,(-1:Int)::hits (j:Int) bs,rfl,uy Ab,by simp,λm hm hx=>?_⟩;have e:=AGv hm hx;have s6:=(s3.trans s4).trans s5;have rD:=s5 _ _ (s4 _ _ (u8 hM _ _ _ eZ));refine⟨_,rfl,_,_,rfl,rfl,rfl,_,rfl,?_⟩;have lz:((AW j).filter λp=>decide (Lp bs p=t)).length<=j:=BY (Do ..) (by rw[CB];exact AF _);refine ite2 (λc=>?_) (λc=>?_)
  .have c':Lp bs j=t:=by
    have:=uG c;injection this with this
    lia
   refine⟨_,rfl,_,rD,Ay (by rw[Cy];lia),_,rfl,λb o e=>?_,?_⟩
   .rw[Af (Ae e hZ)]
    exact s6 b o e
   .rw[Ab,FM,CL,De (by simpa using c')]
    unfold nI;rw[BM];rfl
  .have c':¬ Lp bs j=t:=λz=>c (uE (by rw[e,z]))
   refine⟨_,rfl,s6,?_⟩;rw[FM,CL,C3 (by simpa using c'),Pw,Co];exact rD
 .rintro τ H2 ⟨o,rfl,s2,eZ⟩
  rw[Cc] at eZ;exact q Z H2 s2 hZ eZ
end K32
namespace L2
open PySem PySem.Spec PyProof.Rows
section
variable{es:Array NV}
theorem Nj(d:Addr)(hd:(d==EC)=false) :
  MeetsIn prog w (Builtin.«dict.__len__» ⟨[.ref d],[]⟩) (λ_ R s=>∃o es ep,s.heap.get? d=uA o/\o.data=.dict es ep/\R (.ok (.ret (.int es.size s.toks))) {s with toks:=s.toks+1}) :=
 .of_wp λA R s ⟨o,es,ep,ho,gc,h⟩=>by
  show wpAny _ _ (dictSize d >>= _) _ _ s;unfold dictSize;refine Au (Au (L6 ho gc (AC ?_)));refine Au (wpAny_pendingCount_other hd ?_);refine U7 ?_;rw[M4];exact h
theorem AEe(hd:(d==EC)=false)(hT:s.TypeIs (.ref d) "dict")(ho:s.heap.get? d=uA o)(gc:o.data=.dict es ep)(tR:(es.size:Int)<2 ^ 63)
  (h:Q (.int es.size (s.toks+1)) {s with toks:=s.toks+1+1}):wpAny (AM prog w) A (call (.builtin "len") [.ref d]) Q E s:=by
 refine Lm kind_len plain_len entry_len (args_len1 _) ?_;unfold Builtin.«len»;refine Au (m:=oneArg "len" _) (AC ?_);refine Au (m:=callSpecial? (.ref d) (KG "__len__")) (wpAny_callSpecial?_slot (name:=KG "__len__") hT QQ
  (SU QQ hT PySem.F.entry_dict_len (PySem.F.args_dict_len_1 _) (Nj d hd) ⟨o,es,ep,ho,gc,?_⟩))
 refine Au (EA (AC ?_));refine Au (wpAny_letGo ?_);rw[uC wD];rw[uC (by lia)];exact Au (wpAny_mkInt (AC ⟨_,rfl,h⟩))
end
theorem Ua:CallR X (.builtin "len") (λxs H Q=>∃p af,xs=[.ref p]/\H p=uA (.dT af)/\Q (.int af.length) H):=by
 intro aa s σ H xs us Q I rr h;obtain⟨p,af,rfl,hp,q⟩:=h;obtain⟨u,rfl,ru⟩:=rr.one;cases ru;obtain⟨z,lo,ts,kt,o,es,ep,h1,h2,h3,h4,h5⟩:=(I.hok p _ hp);have hl:es.size=af.length:=by
  rw[<- A9,h4,AB];exact(AV kt).symm
 refine AEe lo ⟨o,h1,h2.1⟩ h1 h3 (by rw[hl];rw[Go] at z;lia) ?_;exact⟨.int af.length,H,I.tok _,⟨_,by rw[hl]⟩,q⟩
def Itd(lo:Int)(n:Nat):It:=⟨λi _=>i<n,λi H x H'=>H'=H/\x=.int (lo-i),λi _=>n<=i⟩
theorem Zt(it:Addr)(lo:Int)(n:Nat):Turn P w K tg (Itd lo n) [it] it (λi h=>IsRangeIter h it (lo+(i:Nat)*(-1)) ((n:Int)-(i:Nat)) (-1)) where
 mem:=by simp
 obj:=λi h st b hb=>by
  have e:b=it:=by simpa using hb
  subst e;exact⟨_,st,λv z=>by
   have z':=z;cases z'⟩
 keep:=λi h h' st k=>k it (by simp) _ st
 item:=by
  intro X hP hw hK hc i aa s σ H E I hf st hg;subst hP hw hK;obtain⟨f0,f1,f2,f3,f4,f5⟩:=hf it (by simp);have W:=YY (prog:=X.prog) (w:=X.w) (I.ok.hd hc) it lo (-1) n;refine W.item i s _ _ hg st λv h' tk hv ah kk=>?_;obtain⟨t,rfl⟩:=hv;have I1:Inv X aa σ H {s with heap:=h',toks:=tk}:=I.turned (λb o hb e=>kk b o (by simpa using hb) e) f0 f1 f3 f4 f5;refine⟨_,rfl,Xm (s:={s with heap:=h',toks:=tk}) (n:="range_iterator") ah rfl rfl (by decide) ⟨.int (lo-i),H,I1,⟨t,?_⟩,⟨rfl,rfl⟩,ah,λb hb=>(hf b hb).1⟩⟩
  congr 1
  lia
 done:=by
  intro X hP hw hK hc i aa s σ H E I hf st hg;subst hP hw hK;obtain⟨f0,f1,f2,f3,f4,f5⟩:=hf it (by simp);exact PM (I.ok.hd hc) st (by have:n<=i:=hg;exact yp this) λh' eb=>⟨rfl,I.turned (t':=s.toks) (λb o hb e=>eb b o hb e) f0 f1 f3 f4 f5⟩
 self:=λ_ _ _ _ _ st h=>PQ st h
theorem rangeSize_down(a b:Int):FD a b (-1)=if b<a then a-b else 0:=by
 unfold FD;simp only[show ¬ ((-1:Int)>0) by decide,if_false];split
 .rw[show(- -1:Int)=1 from rfl,Int.ediv_one];lia
 .rfl
theorem small_down{a b:Int}(ha:-(2 ^ 62)<=a)(ha':a<2 ^ 62)(hb:-(2 ^ 62)<=b)(n5:b<2 ^ 62):Ll a b (-1)=true:=by
 unfold Ll;rw[rangeSize_down];simp only[WB,F0,Bool.or_eq_true,decide_eq_true_eq,beq_iff_eq,show ¬ ((-1:Int)>0) by decide,if_false];split<;>lia
theorem AAV{R:It->Hp->Prop}{lo hi:Int}{t u v:Tok}(I:Inv X aa σ H s)(h1:-(2 ^ 62)<=lo)(h2:lo<2 ^ 62)(h3:-(2 ^ 62)<=hi)(h4:hi<2 ^ 62)
  (q:R (Itd lo (lo-hi).toNat) H):wpAny (AM X.prog X.w) X.A (Qr (.ref s.heap.objs.size)) (PIE X aa σ tg R) E {s with heap:=s.heap.push {cls:=.type "range",data:=.fields #[.int lo t,.int hi u,.int (-1) v]},toks:=tk}:=by
 refine SD (Y0 ..) (small_down h1 h2 h3 h4) ?_;have I1:Inv X aa σ H {s with heap:=s.heap.push {cls:=.type "range",data:=.fields #[.int lo t,.int hi u,.int (-1) v]},toks:=tk}:=I.kept λb o e=>AJ _ e;refine⟨(s.heap.push {cls:=.type "range",data:=.fields #[.int lo t,.int hi u,.int (-1) v]}).objs.size,[(s.heap.push {cls:=.type "range",data:=.fields #[.int lo t,.int hi u,.int (-1) v]}).objs.size],_,_,H,rfl,
  I1.kept (t':=tk) λb o e=>AJ _ e,Zt _ lo (lo-hi).toNat,?_,λb hb=>?_,q⟩
 .have e1:lo+((0:Nat):Int)*(-1)=lo:=by simp
  have e2:(((lo-hi).toNat:Nat):Int)-((0:Nat):Int)=FD lo hi (-1):=by rw[rangeSize_down];split<;>lia
  rw[e1,e2];exact AU _ rfl
 .have e:b=(s.heap.push {cls:=.type "range",data:=.fields #[.int lo t,.int hi u,.int (-1) v]}).objs.size:=by simpa using hb
  subst e;exact I1.fpOk (AF _) (I1.hok.fresh (AF _))
def AHS(ta:TA):TI:=λσ H R=>ta σ H λvs H1=>∃i j:Int,vs=[.int i,.int j,.int (-1)]/\(-(2 ^ 62)<=i/\i<2 ^ 62/\-(2 ^ 62)<=j/\j<2 ^ 62)/\R (Itd i (i-j).toNat) H1
theorem Pk{a b:Expr}{ta:TA}{p:Pos}(hg:Gl X "range")(hm:X.mg "range" = uB)(ha:PA X [a,b,c] ta)(hs:autoParam (CI [a,b,c] X.env=[(false,eval a X.env),(false,eval b X.env),(false,eval c X.env)]) zA0._auto_1)(mw:autoParam (CI [b,c] X.env=[(false,eval b X.env),(false,eval c X.env)]) zA0._auto_1) :
  PI X tg (.Call (.Name "range" p) [a,b,c] [] pos) (AHS ta):=by
 intro aa s σ H R I h;refine W1 (Fb I hg hm Pl (Ee (thn (ha pos aa s σ H _ I h) λus s1 hq=>?_) (by rw[hs,mw]) (by rw[mw];rfl)));obtain⟨vs,H1,I1,r1,q1⟩:=hq;obtain⟨i,j,e,⟨q1,q2,q3,q4⟩,q⟩:=q1;subst e;cases r1 with
 | cons r rr =>
  cases rr with
  | cons r' rr =>
   cases rr with
   | cons r'' rr =>
    cases rr;obtain⟨t,rfl⟩:=r;obtain⟨t',rfl⟩:=r';obtain⟨t'',rfl⟩:=r'';exact call_range_3 (by decide) (AAV I1 q1 q2 q3 q4 q) (.inl (PU (by decide)))
theorem SJ{lo:Int}{g:TG}{D:Ends}(Pv:Nat->St->Hp->Prop)(h0:Pv 0 σ H)
  (hs:∀i σ H,i<n->Pv i σ H->g (.int (lo-i)) σ H λσ2 H2=>tb {D with nx:=Pv (i+1),ct:=Pv (i+1),bk:=D.nx} σ2 H2) (hd:∀σ H,Pv n σ H->D.nx σ H) :
  ∃W:Nat->Nat->St->Hp->Prop,(∃m,W 0 m σ H)/\∀i m σ H,W i m σ H ->
   ((Itd lo n).stop i H/\D.nx σ H)\/((Itd lo n).go i H/\∃N:St->Hp->Prop,(∀σ' H',N σ' H'->∃m',m'<m/\W (i+1) m' σ' H')/\∀x H',(Itd lo n).yld i H x H'->g x σ H' λσ2 H2=>tb {D with nx:=N,ct:=N,bk:=D.nx} σ2 H2):=by
 refine⟨λi m σ H=>m=n-i/\i<=n/\Pv i σ H,⟨n,by simp,AY _,h0⟩,?_⟩;rintro i m σ H ⟨rfl,hi,p⟩;by_cases bj:i<n
 .refine .inr ⟨bj,Pv (i+1),λσ' H' p'=>⟨n-(i+1),vU bj,rfl,bj,p'⟩,λx H' y=>?_⟩
  obtain⟨e,y⟩:=y;subst e y;exact hs i σ _ bj p
 .have e:i=n:=vG hi bj
  subst e;exact .inl ⟨AF _,hd σ H p⟩
theorem AAz{bs:List Bool}(r:Vals (bs.map V.bl) us):us=bs.map K1:=by
 induction bs generalizing us with
 | nil=>cases r;rfl
 | cons b bs ih =>
  rw[B4] at r;cases r with
  | cons h t =>
   rw[ih t,B4]
   congr 1
theorem Gs(hc:X.calm=true):CallR X (.builtin "all") (λxs H Q=>∃(p:Addr) (bs:List Bool),xs=[.ref p]/\SqL X.K H p (bs.map V.bl)/\Q (.bl (bs.all id)) H):=by
 intro aa s σ H xs us Q I r h;obtain⟨p,bs,rfl,hq,q⟩:=h;obtain⟨u0,rfl,ru⟩:=r.one;cases ru;obtain⟨ag,rv,pl,hz⟩:=I.list hq;have e:=AAz rv;subst e;have hl:=pl.isList;have bj:p<s.heap.objs.size:=by obtain⟨_,e,_⟩:=hl;exact Bz e
 refine call_all_walk (Op hl ?_);refine⟨s.heap.objs.size,[s.heap.objs.size,p],[s.heap.objs.size],(bs.map K1).toArray.size,_,_,λi=>(bs[i]?).getD true,rfl,Zp (A:=X.A.in1) (I.ok.hd hc) _ p (BU bj) (bs.map K1).toArray,
  ⟨⟨_,AU _ rfl,rfl,rfl⟩,hl.push _⟩,λi v s' Q' E' hP hQ=>?_,λh' tk hk=>?_⟩
 .have mI:(bs.map K1)[i]?=uA v:=by simpa using hP
  rw[AS] at mI;cases g:bs[i]? with
  | none=>rw[g] at mI;cases mI
  | some b =>
   rw[g] at mI;cases mI;simp only[g,Option.getD_some] at hQ;exact Hc hQ
 .have e:((AW (bs.map K1).toArray.size).all λi=>(bs[i]?).getD true)=bs.all id:=by
   rw[AT,AB];exact LSm.range_all bs
  rw[e];exact⟨.bl (bs.all id),H,I.kept (LSm.kept_iter hk),rfl,q⟩
end L2
namespace L2
theorem smallN(h:n<=100000):n<PySem.sizeLine:=EB h (by decide)
end L2
namespace K32s
open PySem L2 G
def top(i:Nat):Stmt:=Ki.main.body.getD i (.Pass ⟨0,0,0,0⟩)
abbrev YG:Stmt:=top 8
abbrev AGo:Stmt:=top 9
abbrev MJ:Stmt:=top 11
abbrev RL:Stmt:=top 12
abbrev sIn:Stmt:=top 13
abbrev Lr:Stmt:=inClass (top 7) 0
abbrev ADJ:Stmt:=inClass (top 7) 1
abbrev Xi:Stmt:=inClass (top 7) 2
abbrev AGr:Stmt:=inClass (top 7) 3
theorem ra:¬ (("amount" : Str) = "rows"):=by decide+kernel
theorem ha:¬ (("amount" : Str) = "head"):=by decide+kernel
theorem hr':¬ (("rows" : Str) = "head"):=by decide+kernel
def flds(z:Int)(j:Addr)(h:Int):List (Str×V):=putF "head" (.int h) (putF "rows" (.ref j) (putF "amount" (.int z) []))
theorem HW(z:Int)(j:Addr)(h:Int):(flds z j h).lookup ("amount" : Str)=uA (.int z):=by
 unfold flds;rw[Aj,uC ha,Aj,uC ra,Aj,uD rfl]
theorem ZW(z:Int)(j:Addr)(h:Int):(flds z j h).lookup ("rows" : Str)=uA (.ref j):=by
 unfold flds;rw[Aj,uC hr',Aj,uD rfl]
structure Txt(K:Ap)(mg:Str->Option As)(C:Addr):Prop where
 cl:Cls K C
 nA:NoAttr K C "amount"
 nR:NoAttr K C "rows"
 nH:NoAttr K C "head"
 mgC:mg "Sieve" = uA (.ref C)
 len:mg "len" = uB
 range:mg "range" = uB
 int:mg "int" = uB
 sorted:mg "sorted" = uB
 set:mg "set" = uB
 tuple:mg "tuple" = uB
 list:mg "list" = uB
 bool:mg "bool" = uB
 enum:mg "enumerate" = uB
 all:mg "all" = uB
 isi:mg "isinstance" = uB
 min:mg "min" = uB
 rev:mg "reversed" = uB
def rRow(K:Ap):Rep Row:=λH r v=>∃p,v=.ref p/\SqT K H p [.int r.1,.int r.2.1,.int r.2.2]
theorem Cu:TRep (rRow K):=by rintro H H' r v t ⟨p,a,b⟩;exact⟨p,a,t.seq b⟩
def SvAt(K:Ap)(C:Addr)(H:Hp)(p:Addr)(z:Int)(rows:List Row)(h:Int):Prop:=∃dx j,H p=uA (.ins C dx (flds z j h))/\rTup K (rRow K) H rows (.ref j)
theorem SvAt.same{z hd:Int}{rows:List Row}(h:SvAt K C H p z rows hd)(e:Same H H'):SvAt K C H' p z rows hd:=by
 obtain⟨dx,j,h1,h2⟩:=h;exact⟨dx,j,e _ _ h1,Aq Cu _ _ _ _ e.ts h2⟩
def Jo(K:Ap)(C:Addr):Sp:=λvs H Q _=>∃(p dx l:Addr) (z h:Int) (xs:List V) (rows:List Row),vs=[.ref p,.int z,.ref l,.int h]/\H p=uA (.ins C dx [])/\SqL K H l xs/\BI (rRow K H) rows xs /\
 ∀(H':Hp),(∀b o,H b=uA o->b≠p->H' b=uA o)->SvAt K C H' p z rows h->Q .non H'
def ADb(K:Ap)(C:Addr):Sp:=λvs H Q _=>∃(p:Addr) (z h:Int) (rows:List Row),vs=[.ref p]/\SvAt K C H p z rows h/\Q (.int z) H
def ADR(K:Ap)(C:Addr):Sp:=λvs H Q _=>∃(p:Addr) (z h:Int) (rows:List Row),vs=[.ref p]/\SvAt K C H p z rows h/\Q (.int h) H
def Qp(K:Ap)(C:Addr):Sp:=λvs H Q _=>∃(p:Addr) (z h:Int) (rows:List Row),vs=[.ref p]/\SvAt K C H p z rows h/\∀(l:Addr) (ys:List V) (H':Hp),Same H H'->H l=none->H' l=uA (.lst ys)->BI (rRow K H') rows ys->Q (.ref l) H'
theorem AGP:FnScope zl3 zl3 (Ah ADJ):=fscp (by decide+kernel)
theorem ADx(F:Fun K "many" "Sieve.many" ADJ f fd)(T:Txt K mg C):FnOk P w K mg base CX0 1 f fd zl3 (ADb K C):=by
 refine F.ok AGP (λvs H Q E h=>?_) (λa7 A outer s H vs Q E hr h=>?_)
 .obtain⟨p,z,hd,rows,rfl,_⟩:=h
  rfl
 obtain⟨p,z,hd,rows,rfl,⟨dx,j,hP,hj⟩,q⟩:=h;refine⟨_,Ai (Ao (Bw (pv 0) rfl)),?_⟩;exact⟨_,rfl,p,C,dx,_,_,rfl,hP,T.cl,T.nA,HW _ _ _,q⟩
theorem AEm:FnScope zl3 zl3 (Ah Xi):=fscp (by decide+kernel)
theorem ADe(F:Fun K "knots" "Sieve.knots" Xi f fd)(T:Txt K mg C):FnOk P w K mg base CX0 1 f fd zl3 (Qp K C):=by
 refine F.ok AEm (λvs H Q E h=>?_) (λa7 A outer s H vs Q E hr h=>?_)
 .obtain⟨p,z,hd,rows,rfl,_⟩:=h
  rfl
 obtain⟨p,z,hd,rows,rfl,⟨dx,j,hP,j',xs,ej,hj,pj⟩,q⟩:=h;cases ej;refine⟨_,Ai (Ao (Bb Dl rfl T.list E6 (Aa (Bw (pv 0) rfl) Ac))),?_⟩;refine⟨_,rfl,p,C,dx,_,_,rfl,hP,T.cl,T.nR,ZW _ _ _,j,xs,rfl,.inr hj,λl hl=>?_⟩;refine q l xs _ (u8 hl _) hl Ab ?_;exact u7 (λa b=>Cu H _ a b (TSm.new hl)) pj
theorem Zo(z:Int)(j:Addr)(h:Int):(flds z j h).lookup ("head" : Str)=uA (.int h):=by
 unfold flds;rw[Aj,uD rfl]
theorem AHJ:FnScope zl3 zl3 (Ah AGr):=fscp (by decide+kernel)
theorem AGL(F:Fun K "top" "Sieve.top" AGr f fd)(T:Txt K mg C):FnOk P w K mg base CX0 1 f fd zl3 (ADR K C):=by
 refine F.ok AHJ (λvs H Q E h=>?_) (λa7 A outer s H vs Q E hr h=>?_)
 .obtain⟨p,z,hd,rows,rfl,_⟩:=h
  rfl
 obtain⟨p,z,hd,rows,rfl,⟨dx,j,hP,hj⟩,q⟩:=h;refine⟨_,Ai (Ao (Bw (pv 0) rfl)),?_⟩;exact⟨_,rfl,p,C,dx,_,_,rfl,hP,T.cl,T.nH,Zo _ _ _,q⟩
theorem WW:FnScope zl6 zl6 (Ah Lr):=fscp (by decide+kernel)
theorem JD(F:Fun K "__init__" "Sieve.__init__" Lr f fd)(T:Txt K mg C):FnOk P w K mg base CX0 1 f fd zl6 (Jo K C):=by
 refine F.ok WW (λvs H Q E h=>?_) (λa7 A outer s H vs Q E hr h=>?_)
 .obtain⟨p,dx,l,z,h,xs,rows,rfl,_⟩:=h
  rfl
 obtain⟨p,dx,l,z,h,xs,rows,rfl,hP,hS,pa,q⟩:=h;refine⟨_,Ad (Eu (pv 0) (pv 1) rfl)
  (Ad (Eu (pv 0) (Bb Bo rfl T.tuple Db (Aa (pv 2) Ac)) rfl)
  (Ai (Eu (pv 0) (pv 3) rfl))),?_⟩
 have sl:∀{H:Hp}{fs gs:List (Str×V)}{a:Addr}{zs:List V},H p=uA (.ins C dx fs)->SqL K H a zs->SqL K (upd H p (.ins C dx gs)) a zs:=λ{H fs gs a zs} hP h=>by
  rcases h with(h| ⟨o,h⟩)| h
  .exact .inl (.inl (by rw[Af (DQ h hP (by intro z;cases z))];exact h))
  .exact .inl (.inr ⟨o,by rw[Af (DQ h hP (by intro z;cases z))];exact h⟩)
  .exact .inr h
 have ts:∀{H:Hp}{fs gs:List (Str×V)},H p=uA (.ins C dx fs)->TSm H (upd H p (.ins C dx gs)):=λ{H fs gs} hP b u hb t=>by
  rw[Af ?_]
  .exact hb
  .rintro rfl
   rw[hP] at hb;cases hb;obtain⟨ys,e| ⟨o,e⟩⟩:=t
   .cases e
   .cases e
 refine⟨_,rfl,_,rfl,p,C,dx,[],rfl,hP,T.cl,T.nA,(by decide),?_⟩;refine⟨_,rfl,l,xs,rfl,.inl ⟨sl hP hS,λj hj=>?_⟩⟩;have jp:p≠j:=λe=>by rw[<- e,Ab] at hj;cases hj
 have rG:(upd (upd H p (.ins C dx (putF "amount" (.int z) []))) j (.tup xs)) p=uA (.ins C dx (putF "amount" (.int z) [])):=by rw[Af jp,Ab]
 have t2:=ts (gs:=putF "rows" (.ref j) (putF "amount" (.int z) [])) rG;refine⟨_,rfl,p,C,dx,_,rfl,rG,T.cl,T.nR,(by show 1<1000;decide),?_⟩;have t3:=ts (H:=upd (upd (upd H p (.ins C dx (putF "amount" (.int z) []))) j (.tup xs)) p (.ins C dx (putF "rows" (.ref j) (putF "amount" (.int z) [])))) (gs:=flds z j h) Ab;refine⟨_,rfl,_,rfl,p,C,dx,_,rfl,Ab,T.cl,T.nH,(by show 2<1000;decide),?_⟩;refine q _ (λb o e hb=>?_) ⟨dx,j,Ab,j,xs,rfl,t3.seq (t2.seq (uz Ab)),?_⟩
 .rw[Af hb,Af hb,Af ?_,Af hb]
  .exact e
  .rintro rfl
   rw[Af hb,e] at hj;cases hj
 .exact u7 (λa b r=>Cu _ _ _ _ t3 (Cu _ _ _ _ t2 (Cu _ _ _ _ (TSm.new hj) (Cu _ _ _ _ (ts hP) r)))) pa
abbrev Sq(K:Ap)(H:Hp)(l:Addr)(xs:List V):Prop:=SqL K H l xs\/SqT K H l xs
theorem Sq.same(h:Sq K H l xs)(e:Same H H'):Sq K H' l xs:=h.elim (λz=>.inl (e.seq z)) λz=>.inr (e.ts.seq z)
def rIxA(K:Ap):R2:=λx y H Q=>rIxL K x y H Q\/rIxT K x y H Q
theorem Ga:IxR X (rIxA X.K):=by
 intro a5 bn aa s σ H x y v u Q I rx ry h hs;rcases h with h| h
 .exact BL a5 bn aa s σ H x y v u Q I rx ry h hs
 .exact BW a5 bn aa s σ H x y v u Q I rx ry h hs
theorem QX(hK:X.K=K):IxR X (rIxA K):=by subst hK;exact Ga
theorem ixA{i:Int}{Q:VK}(h:Sq K H p xs)(e:atI xs i=uA v)(q:Q v H):rIxA K (.ref p) (.int i) H Q :=
 h.elim (λz=>.inl ⟨p,_,i,_,rfl,rfl,z,e,q⟩) λz=>.inr ⟨p,_,i,_,rfl,rfl,z,e,q⟩
def rRowA(K:Ap)(H:Hp)(r:Row)(v:V):Prop:=∃p,v=.ref p/\Sq K H p [.int r.1,.int r.2.1,.int r.2.2]
theorem AAp{r:Row}(e:Same H H')(h:rRowA K H r v):rRowA K H' r v:=by obtain⟨p,a,b⟩:=h;exact⟨p,a,b.same e⟩
def RowsAt(K:Ap)(H:Hp)(l:Addr)(rows:List Row):Prop:=∃xs,Sq K H l xs/\BI (rRowA K H) rows xs
theorem RowsAt.same{rows:List Row}(h:RowsAt K H l rows)(e:Same H H'):RowsAt K H' l rows:=by obtain⟨xs,a,b⟩:=h;exact⟨xs,a.same e,u7 (λ_ _ r=>AAp e r) b⟩
theorem RowsAt.of{rows:List Row}(h:rLst K (rRow K) H rows (.ref l)):RowsAt K H l rows:=by
 obtain⟨l',xs,e,hS,pa⟩:=h;cases e;exact⟨xs,.inl hS,u7 (by rintro _ _ ⟨p,a,b⟩;exact⟨p,a,.inr b⟩) pa⟩
abbrev iN(s:uL):List V:=s.map λ(x:Nat)=>V.int (x:Int)
theorem Rm{rows:List Row}{k:Nat}(h:RowsAt K H l rows)(kn:Knot rows k)(h2:2<=k) :
  ∃xs p,Sq K H l xs/\atI xs ((k:Int)-2)=uA (.ref p)/\Sq K H p [.int (rows.getD (k-2) (0,0,0)).1,.int (rows.getD (k-2) (0,0,0)).2.1,.int (rows.getD (k-2) (0,0,0)).2.2]:=by
 obtain⟨xs,hS,pa⟩:=h;obtain⟨v,hv,p,rfl,hp⟩:=uw pa (Bf kn h2);exact⟨xs,p,hS,by rw[show(k:Int)-2=((k-2:Nat):Int) from xS h2];exact Bg hv,hp⟩
theorem ABt{rows:List Row}{k:Nat}(h:rLst K (rRow K) H rows (.ref l))(kn:Knot rows k)(h2:2<=k) :
  ∃xs p,SqL K H l xs/\atI xs ((k:Int)-2)=uA (.ref p)/\SqT K H p [.int (rows.getD (k-2) (0,0,0)).1,.int (rows.getD (k-2) (0,0,0)).2.1,.int (rows.getD (k-2) (0,0,0)).2.2]:=by
 obtain⟨l',xs,e,hS,pa⟩:=h;cases e;obtain⟨v,hv,p,rfl,hp⟩:=uw pa (Bf kn h2);exact⟨xs,p,hS,by rw[show(k:Int)-2=((k-2:Nat):Int) from xS h2];exact Bg hv,hp⟩
theorem at0{a b c:V}:atI [a,b,c] 0=uA a:=rfl
theorem at1{a b c:V}:atI [a,b,c] 1=uA b:=rfl
theorem at2{a b c:V}:atI [a,b,c] 2=uA c:=rfl
noncomputable def lay(rows:List Row)(t:Nat)(rc:uL)(j:Nat):uL:=(rc.take j).filter λk=>decide (tieOf rows k=t)
theorem Va{rows:List Row}{t:Nat}{k:Nat}(h:rc[j]?=uA k):lay rows t rc (j+1)=lay rows t rc j++if tieOf rows k=t then [k] else []:=by
 unfold lay;rw[Ex,h,CL];by_cases c:tieOf rows k=t
 .simp[c]
 .simp[c]
theorem JH{rows:List Row}{t:Nat}{k:Nat}:k∈lay rows t rc rc.length↔k∈rc/\tieOf rows k=t:=by
 unfold lay;rw[CM,BQ];simp
theorem Jl(h:n<=20000):n<sizeLine:=EB h (by decide)
def has(af:List (Key×V))(k:Nat):Prop:=(valV af (.inl (k:Int))).isSome=true
theorem has_put{af:List (Key×V)}{a k:Nat}:has (putK af (.inl (a:Int)) v) k↔k=a\/has af k:=by
 unfold has;rw[Ey];by_cases e:k=a
 .subst e;simp
 .rw[uC (λz=>e (by injection z with z;exact uM z))]
  exact⟨.inr,λh=>h.resolve_left e⟩
noncomputable def rcOf(af:List (Key×V))(i:Nat):uL:=((AW i).map (·+2)).filter λk=>(valV af (.inl (k:Int))).isSome
theorem Pn(af:List (Key×V))(i:Nat):rcOf af (i+1)=rcOf af i++if(valV af (.inl ((i+2:Nat):Int))).isSome=true then [i+2] else []:=by
 unfold rcOf;rw[FM,BM,CL,J3,HL,Pw]
theorem Ls{af:List (Key×V)}{k:Nat}:k∈rcOf af i↔2<=k/\k<i+2/\has af k:=by
 unfold rcOf has;rw[BQ,A1];constructor
 .rintro⟨⟨a,ha,rfl⟩,h⟩
  rw[A8] at ha;exact⟨vg,wI ha,h⟩
 .rintro⟨h1,h2,h3⟩
  exact⟨⟨k-2,A8.mpr (wb h2 h1),wR h1⟩,h3⟩
theorem ABQ(af:List (Key×V))(i:Nat):(rcOf af i).length<=i:=by
 unfold rcOf;refine BY (Do _ _) ?_;rw[AB,CB];exact AF _
theorem getD_map:∀(rows:List Row),(AW rows.length).map (λi=>rows.getD i (0,0,0))=rows:=λrows=>by
 apply FG;intro i;by_cases c:i<rows.length
 .simp[c]
 .simp[c]
theorem ADf{rows:List Row}{t:Nat}(h:rc.Sublist ((AW m).map (·+2)))(hm:m<=rows.length):(lay rows t rc j).length<=(rows.filter λr=>decide (r.1=t)).length:=by
 have h1:(lay rows t rc j).Sublist (((AW rows.length).map (·+2)).filter λk=>decide (tieOf rows k=t)):=by
  unfold lay;exact(((Kk _ _).trans h).trans ((List.range_sublist.mpr hm).map _)).filter _
 refine BY h1.length_le ?_;have e:(rows.filter λr=>decide (r.1=t))=(((AW rows.length).filter λi=>decide ((rows.getD i (0,0,0)).1=t)).map λi=>rows.getD i (0,0,0)):=by
  conv=>lhs;rw[<- getD_map rows]
  rw[J6];rfl
 rw[e,AB,J6,AB];exact AF _
theorem AGD(af:List (Key×V))(i:Nat):(rcOf af i).Sublist ((AW i).map (·+2)):=Se
def AHa(K:Ap):Sp:=λvs H Q _=>∃(d p:Addr) (r:Row) (x y:Nat) (af:List (Key×V)),vs=[.ref d,.ref p]/\H d=uA (.dK af)/\rRowA K H r (.ref p)/\valV af (.inl (r.2.1:Int))=uA (.int x)/\valV af (.inl (r.2.2:Int))=uA (.int y) /\
 ∀t,H t=none->Q (.ref t) (upd H t (.tup [.int r.1,.int x,.int y]))
def Yi(K:Ap):Sp:=λvs H Q _=>∃(l:Addr) (n top:Nat) (rows:List Row),vs=[.ref l,.int top]/\RowsAt K H l rows/\Ok n rows/\rows.length<=4100/\Knot rows top /\
 ∀(D:Addr) (rc:uL) (H':Hp),Same H H'->H D=none->H' D=uA (.lst (iN rc))->Closed rows rc->(top<=1\/top∈rc)->(∀t j,(lay rows t rc j).length<=(rows.filter λr=>decide (r.1=t)).length)->(∀k∈rc,k=top\/∃k'∈rc,k<k'/\(outOf rows k'=k\/intoOf rows k'=k))->Q (.ref D) H'
theorem AHu:FnScope zl7 zl7 (Ah sIn):=fscp (by decide+kernel)
theorem AHr(F:Fun K "row_in_places" "row_in_places" sIn f fd):FnOk P w K mg base CX0 1 f fd zl7 (AHa K):=by
 refine F.ok AHu (λvs H Q E h=>?_) (λa7 A outer s H vs Q E hr h=>?_)
 .obtain⟨d,p,r,x,y,af,rfl,_⟩:=h
  rfl
 obtain⟨d,p,r,x,y,af,rfl,hd,⟨p',e,hp⟩,hx,hy,q⟩:=h;cases e;refine⟨_,Ai (Ao (Cq (Aa (Av Ga (pv 1) Ag) (Aa (Qn (Br hr) (pv 0) (Av Ga (pv 1) Ag) (λ_ _=>rfl)) (Aa (Qn (Br hr) (pv 0) (Av Ga (pv 1) Ag) (λ_ _=>rfl)) Ac))))),?_⟩;refine⟨_,rfl,ixA hp at0 ⟨_,rfl,_,rfl,ixA hp at1 ⟨d,.int x,rfl,?_,_,rfl,_,rfl,ixA hp at2 ⟨d,.int y,rfl,?_,(by show 3<=sizeLine;decide),q⟩⟩⟩⟩
 .have:=DGet.k (k:=.inl (r.2.1:Int)) hd
  rw[hx] at this;exact this
 .have:=DGet.k (k:=.inl (r.2.2:Int)) hd
  rw[hy] at this;exact this
theorem QL:FnScope ["rows","top","reached","knot"] zl23 (Ah RL):=fscp (by decide+kernel)
theorem ADg(F:Fun K "reached_knots" "reached_knots" RL f fd)(T:Txt K mg C):FnOk P w K mg base CX0 1 f fd zl23 (Yi K):=by
 refine F.ok QL (λvs H Q E h=>?_) (λa7 A outer s H vs Q E hr h=>?_)
 .obtain⟨l,n,top,rows,rfl,_⟩:=h
  rfl
 obtain⟨l,n,top,rows,rfl,hL,ok,r60,kt,q⟩:=h;refine⟨_,Ad (Ak (i:=2) QL.nd (Yp (Lj (pv 1) Fo Yz) rfl rfl (by intro z;cases z) (by decide)))
  (Ad (DW C5 rfl (Pk rfl T.range (Aa (pv 1) (Aa Ag (Aa (YL RX Ag) Ac)))) (BX (i:=3) QL.nd)
   (Ai (Bl (Ia (ACS (Br hr) (pv 3) (pv 2)))
    (Ad (Km (Br hr) (pv 2) (Av Ga (Av Ga (pv 0) (Az Fd (pv 3) Ag)) Ag) Fo rfl)
    (Ai (Km (Br hr) (pv 2) (Av Ga (Av Ga (pv 0) (Az Fd (pv 3) Ag)) Ag) Fo rfl))) BJ)))
  (Ai (Ao (Bq (Ah RL) ["knot"] ["reached"] [2] rfl rfl (by decide+kernel) ⟨⟨rfl,by decide+kernel⟩,trivial⟩ (Zv rfl T.range (Aa Ag (Aa (Az Cp (pv 1) Ag) Ac)))
   (λ_ _ _=>BK (i:=0))
   (λ_ _ _=>CK (Ia (ACS (Br hr) (pv 0) (pv 1)) rfl))
   (λ_ _ _=>pv 0))))),?_⟩
 refine λD hD=>⟨_,rfl,Ab,[(.inl (top:Int),.bl true)],rfl,(by show 1<=15;decide),?_⟩;have s0:Same H (upd (upd H D (.dK [])) D (.dK (mergeK [] [(.inl (top:Int),.bl true)]))):=λb o e=>by rw[Af (Ae e hD),Af (Ae e hD)];exact e
 refine⟨_,rfl,_,rfl,(top:Int),1,rfl,⟨by lia,by have:top<rows.length+2:=kt;lia,by lia,by lia⟩,?_⟩;refine SJ (lo:=(top:Int)) (n:=((top:Int)-1).toNat) (λi σ H2=>∃(af:List (Key×V)) (kv:Option V),σ=[uA (.ref l),uA (.int top),uA (.ref D),kv]/\Same H H2/\H2 D=uA (.dK af)/\af.length<=1+2*i/\has af top /\
   (∀k:Nat,top<k+i->k<=top->has af k->has af (outOf rows k)/\has af (intoOf rows k))/\(∀k:Nat,has af k->k<=top)/\∀k:Nat,2<=k->has af k->k=top\/∃k',2<=k'/\has af k'/\k<k'/\(outOf rows k'=k\/intoOf rows k'=k))
  ⟨_,uB,rfl,s0,Ab,by show 1<=1;decide,?_,λk h1 h2=>by lia,?_,?_⟩ ?_ ?_
 .show has (putK [] (.inl (top:Int)) (.bl true)) top
  exact has_put.mpr (.inl rfl)
 .intro k hk
  rcases has_put.mp (show has (putK [] (.inl (top:Int)) (.bl true)) k from hk) with e| e
  .exact vB e
  .exact uH e (by intro z;cases z)
 .intro k _ hk
  rcases has_put.mp (show has (putK [] (.inl (top:Int)) (.bl true)) k from hk) with e| e
  .exact .inl e
  .exact uH e (by intro z;cases z)
 .rintro i σ H2 hi ⟨af,kv,rfl,sm,eD,hl,ht,hc,hb,hpar⟩
  obtain⟨k,ek,k2⟩:∃k:Nat,(top:Int)-i=k/\2<=k:=⟨((top:Int)-i).toNat,by lia,by lia⟩;have kk:Knot rows k:=by unfold Knot at *;lia
  rw[ek];refine⟨_,rfl,_,rfl,D,_,rfl,DGet.k (k:=.inl (k:Int)) eD,_,rfl,?_⟩;refine ite2 (λc=>?_) (λc=>?_)
  .have oQ:=hL.same sm
   obtain⟨xs,p,hS,ha,hp⟩:=Rm oQ kk k2;obtain⟨_,lo,li,_⟩:=ok.low (Bf kk k2);have z1:af.length<sizeLine:=Jl (by unfold Knot at kt;lia);refine⟨_,rfl,_,rfl,_,rfl,_,_,rfl,rfl,ixA hS ha (ixA hp at1 ⟨D,_,rfl,.inl ⟨af,.inl ((rows.getD (k-2) (0,0,0)).2.1:Int),eD,rfl,z1,rfl⟩,?_⟩)⟩;have l1:=Ck af (.inl ((rows.getD (k-2) (0,0,0)).2.1:Int)) (.bl true);have z2:(putK af (.inl ((rows.getD (k-2) (0,0,0)).2.1:Int)) (.bl true)).length<sizeLine:=Jl (by unfold Knot at kt;lia);have sm2:Same H (upd H2 D (.dK (putK af (.inl ((rows.getD (k-2) (0,0,0)).2.1:Int)) (.bl true)))):=λb o e=>by rw[Af (Ae e hD)];exact sm b o e
   obtain⟨xs2,p2,hS2,ha2,kG⟩:=Rm (hL.same sm2) kk k2;refine⟨_,rfl,_,rfl,_,rfl,_,_,rfl,rfl,ixA hS2 ha2 (ixA kG at2 ⟨D,_,rfl,.inl ⟨_,.inl ((rows.getD (k-2) (0,0,0)).2.2:Int),Ab,rfl,z2,rfl⟩,?_⟩)⟩;have l2:=Ck (putK af (.inl ((rows.getD (k-2) (0,0,0)).2.1:Int)) (.bl true)) (.inl ((rows.getD (k-2) (0,0,0)).2.2:Int)) (.bl true);have hup:∀k',has (putK (putK af (.inl ((rows.getD (k-2) (0,0,0)).2.1:Int)) (.bl true)) (.inl ((rows.getD (k-2) (0,0,0)).2.2:Int)) (.bl true)) k'->k'=outOf rows k\/k'=intoOf rows k\/has af k':=λk' h=>by
    rcases has_put.mp h with e| h
    .exact .inr (.inl e)
    rcases has_put.mp h with e| h
    .exact .inl e
    exact .inr (.inr h)
   have hkk:=c;have kle:k<=top:=by lia
   have lo':outOf rows k<k:=by unfold outOf;exact vo lo k2
   have li':intoOf rows k<k:=by unfold intoOf;exact vo li k2
   refine⟨_,_,rfl,λb o e=>?_,Ab,by lia,has_put.mpr (.inr (has_put.mpr (.inr ht))),λk' h1 h2 h3=>?_,λk' h=>?_,λk' h2 h=>?_⟩
   .rw[Af (Ae e hD),Af (Ae e hD)]
    exact sm b o e
   .by_cases e:k'=k
    .subst e
     exact⟨has_put.mpr (.inr (has_put.mpr (.inl rfl))),has_put.mpr (.inl rfl)⟩
    .have h4:has af k':=by
      rcases has_put.mp h3 with e' | h3
      ·lia
      rcases has_put.mp h3 with e' | h3
      ·lia
      exact h3
     obtain⟨y1,y2⟩:=hc k' (xT ek h1 e) h2 h4;exact⟨has_put.mpr (.inr (has_put.mpr (.inr y1))),has_put.mpr (.inr (has_put.mpr (.inr y2)))⟩
   .rcases hup k' h with e| e| e
    .exact xU ek e lo'
    .exact xU ek e li'
    .exact hb k' e
   .have keep:has (putK (putK af (.inl ((rows.getD (k-2) (0,0,0)).2.1:Int)) (.bl true)) (.inl ((rows.getD (k-2) (0,0,0)).2.2:Int)) (.bl true)) k:=has_put.mpr (.inr (has_put.mpr (.inr hkk)))
    rcases hup k' h with e| e| e
    .exact .inr ⟨k,k2,keep,xE e lo',.inl e.symm⟩
    .exact .inr ⟨k,k2,keep,xE e li',.inr e.symm⟩
    .rcases hpar k' h2 e with z| ⟨u,z1,z2,z3⟩
     .exact .inl z
     .exact .inr ⟨u,z1,has_put.mpr (.inr (has_put.mpr (.inr z2))),z3⟩
  .refine⟨af,_,rfl,sm,eD,by lia,ht,λk' h1 h2 h3=>?_,hb,hpar⟩
   by_cases e:k'=k
   .subst e
    exact uH h3 c
   .exact hc k' (xT ek h1 e) h2 h3
 .rintro σ H2 ⟨af,kv,rfl,sm,eD,hl,ht,hc,hb,hpar⟩
  refine⟨_,rfl,_,_,rfl,rfl,2,(top:Int)+1,rfl,⟨by lia,by lia,by lia,by unfold Knot at kt;lia⟩,λL ky=>?_⟩;have se:D≠L:=λe=>by rw[<- e,eD] at ky;cases ky
  have nL:=sm.free ky;refine Ci (lo:=2) (n:=((top:Int)+1-2).toNat) (λi τ H3=>∃kv:Option V,τ=[kv,uA (.ref D)]/\Same H H3/\H3 D=uA (.dK af)/\H3 L=uA (.lst (iN (rcOf af i)))) ⟨uB,rfl,sm.trans (u8 ky _),by rw[Af se];exact eD,Ab⟩ ?_ ?_
  .rintro i τ H3 hi ⟨kv,rfl,p9,qX,kB⟩
   have ei:(2:Int)+i=((i+2:Nat):Int):=by lia
   rw[ei];refine⟨_,rfl,_,rfl,D,_,rfl,DGet.k (k:=.inl ((i+2:Nat):Int)) qX,_,rfl,?_⟩;have lr:=ABQ af i;refine ite2 (λc=>?_) (λc=>?_)
   .refine⟨_,rfl,_,kB,Jl (by rw[AB];unfold Knot at kt;lia),_,rfl,λb o e=>?_,by rw[Af se];exact qX,?_⟩
    .rw[Af (Ae e nL)]
     exact p9 b o e
    .rw[Ab,Pn,uD c]
     unfold iN;rw[BM];rfl
   .refine⟨_,rfl,p9,qX,?_⟩
    rw[kB,Pn,uC c,Co]
  .rintro τ H3 ⟨kv,rfl,p9,qX,kB⟩
   have all:∀k,k∈rcOf af ((top:Int)+1-2).toNat->2<=k/\k<=top/\has af k:=λk hk=>by
    obtain⟨a,b,c⟩:=Ls.mp hk;exact⟨a,by lia,c⟩
   have back:∀k,k<=top->has af k->k<=1\/k∈rcOf af ((top:Int)+1-2).toNat:=λk h1 h2=>by
    rcases DJ k 2 with c| c
    .exact .inl (vY c)
    .exact .inr (Ls.mpr ⟨c,xV h1,h2⟩)
   have kn:∀k,k<=top->Knot rows k:=λk h=>by unfold Knot at *;exact ve h kt
   refine q L _ H3 p9 nL kB ⟨λk hk=>(all k hk).1,λk hk=>kn k (all k hk).2.1,λk hk=>?_,λk hk=>?_⟩ (back top (AF _) ht) (λt j=>ADf (AGD _ _) (by unfold Knot at kt;lia)) (λk hk=>by
     obtain⟨a1,b1,c1⟩:=all k hk;rcases hpar k a1 c1 with z| ⟨u,u2,z1,z2⟩
     .exact .inl z
     .exact .inr ⟨u,Ls.mpr ⟨u2,by have:=hb u z1;exact xV this,z1⟩,z2⟩)
   .obtain⟨a,b,c⟩:=all k hk
    obtain⟨_,lo,li,_⟩:=ok.low (Bf (kn k b) a);exact back _ (by unfold outOf;exact xW lo b a) (hc k (xX a) b c).1
   .obtain⟨a,b,c⟩:=all k hk
    obtain⟨_,lo,li,_⟩:=ok.low (Bf (kn k b) a);exact back _ (by unfold intoOf;exact xW li b a) (hc k (xX a) b c).2
noncomputable def ik3(r:Row):List Key:=[.inl (r.1:Int),.inl (r.2.1:Int),.inl (r.2.2:Int)]
noncomputable abbrev r3(r:Row):List V:=[.int r.1,.int r.2.1,.int r.2.2]
noncomputable def r3i(r:Row):uI:=[(r.1:Int),(r.2.1:Int),(r.2.2:Int)]
theorem AFW{a b:Row}(h:ik3 a=ik3 b):a=b:=by
 obtain⟨a1,a2,a3⟩:=a;obtain⟨b1,b2,b3⟩:=b;simp[ik3] at h;obtain⟨h1,h2,h3⟩:=h;injection h1 with h1
 injection h2 with h2
 injection h3 with h3
 have e1:a1=b1:=h1;have e2:a2=b2:=h2;have e3:a3=b3:=h3;rw[e1,e2,e3]
theorem Kc{a b:Row}(h:r3i a=r3i b):a=b:=by
 obtain⟨a1,a2,a3⟩:=a;obtain⟨b1,b2,b3⟩:=b;simp[r3i] at h;obtain⟨h1,h2,h3⟩:=h;have e1:a1=b1:=uM h1;have e2:a2=b2:=uM h2;have e3:a3=b3:=uM h3;rw[e1,e2,e3]
noncomputable def numKV:Nat->List Row->List (List Key×V)
 | _,[]=>[]
 | i,r::rs=>(ik3 r,.int (i:Int))::numKV (i+1) rs
noncomputable def numOf:Nat->List Row->Row->uX
 | _,[],_=>uB
 | i,a::rs,r=>if a=r then uA i else numOf (i+1) rs r
theorem Jt:∀(i:Nat) (ae:List Row),(numKV i ae).length=ae.length
 | _,[]=>rfl
 | i,_::rs=>by show(numKV (i+1) rs).length+1=rs.length+1;rw[Jt]
theorem Jc(r:Row):∀(i:Nat) (ae:List Row),valV (numKV i ae) (ik3 r)=(numOf i ae r).map λ(m:Nat)=>V.int (m:Int)
 | _,[]=>rfl
 | i,a::rs=>by
  by_cases e:a=r
  .rw[numKV,Cg (by show ik3 a=ik3 r;rw[e]),numOf,uD e];rfl
  .rw[numKV,CZ (λz=>e (AFW z)),numOf,uC e];exact Jc r (i+1) rs
theorem Mz(r:Row):∀(i:Nat) (ae:List Row) (m:Nat),numOf i ae r=uA m->∃j,ae[j]?=uA r/\m=i+j
 | _,[],_,h=>by cases h
 | i,a::rs,m,h=>by
  unfold numOf at h;by_cases e:a=r
  .rw[uD e] at h
   cases h;exact⟨0,by rw[e];rfl,rfl⟩
  .rw[uC e] at h
   obtain⟨j,h1,h2⟩:=Mz r (i+1) rs m h;exact⟨j+1,by simpa using h1,by lia⟩
theorem Mt(r:Row):∀(i:Nat) (ae:List Row),numOf i ae r=none->r∉ae
 | _,[],_=>λh=>nomatch h
 | i,a::rs,h=>by
  unfold numOf at h;by_cases e:a=r
  .rw[uD e] at h;cases h
  .rw[uC e] at h
   intro hm;rcases BH.mp hm with rfl| hm
   .exact e rfl
   .exact Mt r (i+1) rs h hm
theorem Oq(r:Row):∀(i:Nat) (ae:List Row),r∉ae->numOf i ae r=uB
 | _,[],_=>rfl
 | i,a::rs,h=>by
  unfold numOf;rw[uC (λe=>h (by rw[e];exact AG ..))];exact Oq r (i+1) rs λz=>h (AK _ z)
theorem Pz:∀(i:Nat) (ae:List Row) (r:Row),numKV i (ae++[r])=numKV i ae++[(ik3 r,.int ((i+ae.length:Nat):Int))]
 | i,[],r=>rfl
 | i,a::rs,r=>by
  show(ik3 a,V.int (i:Int))::numKV (i+1) (rs++[r])=(ik3 a,V.int (i:Int))::(numKV (i+1) rs++[(ik3 r,V.int ((i+(rs.length+1):Nat):Int))]);rw[Pz (i+1) rs r];rw[show i+1+rs.length=i+(rs.length+1) from vA]
theorem ZX{ae:List Row}{r:Row}(h:r∉ae):putK (numKV 2 ae) (ik3 r) (.int (((numKV 2 ae).length:Int)+2))=numKV 2 (ae++[r]):=by
 rw[JV _ (by rw[Jc,Oq r 2 ae h];rfl),Pz,Jt]
 congr 4
 lia
theorem ZQ:∀{i:Nat}{ae:List Row}{ys:List V},KeyL H (numKV i ae) ys->BI (rRow K H) ae ys:=by
 intro i ae ys h
 induction ae generalizing i ys with
 | nil=>cases h;exact .nil
 | cons r rs ih=>cases h with| cons h t=>obtain⟨b,e,hb⟩:=h;exact .cons ⟨b,e,uz hb⟩ (ih t)
theorem Jh:∀(ms:uJ),(∀m∈ms,∃r,m=r3i r)->∃new:List Row,ms=new.map r3i
 | [],_=>⟨[],rfl⟩
 | m::ms,h=>by
  obtain⟨r,rfl⟩:=h m (AG ..);obtain⟨new,rfl⟩:=Jh ms λx hx=>h x (AK _ hx);exact⟨r::new,rfl⟩
theorem AAX:∀{new:List Row},(new.map r3i).Pairwise (λa b=>HT.lexLt a b=true)->new.Nodup:=λ{new} h=>by
 have h2:=CY.mp h;exact h2.imp λ{a b} z e=>by rw[e,Ma] at z;cases z
def plOf(pl:Nat->uX)(place:Nat->Nat)(ks:uL)(k:Nat):uX:=if k∈ks then uA (place k) else pl k
theorem ACf{place:Nat->Nat}{ks:uL}{a k:Nat}:plOf pl place (ks++[a]) k=if k=a then uA (place a) else plOf pl place ks k:=by
 unfold plOf;by_cases e:k=a
 .subst e;simp
 .by_cases h:k∈ks
  .simp[h,e]
  .simp[h,e]
def PlD(af:List (Key×V))(pl:Nat->uX):Prop:=∀k:Nat,valV af (.inl (k:Int))=(pl k).map λ(p:Nat)=>V.int (p:Int)
theorem PlD.put{af:List (Key×V)}{place:Nat->Nat}{ks:uL}{a:Nat}(h:PlD af (plOf pl place ks)):PlD (putK af (.inl (a:Int)) (.int (place a:Nat))) (plOf pl place (ks++[a])):=λk=>by
 rw[Ey,ACf];by_cases e:k=a
 .subst e;rw[uD rfl,uD rfl];rfl
 .rw[uC (λz=>e (by injection z with z;exact uM z)),uC e]
  exact h k
end K32s
namespace G
section
variable{t:Nat}{A ae:List Row}
def FewB(rows:List Row)(top:Nat):Prop:=∃P:Nat->Prop,P top/\(∀k,P k->2<=k->Knot rows k->P (outOf rows k)/\P (intoOf rows k)) /\
 ∀(t:Nat) (ks:uL),(∀k∈ks,P k/\2<=k/\Knot rows k/\tieOf rows k=t/\∃s,led rows (intoOf rows k) s=true)->ks.Pairwise (λa b=>∃s,led rows a s≠led rows b s)->ks.length<=300
theorem FewB.sel{top:Nat}(F:FewB rows top)(I:Kept2 n (t+1) rows rc ae pl)(c:Closed rows rc)(o:Ok n rows)(hn:t<n)(par:∀k∈rc,k=top\/∃k'∈rc,k<k'/\(outOf rows k'=k\/intoOf rows k'=k)) :
  ∀new:List Row,new.Nodup->(∀r∈new,∃k,k∈rc/\tieOf rows k=t/\r=rowIn rows pl k/\r.2.2≠0)->new.length<=300:=by
 intro new nd hw;obtain⟨P,pt,ps,few⟩:=F;have hP:∀k∈rc,P k:=λk hk=>Zd pt ps c par _ k (AF _) hk;obtain⟨g,hg⟩:∃g:Row->Nat,∀r∈new,g r∈rc/\tieOf rows (g r)=t/\r=rowIn rows pl (g r)/\r.2.2≠0 :=
  ⟨λr=>if h:r∈new then Fm (hw r h) else 0,λr h=>by
   dsimp only;rw[dif_pos h];exact F7 (hw r h)⟩
 have nV:=I.base.least.ok;have key:∀r∈new,∃a b,r=(t,a,b)/\Knot ae a/\Knot ae b/\b≠0/\(∀s,led ae a s=led rows (outOf rows (g r)) s)/\(∀s,led ae b s=led rows (intoOf rows (g r)) s)/\(∀xs,led rows (g r) (t::xs)=led ae b xs)/\∀s,led ae a s=if lowH t s=true then false else led rows (g r) s:=λr hr=>by
  obtain⟨hk,ht,e,w0⟩:=hg r hr;obtain⟨a,b,ea,eb,re,x1,x2,x3,x4⟩:=I.base.row c o hn hk ht;obtain⟨_,z1,z2⟩:=c.low o hk;have la:=I.low (c.out _ hk) (by rw[<- ht];exact z1) ea;have lb:=I.low (c.into _ hk) (by rw[<- ht];exact z2) eb;have kk:=c.knot _ hk;have k2:=c.two _ hk;have et:(rows.getD (g r-2) (0,0,0)).1=t:=ht;refine⟨a,b,e.trans re,x1,x2,?_,la,lb,λxs=>?_,λs=>?_⟩
  .rw[e,re] at w0
   exact w0
  .rw[Bp o kk k2,et,uC (EX _),uD rfl,lb]
   rfl
  .cases s with
   | nil=>rw[la,Eb o kk k2,uC (by intro z;cases z)];rfl
   | cons x xs =>
    by_cases cs:x<=t
    .rw[uD (show lowH t (x::xs)=true from uE cs)]
     exact off nV x1 (ve cs x3)
    .rw[uC (show ¬ lowH t (x::xs)=true from λz=>cs (uG z)),la,Bp o kk k2,et,uC (yc cs),uC (yd cs)]
     rfl
 have:=few t (new.map g) (λk hk=>by
  obtain⟨r,hr,rfl⟩:=A1.mp hk;obtain⟨h1,h2,h3,h4⟩:=hg r hr;obtain⟨a,b,_,_,kb,b0,_,lb,_⟩:=key r hr;refine⟨hP _ h1,c.two _ h1,c.knot _ h1,h2,?_⟩;obtain⟨s,w,_⟩:=Ms I.base.least (b+1) b (DI _) kb b0;exact⟨s,by rw[<- lb];exact w.1⟩) (by
  rw[CY];refine EO (λ{r r'} hr hr' ne=>?_) nd;refine CA λh=>ne ?_;have same:∀s,led rows (g r) s=led rows (g r') s:=λs=>CA λz=>h ⟨s,z⟩;obtain⟨a,b,er,ka,kb,_,_,_,lb,la⟩:=key r hr;obtain⟨a',b',er',ka',kb',_,_,_,lb',fi⟩:=key r' hr';have e1:=YF I.base.least ka ka' λs=>by rw[la,fi,same]
  have e2:=YF I.base.least kb kb' λs=>by rw[<- lb,<- lb',same]
  rw[er,er',e1,e2])
 rwa [AB] at this
theorem VH{α:Type}[DecidableEq α]:∀{l₁ l₂:List α},l₁.Nodup->(∀x∈l₁,x∈l₂)->l₁.length<=l₂.length
 | [],_,_,_=>AY _
 | a::t,l₂,nd,hs=>by
  obtain⟨n1,n2⟩:=DC.mp nd;have ha:=hs a AG;have hl:=EN ha;have ih:=VH (l₂:=l₂.erase a) n2 λx hx=>(G5 (λ(e:x=a)=>n1 (by rw[<- e];exact hx))).mpr (hs x (AK _ hx));have:0<l₂.length:=HU ha;simp;exact xj ih hl this
noncomputable def allB:Nat->List (List Bool)
 | 0=>[[]]
 | n+1=>(allB n).map (true::·)++(allB n).map (false::·)
theorem Ue:∀n,(allB n).length=2 ^ n
 | 0=>rfl
 | n+1=>by
  show((allB n).map (true::·)++(allB n).map (false::·)).length=_;rw[AZ,AB,AB,Ue n,M3];lia
theorem Ti:∀{n:Nat}{l:List Bool},l.length=n->l∈allB n
 | 0,[],_=>by simp[allB]
 | n+1,b::l,h=>by
  have:=Ti (n:=n) (l:=l) (by simpa using h);cases b with
  | true=>exact EV _ (HH this)
  | false=>exact CH _ (HH this)
 | 0,_::_,h=>by cases h
 | _+1,[],h=>by cases h
noncomputable def subs12:List uL:=[[],[9],[10],[11],[9,10],[9,11],[10,11],[9,10,11]]
theorem ADv{s:uL}(w:s.Pairwise (· < ·))(bd:∀x∈s,9<=x/\x<12):s∈subs12:=by
 match s,w,bd with
 | [],_,_=>exact by decide
 | [x],_,bd =>
  have:=bd x (AG ..);have:x=9\/x=10\/x=11:=by lia
  rcases this with rfl| rfl| rfl<;>decide
 | [x,y],w,bd =>
  have h1:=bd x (AG ..);have h2:=bd y (AK _ (AG ..));have lt:=(Dx.mp w).1 y (AG ..);have:(x=9/\y=10)\/(x=9/\y=11)\/(x=10/\y=11):=by lia
  rcases this with⟨rfl,rfl⟩| ⟨rfl,rfl⟩| ⟨rfl,rfl⟩<;>decide
 | x::y::z::r,w,bd =>
  have h1:=bd x (AG ..);have h2:=bd y (AK _ (AG ..));have h3:=bd z (AK _ (AK _ (AG ..)));have l1:=(Dx.mp w).1 y (AG ..);have w2:=(Dx.mp w).2;have l2:=(Dx.mp w2).1 z (AG ..);obtain rfl:x=9:=by lia
  obtain rfl:y=10:=by lia
  obtain rfl:z=11:=by lia
  cases r with
  | nil=>decide
  | cons u r =>
   have hu:=bd u (by simp);have l3:=(Dx.mp (Dx.mp w2).2).1 u (AG ..);lia
theorem Xe(o:Ok n rows)(n12:n<=12)(c:Cnt 0 rows)(top:Nat):FewB rows top:=by
 refine⟨λ_=>True,trivial,λ_ _ _ _=>⟨trivial,trivial⟩,λt ks hk un=>?_⟩;have nd:ks.Nodup:=un.imp λ{a b} ⟨s,h⟩ e=>h (by rw[e]);rcases DJ t 9 with c9| c9
 .have z:=AAP (A:=rows) (t:=t) ks (λk h=>⟨(hk k h).2.1,(hk k h).2.2.1,(hk k h).2.2.2.1⟩) nd
  have y:=c t;rw[uC vj,Nat.sub_zero] at y;have:2 ^ t<=2 ^ 8:=IL (by decide) (by lia);lia
 .have lim:∀{k:Nat}{s:uL},Knot rows k->2<=k->tieOf rows k=t->led rows k s=true->s∈subs12:=λ{k s} kn k2 tk ld=>by
   have I0:=HN _ _ rfl o _ kn;obtain⟨w1,w2⟩:=I0.way s ((I0.mem s).mpr ld);refine ADv w1 λx hx=>?_;have z:=w2 x hx;unfold rank at z;rw[uC (vi k2)] at z;have e:(rows.getD (k-2) (0,0,0)).1=t:=tk;lia
  have z:=VH (l₁:=ks.map λk=>subs12.map (led rows k)) (l₂:=allB 8) (by
   unfold LP;rw[CY];refine EO (λ{a b} ha hb ⟨s,ne⟩ e=>ne ?_) un;obtain⟨_,a2,ka,ta,_⟩:=hk a ha;obtain⟨_,b2,kb,tb,_⟩:=hk b hb;have same:∀s∈subs12,led rows a s=led rows b s:=λs hs=>(List.map_inj_left.mp e) s hs;cases ea:led rows a s with
   | true=>rw[<- same s (lim ka a2 ta ea),ea]
   | false =>
    cases eb:led rows b s with
    | true=>rw[<- same s (lim kb b2 tb eb),ea] at eb;exact eb
    | false=>rfl) λx hx=>by
   obtain⟨k,_,rfl⟩:=A1.mp hx;exact Ti (by rw[AB];rfl)
  rw[AB,Ue] at z;lia
end
end G
namespace SB
open PySem PySem.SetTable
def iter{α:Type}(f:α->α):Nat->α->α
 | 0,x=>x
 | n+1,x=>iter f n (f x)
theorem Cd{α:Type}(f:α->α):∀(m n:Nat) (x:α),iter f (m+n) x=iter f n (iter f m x)
 | 0,n,x=>by rw[G0];rfl
 | m+1,n,x=>by
  rw[Nat.succ_add];exact Cd f m n (f x)
theorem AAj(f:α->α)(n:Nat)(x:α):iter f (n+1) x=f (iter f n x):=Cd f n 1 x
def Mask(m:Nat):Prop:=m=7\/m=31\/m=127\/m=511
noncomputable def step(M:Nat)(p:JI):JI :=
 if p.more>0 then {p with j:=p.j+1,more:=p.more-1} else
 {p with j:=(leap M p.i p.perturb).1,more:=FF M (leap M p.i p.perturb).1-(leap M p.i p.perturb).1,i:=(leap M p.i p.perturb).1,perturb:=(leap M p.i p.perturb).2}
theorem Ih(t:Da)(p:JI):t.advance p=step t.mask p:=by
 unfold advance step;split<;>rfl
theorem Rk(M i:Nat):FF M i-i<=9:=by
 unfold FF;split<;>lia
structure Fine(M:Nat)(p:JI):Prop where
 more:p.more<=9
 i:p.i<=M
 j:p.j<=M
 jm:p.j+p.more<=M
 dummy:p.dummy=uB
theorem WM(h:i<=M):i+(FF M i-i)<=M:=by
 unfold FF;split<;>lia
theorem Iz(M i p:Nat):(leap M i p).1<=M:=by
 unfold leap;have:=M5 (i*5+1+p / 32) (show 0<M+1 from vZ);exact vx this
theorem Fine.step{M:Nat}{p:JI}(h:Fine M p):Fine M (step M p):=by
 unfold SB.step;by_cases c:p.more>0
 .rw[uD c]
  have:=h.jm;have:=h.more;exact⟨by show p.more-1<=9;exact wN this,h.i,by show p.j+1<=M;lia,by show p.j+1+(p.more-1)<=M;lia,h.dummy⟩
 .rw[uC c]
  exact⟨Rk _ _,Iz _ _ _,Iz _ _ _,WM (Iz _ _ _),h.dummy⟩
theorem Fine.iter{M:Nat}:∀(n:Nat) {p:JI},Fine M p->Fine M (iter (SB.step M) n p)
 | 0,_,h=>h
 | n+1,_,h=>Fine.iter n h.step
theorem Fine.start(t:Da)(h:Int):Fine t.mask (t.probeStart h):=by
 have:=M5 (bits h) (show 0<t.mask+1 from vZ);have hi:bits h%(t.mask+1)<=t.mask:=vx this;exact⟨Rk _ _,hi,hi,WM hi,rfl⟩
theorem Yj{M:Nat}:∀(k:Nat) {p:JI},p.more=k->∃q,SB.iter (step M) (k+1) p=q/\q.i=(leap M p.i p.perturb).1/\q.perturb=(leap M p.i p.perturb).2/\q.j=q.i/\q.more<=9
 | 0,p,e=>by
  refine⟨_,rfl,?_⟩;show(step M p).i=_/\(step M p).perturb=_/\(step M p).j=(step M p).i/\(step M p).more<=9;unfold step;rw[uC (by lia)];exact⟨rfl,rfl,rfl,Rk _ _⟩
 | k+1,p,e=>by
  have hs:step M p={p with j:=p.j+1,more:=p.more-1}:=by unfold step;rw[uD (by lia)]
  obtain⟨q,h1,h2⟩:=Yj (M:=M) k (p:=step M p) (by rw[hs];show p.more-1=k;lia);rw[hs] at h2;exact⟨q,h1,h2⟩
def leaps(M:Nat):Nat->Nat×Nat->Nat×Nat:=SB.iter (λx=>leap M x.1 x.2)
theorem Lz{M:Nat}:∀(k:Nat) {p:JI},p.more<=9->∃m,m<=10*k/\((SB.iter (step M) m p).i,(SB.iter (step M) m p).perturb)=leaps M k (p.i,p.perturb)/\(SB.iter (step M) m p).more<=9/\(0<k->(SB.iter (step M) m p).j=(SB.iter (step M) m p).i)
 | 0,p,h=>⟨0,v8,rfl,h,λz=>uH z vT⟩
 | k+1,p,h=>by
  obtain⟨q,e,q1,q2,q3,q4⟩:=Yj (M:=M) p.more (p:=p) rfl;obtain⟨m,hm,h1,h2,h3⟩:=Lz k q4;refine⟨(p.more+1)+m,by lia,?_,?_,λ_=>?_⟩
  .rw[Cd,e,h1]
   show leaps M k (q.i,q.perturb)=leaps M k (leap M p.i p.perturb);rw[q1,q2]
  .rw[Cd,e];exact h2
  .rw[Cd,e]
   by_cases c:0<k
   .exact h3 c
   .have:k=0:=by lia
    subst this;have:m=0:=by lia
    subst this;exact q3
theorem FW{M:Nat}:∀(k:Nat) (x:Nat×Nat),(leaps M k x).2=x.2 / 32 ^ k
 | 0,x=>by simp[leaps,SB.iter]
 | k+1,x=>by
  show(leaps M k (leap M x.1 x.2)).2=_;rw[FW k];show x.2 / 32 / 32 ^ k=_;rw[Nat.div_div_eq_div_mul,M3,X5]
def lc(n i:Nat):Nat:=(i*5+1)%n
theorem Ik{M:Nat}:∀(k i:Nat),leaps M k (i,0)=(SB.iter (lc (M+1)) k i,0)
 | 0,i=>rfl
 | k+1,i=>by
  show leaps M k (leap M i 0)=_;have:leap M i 0=(lc (M+1) i,0):=by unfold leap lc;simp
  rw[this,Ik k];rfl
theorem cyc8:∀j,j<8->∃k,k<8/\SB.iter (lc 8) k 0=j:=by decide+kernel
theorem cyc32:∀j,j<32->∃k,k<32/\SB.iter (lc 32) k 0=j:=by decide+kernel
theorem cyc128:∀j,j<128->∃k,k<128/\SB.iter (lc 128) k 0=j:=by decide+kernel
noncomputable def iters(f:Nat->Nat):Nat->Nat->uL
 | 0,_=>[]
 | n+1,x=>x::iters f n (f x)
theorem VG(f:Nat->Nat):∀(n x j:Nat),j∈iters f n x->∃k,k<n/\SB.iter f k x=j
 | 0,x,j,h=>by cases h
 | n+1,x,j,h=>by
  rcases BH.mp h with rfl| h
  .exact⟨0,OT _,rfl⟩
  .obtain⟨k,hk,e⟩:=VG f n (f x) j h
   exact⟨k+1,Nat.succ_lt_succ hk,e⟩
theorem all512:((AW 512).all λj=>(iters (lc 512) 512 0).contains j)=true:=by decide+kernel
theorem cyc512:∀j,j<512->∃k,k<512/\SB.iter (lc 512) k 0=j:=λj hj=>VG _ _ _ _ (List.contains_iff_mem.mp (EW.mp all512 j (A8.mpr hj)))
theorem cyc(h:Mask M):(∀j,j<M+1->∃k,k<M+1/\SB.iter (lc (M+1)) k 0=j)/\SB.iter (lc (M+1)) (M+1) 0=0:=by
 rcases h with rfl| rfl| rfl| rfl
 .exact⟨cyc8,by decide+kernel⟩
 .exact⟨cyc32,by decide+kernel⟩
 .exact⟨cyc128,by decide+kernel⟩
 .exact⟨cyc512,by decide+kernel⟩
theorem Xl(h:Mask M)(hi:i<M+1)(hj:j<M+1):∃k,k<M+1/\SB.iter (lc (M+1)) k i=j:=by
 obtain⟨c1,c2⟩:=cyc h;obtain⟨a,ha,ea⟩:=c1 i hi;obtain⟨b,hb,eb⟩:=c1 j hj;by_cases c:a<=b
 .refine⟨b-a,wF hb,?_⟩
  rw[<- ea,<- Cd,show a+(b-a)=b from vy c,eb]
 .refine⟨M+1+b-a,by lia,?_⟩
  rw[<- ea,<- Cd,show a+(M+1+b-a)=(M+1)+b by lia,Cd,c2,eb]
theorem CJ:∀{l₁ l₂:uL},l₁.Nodup->(∀x∈l₁,x∈l₂)->l₁.length<=l₂.length
 | [],_,_,_=>AY _
 | a::t,l₂,nd,hs=>by
  obtain⟨n1,n2⟩:=DC.mp nd;have ha:=hs a AG;have hl:=EN ha;have ih:=CJ (l₂:=l₂.erase a) n2 λx hx=>(G5 (λ(e:x=a)=>n1 (by rw[<- e];exact hx))).mpr (hs x (AK _ hx));have:0<l₂.length:=HU ha;simp;exact xj ih hl this
theorem AFH{place:Array Nat}(h:place.size<=M):∃j,j<M+1/\j∉place.toList:=by
 refine CA λc=>?_;have all:∀j∈AW (M+1),j∈place.toList:=λj hj=>CA λz=>c ⟨j,A8.mp hj,z⟩;have:=CJ HM all;rw[CB,A9] at this;lia
theorem RZ(h:Int):bits h<2 ^ 64:=by
 unfold bits;have h1:=Fa h (show(2 ^ 64:Int)≠0 by decide);have h2:=EG h (show(0:Int)<2 ^ 64 by decide);lia
theorem Mx{M:Nat}:∀(n:Nat) (p:JI),(SB.iter (step M) n p).perturb<=p.perturb
 | 0,_=>AF _
 | n+1,p=>by
  refine BY (Mx n (step M p)) ?_;unfold step;split
  .exact AF _
  .exact Nat.div_le_self _ _
theorem PJ{place:Array Nat}(hM:Mask M)(hs:place.size<=M){p:JI}(hp:Fine M p)(hb:p.perturb<2 ^ 64):∃m,m<10*OL M/\(SB.iter (step M) m p).j∉place.toList:=by
 obtain⟨j,hj,nj⟩:=AFH hs;obtain⟨m1,hm1,e1,k1,_⟩:=Lz (M:=M) 13 (p:=p) hp.more;generalize hq:SB.iter (step M) m1 p=q at *;have fq:Fine M q:=by rw[<- hq];exact hp.iter m1
 have pz:q.perturb=0:=by
  have h2:=congrArg Prod.snd e1;rw[FW] at h2;have h3:q.perturb=p.perturb / 32 ^ 13:=h2;rw[h3];exact UQ (CD hb (by decide))
 obtain⟨k,hk,ek⟩:=Xl hM (i:=lc (M+1) q.i) (j:=j) (M5 _ (X9 _)) hj;obtain⟨m2,hm2,e2,_,k2⟩:=Lz (M:=M) (k+1) (p:=q) fq.more;refine⟨m1+m2,?_,?_⟩
 .unfold OL
  lia
 .rw[Cd,hq,k2 (X9 _)]
  have h1:=congrArg Prod.fst e2;rw[pz,Ik] at h1;have h2:(SB.iter (step M) m2 q).i=SB.iter (lc (M+1)) k (lc (M+1) q.i):=h1;rw[h2,ek];exact nj
theorem Kw{xs:Array Nat}{j:Nat}(so:xs.toList.Pairwise (· < ·)):∀(aI lo hi:Nat),lo<=hi->hi<=xs.size->hi-lo<=aI->(∀k,k<lo->xs.getD k j<j)->(∀k,hi<=k->k<xs.size->j<=xs.getD k j) ->
  (∀k,k<below.go xs j aI lo hi->xs.getD k j<j)/\(∀k,below.go xs j aI lo hi<=k->k<xs.size->j<=xs.getD k j)/\below.go xs j aI lo hi<=xs.size
 | 0,lo,hi,h1,h2,h3,h4,h5=>by
  have:lo=hi:=by lia
  subst this;exact⟨h4,h5,h2⟩
 | aI+1,lo,hi,h1,h2,h3,h4,h5=>by
  unfold below.go;by_cases c:lo<hi
  .rw[uD c]
   have hm:(lo+hi) / 2<xs.size:=by lia
   have so':=CO.mp so;have gd:∀k,k<xs.size->xs.getD k j=xs.toList.getD k j:=λk hk=>by simp[EH,hk]
   by_cases d:xs.getD ((lo+hi) / 2) j<j
   .simp only[uD d]
    refine Kw so aI _ hi (by lia) h2 (by lia) (λk hk=>?_) h5;by_cases e:k=(lo+hi) / 2
    .rw[e];exact d
    .have a6:k<(lo+hi) / 2:=vR hk e
     have z:=so' k ((lo+hi) / 2) (by simpa using(show k<xs.size from uT a6 hm)) (by simpa using hm) a6;have g1:xs.getD k j=xs[k]'(uT a6 hm):=by simp[EH,show k<xs.size from uT a6 hm]
     have g2:xs.getD ((lo+hi) / 2) j=xs[(lo+hi) / 2]'hm:=by simp[EH,hm]
     rw[g2] at d;rw[g1];simp at z;exact uT z d
   .simp only[uC d]
    refine Kw so aI lo _ (by lia) (vX hm) (by lia) h4 (λk hk jS=>?_);by_cases e:k=(lo+hi) / 2
    .rw[e];exact uR d
    .have z:=so' ((lo+hi) / 2) k (by simpa using hm) (by simpa using jS) (by lia)
     have g1:xs.getD k j=xs[k]'jS:=by simp[EH,jS]
     have g2:xs.getD ((lo+hi) / 2) j=xs[(lo+hi) / 2]'hm:=by simp[EH,hm]
     rw[g2] at d;rw[g1];simp at z;lia
  .rw[uC c]
   have:lo=hi:=vG h1 c;subst this;exact⟨h4,h5,h2⟩
theorem Fx{xs:Array Nat}(so:xs.toList.Pairwise (· < ·)):(∀k,k<below xs j->xs.getD k j<j)/\(∀k,below xs j<=k->k<xs.size->j<=xs.getD k j)/\below xs j<=xs.size :=
 Kw so xs.size 0 xs.size (AY _) (AF _) (AF _) (λk hk=>uH hk vj) (λk h1 h2=>uH h2 (vi h1))
theorem below_at{xs:Array Nat}(so:xs.toList.Pairwise (· < ·))(h:j∈xs.toList):xs[below xs j]?=uA j:=by
 obtain⟨b1,b2,b3⟩:=Fx (j:=j) so;obtain⟨k,hk,e⟩:=C1.mp h;have a6:k<xs.size:=by simpa using hk
 have e':xs[k]=j:=by simpa using e
 have g1:xs.getD k j=j:=by simp[EH,a6,e']
 have h1:below xs j<=k:=by
  refine CA λc=>?_;have:=b1 k (v7 c);exact vq this g1
 by_cases c:below xs j=k
 .rw[c,Bi a6,e']
 .have hb:below xs j<xs.size:=ve h1 a6
  have z:=CO.mp so (below xs j) k (by simpa using hb) hk (wj h1 c);have b:=b2 (below xs j) (AF _) hb;have g2:xs.getD (below xs j) j=xs[below xs j]'hb:=by simp[EH,hb]
  rw[g2] at b;simp at z;lia
structure Tab(t:Da):Prop where
 mask:Mask t.mask
 none:t.dummies=#[]
 size:t.place.size<=t.mask
 le:∀j∈t.place.toList,j<=t.mask
 rise:t.place.toList.Pairwise (· < ·)
theorem slot_of{t:Da}(T:Tab t)(j:Nat):(t.slot j=.empty/\j∉t.place.toList)\/∃i,t.slot j=.live i/\t.place[i]?=uA j:=by
 unfold slot;by_cases c:t.place[below t.place j]?=uA j
 .right
  exact⟨below t.place j,by simp[c],c⟩
 .left
  have hd:has t.dummies j=false:=by rw[T.none];unfold has;simp
  refine⟨by simp[c,hd],λh=>c (below_at T.rise h)⟩
def way(t:Da)(p:JI)(m:Nat):Nat:=(SB.iter (step t.mask) m p).j
theorem Uu(t:Da)(p:JI)(m:Nat):way t (step t.mask p) m=way t p (m+1):=rfl
theorem AFi{t:Da}(T:Tab t){hashAt:Nat->Int}{h:Int}:∀(aI:Nat) (p:JI),p.dummy=none->(∃m,m<aI/\way t p m∉t.place.toList) ->
  ∃m,(∀m',m'<m->∃i,t.place[i]?=uA (way t p m')/\hashAt i≠h) /\
   (
    (way t p m∉t.place.toList/\NH t hashAt h aI p=uA (.empty (way t p m) uB)) \/
    ∃i,t.place[i]?=uA (way t p m)/\t.slot (way t p m)=.live i/\hashAt i=h/\NH t hashAt h aI p=uA (.candidate (way t p m) i (SB.iter (step t.mask) (m+1) p)))
 | 0,p,_,⟨m,hm,_⟩=>uH hm vj
 | aI+1,p,hd,⟨m0,hm0,n0⟩=>by
  unfold NH;rcases slot_of T p.j with⟨e,ne⟩| ⟨i,e,pi⟩
  .refine⟨0,λm' h=>uH h vj,.inl ⟨ne,?_⟩⟩
   rw[e];show uA (Met.empty p.j p.dummy)=_;rw[hd];rfl
  .by_cases c:hashAt i=h
   .refine⟨0,λm' h=>uH h vj,.inr ⟨i,pi,e,c,?_⟩⟩
    rw[e];simp only[c,beq_self_eq_true,if_true];rw[Ih];rfl
   .have m1:m0≠0:=λz=>by
     subst z;exact n0 (by rw[F6];exact⟨i,by rw[Cf];exact pi⟩)
    have cz:(step t.mask p).dummy=uB:=by unfold step;split<;>exact hd
    obtain⟨m,h1,h2⟩:=AFi T (hashAt:=hashAt) (h:=h) aI (step t.mask p) cz ⟨m0-1,xO hm0 m1,by rw[Uu,show m0-1+1=m0 by lia];exact n0⟩;have ee:NH t hashAt h (aI+1) p=NH t hashAt h aI (step t.mask p):=by
     show(match t.slot p.j with| .empty=>uA (Met.empty p.j p.dummy)| .dummy=>NH t hashAt h aI (t.advance {p with dummy:=uA p.j})| .live i=>if hashAt i==h then uA (.candidate p.j i (t.advance p)) else NH t hashAt h aI (t.advance p))=_;rw[e];have cb:(hashAt i==h)=false:=by simpa using c
     simp only[cb,B3,if_false];rw[Ih]
    refine⟨m+1,λm' cw=>?_,?_⟩
    .by_cases z:m'=0
     .subst z;exact⟨i,pi,c⟩
     .have:=h1 (m'-1) (by lia)
      rw[Uu,show m'-1+1=m' by lia] at this;exact this
    .rw[e]
     have cb:(hashAt i==h)=false:=by simpa using c
     simp only[cb,B3,if_false,Ih];exact h2
def Loc(t:Da)(hs:uI):Prop:=∀(aS j:Nat) (h:Int),t.place[aS]?=uA j->hs[aS]?=uA h->∃m,way t (t.probeStart h) m=j/\∀m',m'<m->way t (t.probeStart h) m'∈t.place.toList
theorem ACh{t:Da}(T:Tab t){hashAt:Nat->Int}{h:Int}{p:JI}(hp:Fine t.mask p)(hb:p.perturb<2 ^ 64) :
  ∃m,(∀m',m'<m->∃i,t.place[i]?=uA (way t p m')/\hashAt i≠h) /\
   (
    (way t p m∉t.place.toList/\t.probe hashAt h p=uA (.empty (way t p m) uB)) \/
    ∃i,t.place[i]?=uA (way t p m)/\t.slot (way t p m)=.live i/\hashAt i=h/\t.probe hashAt h p=uA (.candidate (way t p m) i (SB.iter (step t.mask) (m+1) p))) :=
 AFi T _ p hp.dummy (PJ T.mask T.size hp hb)
theorem Bc(xs:Array α)(p:Nat)(x:α):(EQ xs p x).toList=xs.toList.take p++[x]++xs.toList.drop p:=by
 unfold EQ;simp;exact P9 (by simp)
structure Put(t:Da)(j:Nat):Prop where
 le:j<=t.mask
 new:j∉t.place.toList
 room:t.place.size+1<=t.mask
theorem Js{t:Da}(T:Tab t):(t.put j).1={t with place:=EQ t.place (below t.place j) j}/\(t.put j).2=below t.place j:=by
 unfold put;have hd:has t.dummies j=false:=by rw[T.none];unfold has;simp
 simp[hd]
theorem ADy{t:Da}(T:Tab t)(P:Put t j):Tab (t.put j).1:=by
 obtain⟨e,_⟩:=Js T (j:=j);obtain⟨b1,b2,b3⟩:=Fx (j:=j) T.rise;rw[e];refine⟨T.mask,T.none,?_,λk hk=>?_,?_⟩
 .show(EQ t.place (below t.place j) j).size<=t.mask
  have:=congrArg Fu (Bc t.place (below t.place j) j);simp at this;have:=P.room;lia
 .have a6:=hk
  rw[Bc] at a6;rcases Ct.mp a6 with a6| a6
  .rcases Ct.mp a6 with a6| a6
   .exact T.le k (M6 a6)
   .rw[BG.mp a6];exact P.le
  .exact T.le k (RH a6)
 .rw[Bc]
  have so:=T.rise;have get:∀k (hk:k<t.place.size),t.place.getD k j=t.place.toList[k]'(by simpa using hk):=λk hk=>by simp[EH,hk]
  refine C8.mpr ⟨C8.mpr ⟨so.sublist (Kk _ _),JS _ _,λa ha b hb=>?_⟩,so.sublist (IF _ _),λa ha b hb=>?_⟩
  .rw[BG.mp hb]
   obtain⟨k,hk,rfl⟩:=C1.mp ha;rw[B0] at hk;have jS:k<t.place.size:=by simp at hk;exact xF hk
   have:=b1 k (v9 hk);rw[get k jS] at this;rw[Kt];exact this
  .obtain⟨k,hk,rfl⟩:=C1.mp hb
   rw[K5] at hk;have jS:below t.place j+k<t.place.size:=by simp at hk;lia
   rw[OE];have z:=b2 (below t.place j+k) u9 jS;rw[get _ jS] at z;have ne:t.place.toList[below t.place j+k]'(by simpa using jS)≠j:=λe=>P.new (e ▸ Fn _);rcases Ct.mp ha with ha| ha
   .obtain⟨i,hi,rfl⟩:=C1.mp ha
    rw[B0] at hi;rw[Kt];exact CO.mp so i (below t.place j+k) (xF hi) (by simpa using jS) (by lia)
   .rw[BG.mp ha]
    lia
theorem AEX{t:Da}(T:Tab t)(hl:hs.length=t.place.size)(L:Loc t hs){h:Int}(hm:∀m',m'<m->way t (t.probeStart h) m'∈t.place.toList) :
  Loc (t.put (way t (t.probeStart h) m)).1 (hs.take (t.put (way t (t.probeStart h) m)).2++[h]++hs.drop (t.put (way t (t.probeStart h) m)).2):=by
 generalize hj:way t (t.probeStart h) m=j;obtain⟨e,e2⟩:=Js T (j:=j);obtain⟨_,_,b3⟩:=Fx (j:=j) T.rise;rw[e,e2];generalize hp:below t.place j=p at *;have mem:∀k,k∈t.place.toList->k∈(EQ t.place p j).toList:=λk hk=>by
  rw[Bc];rw[<- F8 p t.place.toList] at hk;rcases Ct.mp hk with hk| hk
  .exact EV _ (EV _ hk)
  .exact CH _ hk
 have memj:j∈(EQ t.place p j).toList:=by
  rw[Bc];exact EV _ (CH _ (BG.mpr rfl))
 intro aS k h' hk hh;have a6:(EQ t.place p j).toList[aS]?=uA k:=by simpa using hk
 rw[Bc] at a6;have wy:∀(q:JI) m,way {t with place:=EQ t.place p j} q m=way t q m:=λ_ _=>rfl;have ps:∀h,({t with place:=EQ t.place p j}:Da).probeStart h=t.probeStart h:=λ_=>rfl;have lt:(t.place.toList.take p).length=p:=by rw[B0,A9];lia
 have lh:(hs.take p).length=p:=by rw[B0];lia
 rw[CU] at a6 hh;have b6:∀i,t.place.toList[i]?=uA k->hs[i]?=uA h'->∃m,way {t with place:=EQ t.place p j} (({t with place:=EQ t.place p j}:Da).probeStart h') m=k/\∀m',m'<m->way {t with place:=EQ t.place p j} (({t with place:=EQ t.place p j}:Da).probeStart h') m'∈({t with place:=EQ t.place p j}:Da).place.toList:=λi a b=>by
  obtain⟨m,x,y⟩:=L i k h' (by rw[<- Cf];exact a) b;exact⟨m,x,λm' cw=>mem _ (y m' cw)⟩
 by_cases c:aS<p
 .rw[By (by lia),G3 c] at a6 hh
  exact b6 aS a6 hh
 .rw[CF (by lia)] at a6 hh
  rw[lt] at a6;rw[lh] at hh;by_cases d:aS=p
  .subst d
   simp at a6 hh;subst a6 hh;exact⟨m,hj,λm' cw=>mem _ (hm m' cw)⟩
  .rw[CF (by simp;lia)] at a6 hh
   simp only[Eg,S4] at a6 hh;rw[show p+(aS-p-1)=aS-1 by lia] at a6 hh;exact b6 (aS-1) a6 hh
def CP(M i perturb:Nat):JI:={j:=i,more:=FF M i-i,i:=i,perturb:=perturb,dummy:=uB}
theorem Lq{M:Nat}:∀(m:Nat) (p:JI),m<=p.more->SB.iter (step M) m p={p with j:=p.j+m,more:=p.more-m}
 | 0,p,_=>by cases p;rfl
 | m+1,p,h=>by
  have hs:step M p={p with j:=p.j+1,more:=p.more-1}:=by unfold step;rw[uD (by lia)]
  show SB.iter (step M) m (step M p)=_;rw[Lq m (step M p) (by rw[hs];show m<=p.more-1;lia),hs];rw[show p.j+1+m=p.j+(m+1) from vA,show p.more-1-m=p.more-(m+1) by lia]
theorem Xc{pe:Nat}:SB.iter (step M) (FF M i-i+1) (CP M i pe)=CP M (leap M i pe).1 (leap M i pe).2:=by
 rw[AAj,Lq (FF M i-i) (CP M i pe) (AF _)];unfold step;rw[uC (by show ¬ (FF M i-i-(FF M i-i)>0);lia)];rfl
theorem AAv(M i:Nat):i<=FF M i:=by
 unfold FF;split<;>lia
def wayM(M:Nat)(p:JI)(m:Nat):Nat:=(SB.iter (step M) m p).j
theorem ZC{M:Nat}{owner:Array uX}:∀(aI i pe:Nat),i<=M->(∃k,k<aI/\owner.getD (leaps M k (i,pe)).1 (uA 0)=uB) ->
  ∃m,K9 M owner aI i pe=uA (wayM M (CP M i pe) m)/\owner.getD (wayM M (CP M i pe) m) (uA 0)=uB/\∀m',m'<m->(owner.getD (wayM M (CP M i pe) m') (uA 0)).isSome=true
 | 0,i,pe,_,⟨k,hk,_⟩=>uH hk vj
 | aI+1,i,pe,hi,⟨k,hk,nk⟩=>by
  have ge:=AAv M i;have wy:∀m,m<=FF M i-i->wayM M (CP M i pe) m=i+m:=λm hm=>by
   unfold wayM;rw[Lq m (CP M i pe) hm];rfl
  unfold K9;cases hf:(AW (FF M i+1-i)).find? λk=>(owner.getD (i+k) (uA 0)).isNone with
  | some k' =>
   have h1:=List.find?_some hf;have h2:=A8.mp (List.mem_of_find?_eq_some hf);refine⟨k',?_,?_,λm' cw=>?_⟩
   .rw[wy k' (wO h2)]
   .rw[wy k' (wO h2)]
    simpa using h1
   .rw[wy m' (by lia)]
    obtain⟨_,as,bs,e,hb⟩:=List.find?_eq_some_iff_append.mp hf;have hl:as.length=k':=by
     have:(AW (FF M i+1-i))[as.length]?=uA k':=by rw[e];simp
     rw[E7 (by have:=congrArg Fu e;simp at this;lia)] at this;exact AN this
    have hm:m'∈as:=by
     have:(AW (FF M i+1-i))[m']?=uA m':=E7 (uT cw h2);rw[e,By (dl cw hl)] at this;exact AX this
    have:=hb m' hm;simpa [OM] using this
  | none =>
   have hn:=List.find?_eq_none.mp hf;have all:∀m,m<=FF M i-i->(owner.getD (i+m) (uA 0)).isSome=true:=λm hm=>by
    have:=hn m (A8.mpr (by lia));simpa [OM] using this
   have k0:k≠0:=λz=>by
    subst z;have:=all 0 (AY _);have nk':owner.getD i (uA 0)=uB:=nk;rw[M4,nk'] at this;cases this
   obtain⟨m,h1,h2,h3⟩:=ZC aI (leap M i pe).1 (leap M i pe).2 (Iz _ _ _) ⟨k-1,xO hk k0,by
    have e:leaps M k (i,pe)=leaps M (k-1) (leap M i pe):=by
     obtain⟨k',rfl⟩:∃k',k=k'+1:=⟨k-1,by lia⟩;rfl
    rw[e] at nk;exact nk⟩
   have sh:∀m,wayM M (CP M (leap M i pe).1 (leap M i pe).2) m=wayM M (CP M i pe) (FF M i-i+1+m):=λm=>by
    unfold wayM;rw[Cd,Xc]
   rw[sh] at h1 h2;refine⟨FF M i-i+1+m,h1,h2,λm' cw=>?_⟩;by_cases c:m'<=FF M i-i
   .rw[wy m' c]
    exact all m' c
   .have:=h3 (m'-(FF M i-i+1)) (by lia)
    rw[sh,show FF M i-i+1+(m'-(FF M i-i+1))=m' by lia] at this;exact this
structure Own(M:Nat)(owner:Array uX)(hs:uI):Prop where
 size:owner.size=M+1
 has:∀aS,aS<hs.length->∃j:Nat,owner[j]?=uA (uA aS)
 at_:∀(j aS:Nat),owner[j]?=uA (uA aS)->aS<hs.length/\∃m,wayM M (CP M (bits (hs.getD aS 0)%(M+1)) (bits (hs.getD aS 0))) m=j/\∀m',m'<m->(owner.getD (wayM M (CP M (bits (hs.getD aS 0)%(M+1)) (bits (hs.getD aS 0))) m') (uA 0)).isSome=true
 one:∀(j j' aS:Nat),owner[j]?=uA (uA aS)->owner[j']?=uA (uA aS)->j=j'
theorem Own.start(M:Nat):Own M (U8 (M+1) uB) []:=by
 have no:∀(j aS:Nat),¬ (U8 (M+1) (uB:uX))[j]?=uA (uA aS):=λj aS e=>by
  rw[Array.getElem?_replicate] at e;split at e<;>cases e
 exact⟨Array.size_replicate ..,λaS h=>uH h (by simp),λj aS e=>uH e (no j aS),λj _ aS e=>uH e (no j aS)⟩
theorem Own.free(O:Own M owner hs)(h:hs.length<=M):∃j,j<M+1/\owner.getD j (uA 0)=uB:=by
 refine CA λc=>?_;have all:∀j,j<M+1->∃aS,owner[j]?=uA (uA aS):=λj hj=>by
  have bu:j<owner.size:=by rw[O.size];exact hj
  cases e:owner[j] with
  | none=>exact uH ⟨j,hj,by simp[EH,bu,e]⟩ c
  | some aS=>exact⟨aS,by rw[Bi bu,e]⟩
 have key:∀n,n<=M+1->∃l:uL,l.length=n/\l.Nodup/\∀x∈l,∃j,j<n/\owner[j]?=uA (uA x):=by
  intro n
  induction n with
  | zero=>exact λ_=>⟨[],rfl,KP,λx hx=>by cases hx⟩
  | succ n ih =>
   intro hn;obtain⟨l,l1,l2,l3⟩:=ih (vc hn);obtain⟨aS,e⟩:=all n (wS hn);refine⟨aS::l,by simp[l1],DC.mpr ⟨λhm=>?_,l2⟩,λx hx=>?_⟩
   .obtain⟨j,hj,ej⟩:=l3 aS hm
    have:=O.one _ _ _ ej e;exact vq hj this
   .rcases BH.mp hx with rfl| hx
    .exact⟨n,vE,e⟩
    .obtain⟨j,hj,ej⟩:=l3 x hx
     exact⟨j,vb hj,ej⟩
 obtain⟨l,l1,l2,l3⟩:=key (M+1) (AF _);have:=CJ (l₂:=AW hs.length) l2 λx hx=>by
  obtain⟨j,_,ej⟩:=l3 x hx;exact A8.mpr (O.at_ j x ej).1
 rw[CB] at this;lia
theorem VL{M:Nat}:∀(k:Nat) (x:Nat×Nat),x.1<=M->(leaps M k x).1<=M
 | 0,x,h=>h
 | k+1,x,h=>VL k (leap M x.1 x.2) (Iz _ _ _)
theorem AAi(a b:Nat)(x:Nat×Nat):leaps M (a+b) x=leaps M b (leaps M a x):=Cd _ a b x
theorem Own.next(hM:Mask M)(O:Own M owner hs)(hl:hs.length<=M)(h:Int) :
  ∃j,K9 M owner (OL M) (bits h%(M+1)) (bits h)=uA j/\Own M (owner.setIfInBounds j (uA hs.length)) (hs++[h]):=by
 obtain⟨f,hf,nf⟩:=O.free hl;have hi:bits h%(M+1)<=M:=by
  have:=M5 (bits h) (show 0<M+1 from vZ);exact vx this
 have reach:∃k,k<OL M/\owner.getD (leaps M k (bits h%(M+1),bits h)).1 (uA 0)=uB:=by
  have p13:(leaps M 13 (bits h%(M+1),bits h)).2=0:=by
   rw[FW];exact UQ (CD (RZ h) (by decide))
  have i13:=VL (M:=M) 13 (bits h%(M+1),bits h) hi;obtain⟨k,hk,ek⟩:=Xl hM (i:=(leaps M 13 (bits h%(M+1),bits h)).1) (j:=f) (wM i13) hf;refine⟨13+k,by unfold OL;lia,?_⟩;have e:leaps M 13 (bits h%(M+1),bits h)=((leaps M 13 (bits h%(M+1),bits h)).1,0):=RF rfl p13;rw[AAi,e,Ik,ek];exact nf
 obtain⟨m,h1,h2,h3⟩:=ZC (M:=M) (owner:=owner) (OL M) _ (bits h) hi reach;refine⟨_,h1,?_⟩;generalize hj:wayM M (CP M (bits h%(M+1)) (bits h)) m=j at h2;have hjs:j<owner.size:=by
  refine CA λc=>?_;have:owner.getD j (uA 0)=uA 0:=by simp[EH,c]
  rw[this] at h2;cases h2
 have hjn:owner[j]?=uA uB:=by
  rw[Bi hjs];simp[EH,hjs] at h2;rw[h2]
 have get:∀k,(owner.setIfInBounds j (uA hs.length))[k]?=if k=j then uA (uA hs.length) else owner[k]?:=λk=>by
  rw[Array.getElem?_setIfInBounds];by_cases c:j=k
  .subst c
   simp[hjs]
  .rw[uC c,uC (Cb c)]
 have some_of:∀k,(owner.getD k (uA 0)).isSome=true->((owner.setIfInBounds j (uA hs.length)).getD k (uA 0)).isSome=true:=λk hk=>by
  rw[HZ,get];split
  .rfl
  .rw[HZ] at hk
   exact hk
 have gd:∀aS,aS<hs.length->(hs++[h]).getD aS 0=hs.getD aS 0:=λaS hi=>by
  rw[AD,AD,By hi]
 have gl:(hs++[h]).getD hs.length 0=h:=by rw[AD];simp
 refine⟨by rw[Jn];exact O.size,λaS hi=>?_,λk aS e=>?_,λk k' aS e e'=>?_⟩
 .by_cases c:aS<hs.length
  .obtain⟨k,ek⟩:=O.has aS c
   refine⟨k,?_⟩;rw[get,uC (λz=>by rw[z,hjn] at ek;cases ek)];exact ek
  .have:aS=hs.length:=by simp at hi;lia
   exact⟨j,by rw[get,uD rfl,this]⟩
 .rw[get] at e
  by_cases c:k=j
  .rw[uD c] at e
   have:hs.length=aS:=by simpa using e
   subst this;refine⟨by simp,m,?_,λm' cw=>?_⟩
   .rw[gl,hj,c]
   .rw[gl]
    exact some_of _ (h3 m' cw)
  .rw[uC c] at e
   obtain⟨i1,m1,w1,w2⟩:=O.at_ k aS e;refine⟨by simp;lia,m1,?_,λm' cw=>?_⟩
   .rw[gd aS i1];exact w1
   .rw[gd aS i1];exact some_of _ (w2 m' cw)
 .rw[get] at e e'
  by_cases c:k=j
  .by_cases c':k'=j
   .rw[c,c']
   .rw[uD c] at e
    rw[uC c'] at e';have:hs.length=aS:=by simpa using e
    have:=(O.at_ k' aS e').1;lia
  .by_cases c':k'=j
   .rw[uC c] at e
    rw[uD c'] at e';have:hs.length=aS:=by simpa using e'
    have:=(O.at_ k aS e).1;lia
   .rw[uC c] at e
    rw[uC c'] at e';exact O.one _ _ _ e e'
set_option tactic.hygienic true in
theorem ADd(hM:Mask M)(h:hashes.size<=M):∃owner,layClean M hashes=uA owner/\Own M owner hashes.toList:=by
 unfold layClean;rw[<- Array.foldl_toList];have key:∀(l done:uI) (owner:Array uX),Own M owner done->done.length+l.length<=M ->
   ∃cf,(l.foldl (λacc h=>do
    let (owner,k) <- acc
    let j <- K9 M owner (OL M) (bits h%(M+1)) (bits h)
    pure (owner.setIfInBounds j (uA k),k+1)) (uA (owner,done.length)))=uA (cf,done.length+l.length)/\Own M cf (done++l):=by
  intro l
  induction l with
  | nil=>exact λdone owner O _=>⟨owner,rfl,by rw[Co];exact O⟩
  | cons a t ih =>
   intro done owner O hl;simp at hl;obtain⟨j,ej,O'⟩:=O.next hM (vc hl) a
   obtain⟨cf,e,O''⟩:=ih (done++[a]) _ O' (by simp;lia);refine⟨cf,?_,by simpa using O''⟩;rw[MV];have:(do
    let (owner,k) <- uA (owner,done.length)
    let j <- K9 M owner (OL M) (bits a%(M+1)) (bits a)
    pure (owner.setIfInBounds j (uA k),k+1))=uA (owner.setIfInBounds j (uA done.length),done.length+1):=by
    show(do
     let j <- K9 M owner (OL M) (bits a%(M+1)) (bits a)
     pure (owner.setIfInBounds j (uA done.length),done.length+1))=_
    rw[ej];rfl
   rw[this];rw[show(done++[a]).length=done.length+1 by simp] at e;rw[e];simp;exact vA
 obtain⟨cf,e,O⟩:=key hashes.toList [] _ (Own.start M) (by simpa using h);refine⟨cf,?_,by simpa using O⟩;have e':=congrArg (Option.map Prod.fst) e;exact e'
def pairs(owner:Array uX)(l:uL):List (Nat×Nat):=l.filterMap λj=>(owner.getD j uB).map (j,·)
theorem Jb{l:uL}{aS:Nat}:(j,aS)∈pairs owner l↔j∈l/\owner.getD j uB=uA aS:=by
 unfold pairs;rw[NR];constructor
 .rintro⟨k,hk,e⟩
  cases o:owner.getD k uB with
  | none=>rw[o] at e;cases e
  | some x =>
   rw[o] at e;have e':=AN e;cases e';exact⟨hk,o⟩
 .rintro⟨hj,e⟩
  exact⟨j,hj,by rw[e];rfl⟩
theorem Ky{owner:Array uX}:∀{l:uL},l.Pairwise (· < ·)->((pairs owner l).map (·.1)).Pairwise (· < ·)
 | [],_=>.nil
 | a::t,h=>by
  obtain⟨h1,h2⟩:=Dx.mp h;have ih:=Ky (owner:=owner) h2;unfold pairs;rw[JE];cases o:owner.getD a uB with
  | none=>exact ih
  | some x =>
   show((a,x)::pairs owner t|>.map (·.1)).Pairwise (· < ·);rw[B4];refine Dx.mpr ⟨λb hb=>?_,ih⟩;obtain⟨⟨b',i⟩,hm,rfl⟩:=A1.mp hb;exact h1 b' (Jb.mp hm).1
theorem Gh:∀{l₁ l₂:uL},l₁.Nodup->(∀x∈l₁,x∈l₂)->l₂.length<=l₁.length->l₁.Perm l₂
 | [],l₂,_,_,h=>by
  have:l₂=[]:=Cs.mp (by simpa using h);rw[this]
 | a::t,l₂,nd,hs,h=>by
  obtain⟨n1,n2⟩:=DC.mp nd;have ha:=hs a AG;have hp:=IM ha;have hl:=EN ha;have ih:=Gh (l₂:=l₂.erase a) n2 (λx hx=>(G5 (λ(e:x=a)=>n1 (by rw[<- e];exact hx))).mpr (hs x (AK _ hx))) (by simp at h;exact xG hl h);exact(QR a ih).trans hp.symm
theorem AEk(hM:Mask M)(h:hashes.size<=M)(finger moves:Nat)(led plain:Bool) :
  ∃(place aT:Array Nat),laid M finger moves led plain hashes=uA ({mask:=M,place:=place,dummies:=#[],finger:=finger,led:=led,moves:=moves,plain:=plain},aT) /\
   Tab {mask:=M,place:=place,dummies:=#[],finger:=finger,led:=led,moves:=moves,plain:=plain}/\place.size=hashes.size/\aT.toList.Perm (AW hashes.size) /\
   Loc {mask:=M,place:=place,dummies:=#[],finger:=finger,led:=led,moves:=moves,plain:=plain} (aT.toList.map λi=>hashes.toList.getD i 0):=by
 obtain⟨owner,e,O⟩:=ADd hM h;have gd:∀j aS,owner.getD j uB=uA aS↔owner[j]?=uA (uA aS):=λj aS=>by
  rw[HZ];cases o:owner[j]? with
  | none=>simp
  | some x=>simp
 have rl:=P6 (n:=M+1);have rise:=Ky (owner:=owner) rl;have mem:∀j aS,(j,aS)∈pairs owner (AW (M+1))↔owner[j]?=uA (uA aS):=λj aS=>by
  rw[Jb,gd];refine⟨λz=>z.2,λz=>⟨A8.mpr ?_,z⟩⟩;have:=(C7.mp z).1;rw[O.size] at this;exact this
 have nd:((pairs owner (AW (M+1))).map (·.2)).Nodup:=by
  have r:=CY.mp rise;refine CY.mpr (r.imp_of_mem λ{a b} ha hb lt z=>?_);obtain⟨a1,a2⟩:=a;obtain⟨b1,b2⟩:=b;have z':=z;subst z';have:=O.one _ _ _ ((mem a1 a2).mp ha) ((mem b1 a2).mp hb);simp at lt;exact vq lt this
 have sub:∀x∈(pairs owner (AW (M+1))).map (·.2),x∈AW hashes.size:=λx hx=>by
  obtain⟨⟨j,i⟩,hm,rfl⟩:=A1.mp hx;have:=(O.at_ j i ((mem j i).mp hm)).1;exact A8.mpr (by simpa using this)
 have sup:∀x∈AW hashes.size,x∈(pairs owner (AW (M+1))).map (·.2):=λx hx=>by
  obtain⟨j,ej⟩:=O.has x (by simpa using hx);exact A1.mpr ⟨(j,x),(mem j x).mpr ej,rfl⟩
 have l1:=CJ HM sup;have l2:=CJ nd sub;rw[CB] at l1 l2;have perm:=Gh nd sub (by rw[CB];exact l1);have ll:(pairs owner (AW (M+1))).length=hashes.size:=by
  rw[AB] at l1 l2;exact xH l2 l1
 refine⟨((pairs owner (AW (M+1))).map (·.1)).toArray,((pairs owner (AW (M+1))).map (·.2)).toArray,?_,?_,?_,?_,?_⟩
 .unfold laid
  rw[e];rfl
 .refine⟨hM,rfl,?_,λj hj=>?_,?_⟩
  .rw[AT,AB,ll]
   exact h
  .have bu:=hj
   obtain⟨⟨k,i⟩,hm,rfl⟩:=A1.mp bu;have:=A8.mp (Jb.mp hm).1;show k<=M;exact vx this
  .exact rise
 .rw[AT,AB,ll]
 .exact perm
 .intro aS j hh hj hh'
  have bu:((pairs owner (AW (M+1))).map (·.1))[aS]?=uA j:=by simpa using hj
  have hh2:=hh';rw[AS] at bu;rw[AS,AS] at hh2;cases o:(pairs owner (AW (M+1)))[aS]? with
  | none=>rw[o] at bu;cases bu
  | some x =>
   obtain⟨k,i⟩:=x;rw[o] at bu hh2;have ek:=AN bu;have ei:hashes.toList.getD i 0=hh:=AN hh2;subst ek;obtain⟨_,m,w1,w2⟩:=O.at_ k i ((mem k i).mp (AX o));rw[ei] at w1 w2;refine⟨m,w1,λm' cw=>?_⟩;have z:=w2 m' cw;have hb:bits hh%(M+1)<=M:=by
    have:=M5 (bits hh) (show 0<M+1 from vZ);exact vx this
   have fo:Fine M (CP M (bits hh%(M+1)) (bits hh)):=⟨Rk _ _,hb,hb,WM hb,rfl⟩;have wl:wayM M (CP M (bits hh%(M+1)) (bits hh)) m'<=M:=(fo.iter m').j;show wayM M (CP M (bits hh%(M+1)) (bits hh)) m'∈(pairs owner (AW (M+1))).map (·.1);generalize wayM M (CP M (bits hh%(M+1)) (bits hh)) m'=wv at z wl;have hw:wv<owner.size:=by rw[O.size];exact wM wl
   cases q:owner[wv] with
   | none =>
    have:owner.getD wv (uA 0)=uB:=by simp[EH,hw,q]
    rw[this] at z;cases z
   | some i'=>exact A1.mpr ⟨(wv,i'),(mem wv i').mpr (by rw[Bi hw,q]),rfl⟩
abbrev IK(prog:AL)(w:AQ)(h:Heap)(ks:uI)(a:Addr):Prop:=U6 (LN prog w) h ks a
abbrev hsh(prog:AL)(w:AQ)(ks:uI):Int:=M1 (LN prog w) ks
theorem QW{ks:uI}(h:ItemsAre (LN prog w) ks vs):∀v∈vs,∃n t,v=.int n t:=by
 induction h with
 | nil=>intro v hv;cases hv
 | cons h1 _ ih =>
  intro v hv;rcases BH.mp hv with rfl| hv
  .obtain⟨t,e⟩:=Hb h1
   exact⟨_,t,e⟩
  .exact ih v hv
theorem AFP{ks:uI}{Q:uN}(hk:IK prog w s.heap ks a)(h:Q true s):wpAny (AM prog w) A (hashByValue 8 (.ref a)) Q E s:=by
 have hT:=hk.typeIs;obtain⟨o,items,n,ho,_,hd,hi⟩:=hk;have qB:=QW hi;unfold hashByValue;refine Au (Iy hT F.slot_tuple_hash.lookup ?_);refine Au (KI ho hd ?_);refine Au ?_;rw[<- J5];refine FY _ (λar r s'=>r.1=uB/\s'=s/\∀v∈ar,∃n t,v=NM n t) _ ?_ ?_ _ _ ⟨rfl,rfl,qB⟩
 .rintro v ar r s' ⟨hr,rfl,bp⟩
  obtain⟨n,t,rfl⟩:=bp v AG;refine Au (AC ?_);exact AC ⟨rfl,rfl,λu lw=>bp u (AK _ lw)⟩
 .rintro⟨r1,r2⟩ s' ⟨hr,rfl,_⟩
  simp only at hr;subst hr;exact AC h
theorem VF{ks:uI}{Q:uN}(hk:IK prog w s.heap ks a)(h:Q false s):wpAny (AM prog w) A (TC 8 (.ref a)) Q E s:=by
 have hT:=hk.typeIs;obtain⟨o,items,n,ho,_,hd,hi⟩:=hk;have qB:=QW hi;unfold TC;refine Au (MW hT ?_);show wpAny _ _ ((if("tuple" == "tuple")=true then pure true else isSubtype (.type "tuple") (.type "tuple")) >>= _) _ _ s;rw[uD (by decide)];refine Au (AC ?_);refine Au (KI ho hd ?_);refine Au ?_;rw[<- J5];refine FY _ (λar r s'=>r.1=uB/\s'=s/\∀v∈ar,∃n t,v=NM n t) _ ?_ ?_ _ _ ⟨rfl,rfl,qB⟩
 .rintro v ar r s' ⟨hr,rfl,bp⟩
  obtain⟨n,t,rfl⟩:=bp v AG;refine Au (AC ?_);exact AC ⟨rfl,rfl,λu lw=>bp u (AK _ lw)⟩
 .rintro⟨r1,r2⟩ s' ⟨hr,rfl,_⟩
  simp only at hr;subst hr;exact AC h
theorem ACt{ks:uI}{Q:uN}(hk:IK prog w s.heap ks a)(stored:List As)(dk:∀v∈stored,∃k b,v=.ref b/\IK prog w s.heap k b)(h:Q false s):wpAny (AM prog w) A (TD (.ref a) stored) Q E s:=by
 unfold TD;refine Au ?_;refine FY _ (λar r s'=>r.1=uB/\s'=s/\∀v∈ar,∃k b,v=A7 b/\IK prog w s.heap k b) _ ?_ ?_ _ _ ⟨rfl,rfl,dk⟩
 .rintro v ar r s' ⟨hr,rfl,bp⟩
  have tl:∀u∈ar,∃k b,u=A7 b/\IK prog w s'.heap k b:=λu lw=>bp u (AK _ lw);obtain⟨k,b,rfl,hb⟩:=bp v AG;dsimp only;by_cases c:(a==b)=true
  .rw[uD (by rw[c];rfl)]
   exact AC ⟨rfl,rfl,tl⟩
  .rw[uC (by simp[c,V9])]
   refine Au (QU hk ?_);simp only[FX,B3,if_false];refine Au (QU hb ?_);simp only[FX,B3,if_false];refine Au (VF hk ?_);simp only[B3,if_false];refine Au (VF hb ?_);simp only[B3,if_false];exact AC ⟨rfl,rfl,tl⟩
 .rintro⟨r1,r2⟩ s' ⟨hr,rfl,_⟩
  simp only at hr;subst hr;exact AC h
theorem Vr{P:Nat->Prop}:∀(m:Nat),P m->∃n,P n/\∀n',n'<n->¬ P n':=by
 intro m
 induction m using Nat.strongRecOn with
 | ind m ih =>
  intro h;by_cases c:∃n,n<m/\P n
  .obtain⟨n,hn,hp⟩:=c
   exact ih n hn hp
  .exact⟨m,h,λn' rL hp=>c ⟨n',rL,hp⟩⟩
def ledOf(w:AQ):Bool:=!w.params.followText "set-order"
structure TS(prog:AL)(w:AQ)(h:Heap)(S:Addr)(es:Array (Int×As))(t:Da)(ks:List (uI×Addr)):Prop where
 obj:∃o ep,h.get? S=uA o/\o.ExactSet/\o.data=.set es ep t
 tab:Tab t
 len:es.size=t.place.size
 loc:Loc t (es.toList.map (·.1))
 els:es.toList=ks.map λx=>(hsh prog w x.1,A7 x.2)
 nd:(ks.map (·.1)).Nodup
 few:t.place.size*5<t.mask*3
 pl:t.plain=true
 ld:t.led=ledOf w
theorem Yu{t:Da}(T:Tab t):t.fill=t.place.size:=by unfold fill;rw[T.none];rfl
theorem Hl{t:Da}(T:Tab t)(e:n=t.place.size):t.fits n=true:=by
 unfold SetTable.fits;rw[Yu T,e];have:=T.size;simp[this]
section
variable{es:Array (Int×As)}{t:Da}
theorem TS.at_(X:TS prog w h S es t ks)(hi:t.place[i]?=uA j):∃x,ks[i]?=uA x/\es[i]?=uA (hsh prog w x.1,A7 x.2):=by
 have hl:=(C7.mp hi).1;have hle:i<es.toList.length:=by rw[A9,X.len];exact hl
 cases o:ks[i]? with
 | none =>
  have l2:=congrArg Fu X.els;rw[AB] at l2;have:=List.getElem?_eq_none_iff.mp o;lia
 | some x =>
  refine⟨x,rfl,?_⟩;rw[<- Cf,X.els,AS,o];rfl
theorem PK{t:Da}(T:Tab t)(h:t.place[i]?=uA j)(h':t.place[i']?=uA j):i=i':=by
 obtain⟨a,ea⟩:=C7.mp h;obtain⟨b,eb⟩:=C7.mp h';have r:=CO.mp T.rise;rcases OC i i' with c| c| c
 .have:=r i i' (by simpa using a) (by simpa using b) c
  simp at this;exact xK this ea eb
 .exact c
 .have:=r i' i (by simpa using b) (by simpa using a) c
  simp at this;exact xK this eb ea
set_option tactic.hygienic true in
theorem AAd{k:uI}(X:TS prog w s.heap S es t ks)(hK:∀x∈ks,IK prog w s.heap x.1 x.2)(hk:IK prog w s.heap k a)(hu:A.units<C0){N:Nat}
  (hN:way t (t.probeStart (hsh prog w k)) N∉t.place.toList) (hB:∀m,m<N->way t (t.probeStart (hsh prog w k)) m∈t.place.toList) {Q:SetFound->AA->Prop}
  (h1:k∈ks.map (·.1)->Q (.there uB) s) (h2:k∉ks.map (·.1)->Q (.free (way t (t.probeStart (hsh prog w k)) N) false) s) :
  ∀(aI c:Nat) (fc:Option JI),c<=N->N-c<aI->fc.getD (t.probeStart (hsh prog w k))=SB.iter (step t.mask) c (t.probeStart (hsh prog w k)) ->
   (∀m,m<c->∀(i:Nat) (x:uI×Addr),t.place[i]?=uA (way t (t.probeStart (hsh prog w k)) m)->ks[i]?=uA x->x.1≠k) ->
   wpAny (AM prog w) A (N9 S (.ref a) (hsh prog w k) true aI fc) Q E s:=by
 obtain⟨o,ep,ho,du,hd⟩:=X.obj;have hf:=Hl X.tab X.len;intro aI
 induction aI with
 | zero=>intro c fc _ h;lia
 | succ aI ih =>
  intro c fc hc hfu dk hV;unfold N9;refine Au (FH ho hd hf ?_);dsimp only;have hg:t.gaveWay=false:=by
   unfold SetTable.gaveWay;rcases X.tab.mask with e| e| e| e<;>rw[e]<;>decide
  rw[hg];simp only[B3,if_false];have fo:Fine t.mask (SB.iter (step t.mask) c (t.probeStart (hsh prog w k))):=(Fine.start t _).iter c;have hb:(SB.iter (step t.mask) c (t.probeStart (hsh prog w k))).perturb<2 ^ 64:=EB (Mx c _) (RZ _);obtain⟨m,hm,nw⟩:=ACh X.tab (hashAt:=λi=>(es[i]?.map (·.1)).getD 0) (h:=hsh prog w k) fo hb;have wy:∀m,way t (SB.iter (step t.mask) c (t.probeStart (hsh prog w k))) m=way t (t.probeStart (hsh prog w k)) (c+m):=λm=>by
   unfold way;rw[Cd]
  have kD:∀{i j:Nat},t.place[i]?=uA j->j∈t.place.toList:=λ{i j} e=>by
   rw[F6];exact⟨i,by rw[Cf];exact e⟩
  have hV':∀m',m'<c+m->∀(i:Nat) (x:uI×Addr),t.place[i]?=uA (way t (t.probeStart (hsh prog w k)) m')->ks[i]?=uA x->x.1≠k:=λm' cw i x hi hx ek=>by
   by_cases z:m'<c
   .exact hV m' z i x hi hx ek
   .obtain⟨i',br,dQ⟩:=hm (m'-c) (by lia)
    rw[wy,show c+(m'-c)=m' by lia] at br;have:=PK X.tab hi br;subst this;obtain⟨y,hy,ey⟩:=X.at_ hi;rw[hx] at hy;cases hy;refine dQ ?_;rw[ey,<- ek];rfl
  have ltN:way t (t.probeStart (hsh prog w k)) (c+m)∈t.place.toList->c+m<N:=λz=>by
   refine CA λzz=>?_;by_cases q:c+m=N
   .rw[q] at z;exact hN z
   .obtain⟨i',br,_⟩:=hm (N-c) (xL hc zz q)
    rw[wy,show c+(N-c)=N from vy hc] at br;exact hN (kD br)
  split
  .rename_i met heq
   rw[dk] at heq;rcases nw with⟨dQ,e⟩| ⟨i,hi,hsl,hhash,e⟩
   .obtain rfl:=AN (heq.symm.trans e)
    dsimp only;have hcN:c+m=N:=by
     rw[wy] at dQ;refine CA λq=>?_;by_cases z:c+m<N
     .exact dQ (hB _ z)
     .obtain⟨i',br,_⟩:=hm (N-c) (xL hc z q)
      rw[wy,show c+(N-c)=N from vy hc] at br;exact hN (kD br)
    rw[wy,hcN];refine AC (h2 λiO=>?_);obtain⟨x,hx,ex⟩:=A1.mp iO;obtain⟨i,hi⟩:=F6.mp hx;have hil:i<t.place.size:=by
     have l1:=(AH.mp hi).1;have l2:=congrArg Fu X.els;rw[AB,A9,X.len] at l2;exact dl l1 l2
    obtain⟨m1,w1,w2⟩:=X.loc i t.place[i] (hsh prog w x.1) (Bi hil) (by rw[X.els,G6,AS,hi];rfl);rw[ex] at w1 w2;have hm1:m1<N:=by
     refine CA λq=>?_;by_cases z:m1=N
     .subst z
      rw[w1] at hN;exact hN (kD (Bi hil))
     .exact hN (w2 N (by lia))
    exact hV' m1 (dl hm1 hcN) i x (by rw[w1];exact Bi hil) hi ex
   .obtain rfl:=AN (heq.symm.trans e)
    dsimp only;rw[wy] at hi hsl ⊢;have bj:=ltN (kD hi);obtain⟨x,hx,gg⟩:=X.at_ hi;have hxb:=hK x (AX hx);have sU:wpAny (AM prog w) A (do
      let uA (_,y):=es[i]? | unsupported "internal:set-entry"
      let equal <- NB [y] (eqBool y (.ref a))
      let (bv,_,t') <- setState S
      if true&&equal then return .there uB
      let uA same:=t'.sameMemory t.moves t.mask| unsupported "set.changed-during-lookup:is-the-new-block-at-the-old-address"
      let still <- match (if same then t'.slot (way t (t.probeStart (hsh prog w k)) (c+m)) else .empty) with
       | .live i'=>match bv[i']? with
        | some (_,y')=>do pure (if <- isSame y' y then uA i' else uB)
        | none=>pure uB
       | _=>pure uB
      match still with
      | none=>rule "set.search.anew";N9 S (.ref a) (hsh prog w k) true aI uB
      | some i'=>if equal then return .there (uA i') else N9 S (.ref a) (hsh prog w k) true aI (uA (SB.iter (step t.mask) (m+1) (SB.iter (step t.mask) c (t.probeStart (hsh prog w k)))))) Q E s:=by
     rw[gg];dsimp only;refine Au (EA (SW hu hxb hk ?_));refine Au (FH ho hd hf ?_);dsimp only;by_cases ek:x.1=k
     .rw[uE ek]
      exact AC (h1 (A1.mpr ⟨x,AX hx,ek⟩))
     .rw[uF ek]
      simp only[V3,B3,if_false];have sm:t.sameMemory t.moves t.mask=uA true:=by unfold sameMemory;simp
      rw[sm];dsimp only;simp only[if_true,hsl];rw[gg];dsimp only;refine Au (wpAny_isSame_ref_self ?_);simp only[if_true];refine Au (AC ?_);dsimp only;refine ih (c+m+1) _ bj (by lia) ?_ ?_
      .rw[<- Cd]
       rfl
      .intro m' cw i' x' br hG ek'
       by_cases z:m'<c+m
       .exact hV' m' z i' x' br hG ek'
       .have:m'=c+m:=wE cw z
        subst this;have:=PK X.tab hi br;subst this;rw[hx] at hG;cases hG;exact ek ek'
    cases ci:t.led with
    | true =>
     exact sU
    | false =>
     refine Au (ACt hk _ ?_ ?_)
     .intro v hv
      obtain⟨e',he',rfl⟩:=A1.mp hv;have he2:e'∈es.toList:=by
       have:e'∈es/\e'.1=hsh prog w k:=by simpa using he'
       simpa using this.1
      rw[X.els] at he2;obtain⟨y,hy,rfl⟩:=A1.mp he2;exact⟨y.1,y.2,rfl,hK y hy⟩
     .exact sU
  .rename_i gI
   rcases nw with⟨_,e⟩| ⟨i,_,_,_,e⟩
   .exact(gI _ (by rw[dk];exact e)).elim
   .exact(gI _ (by rw[dk];exact e)).elim
end
theorem JQ{α:Type}{l:List α}(d:α):∀{aT:uL},(∀i∈aT,i<l.length)->aT.filterMap (λi=>l[i]?)=aT.map λi=>l.getD i d
 | [],_=>rfl
 | i::r,h=>by
  have hi:=h i AG;rw[JE,AI hi,B4,JQ d λj hj=>h j (AK _ hj)];simp[AD,hi]
theorem Wu(l:List α):(AW l.length).filterMap (λi=>l[i]?)=l:=by
 cases l with
 | nil=>rfl
 | cons d r =>
  rw[JQ d λi hi=>A8.mp hi];apply FG;intro i;by_cases hi:i<(d::r).length
  .rw[AS,E7 hi,AI hi]
   show uA ((d::r).getD i d)=_;rw[AD,AI hi];rfl
  .rw[Ev (by simpa using hi),Ev (uR hi)]
theorem Jq{l:List α}{aT:uL}(h:aT.Perm (AW l.length)):(aT.filterMap λi=>l[i]?).Perm l:=by
 have:=h.filterMap λi=>l[i]?;rw[Wu] at this;exact this
section
variable{es:Array (Int×As)}{t:Da}
theorem stored(ho:h.get? S=uA o)(du:o.ExactSet)(hd:o.data=.set es ep t)(bv:Array (Int×As))(t':Da) :
  ∃o' h7,(h.update S (U9 bv t')).get? S=uA o'/\o'.ExactSet/\o'.data=.set bv h7 t':=by
 have hg:(h.update S (U9 bv t')).get? S=uA {o with data:=.set bv (ep+1) t'}:=by
  have:=EM (U9 bv t') ho (by rw[putSet_of bv t' hd];rfl);rw[putSet_of bv t' hd] at this;exact this
 exact⟨_,_,hg,du,rfl⟩
theorem ACI(hs:s.heap=h)(ho:h.get? S=uA o)(du:o.ExactSet)(hd:o.data=.set es ep t)(T:Tab t)(hl:es.size=t.place.size)(hel:es.toList=ks.map λx=>(hsh prog w x.1,A7 x.2))
  (nd:(ks.map (·.1)).Nodup) (e7:t.mask*3<=t.place.size*5) (jI:(t.place.size-1)*5<t.mask*3) (kN:ks.length<=301) (e8:t.plain=true) (hld:t.led=ledOf w) {Q:uO}
  (q:∀h' bv t' b7,EZ S h h'->TS prog w h' S bv t' b7->b7.Perm ks->Q () {s with heap:=h'}) :
  wpAny (AM prog w) A (Ya S (VA es.size)) Q E s:=by
 subst hs;have rq:ks.length=es.size:=by
  have:=congrArg Fu hel;rw[AB,A9] at this;exact this.symm
 have key:∃M,sizeAbove (VA es.size)=M+1/\Mask M/\es.size<=M/\es.size*5<M*3:=by
  rcases T.mask with e| e| e| e
  .have:es.size=5:=by rw[e] at e7 jI;lia
   rw[this];exact⟨31,by decide,.inr (.inl rfl),by decide,by decide⟩
  .have:es.size=19:=by rw[e] at e7 jI;lia
   rw[this];exact⟨127,by decide,.inr (.inr (.inl rfl)),by decide,by decide⟩
  .have:es.size=77:=by rw[e] at e7 jI;lia
   rw[this];exact⟨511,by decide,.inr (.inr (.inr rfl)),by decide,by decide⟩
  .rw[e] at e7
   lia
 obtain⟨M,eM,hM,hle,rY⟩:=key;unfold Ya;refine Au (FH ho hd (Hl T hl) ?_);dsimp only;have hz:¬ (sizeAbove (VA es.size)>sizeLine):=by
  rw[eM,Go];rcases hM with e| e| e| e<;>lia
 rw[uC hz];obtain⟨place,aT,el,T2,hps,qS,L2⟩:=AEk hM (hashes:=es.map (·.1)) (by simpa using hle) t.finger (t.movedTo M) t.led t.plain;have erl:t.relaid (es.map (·.1)) (VA es.size)=uA ({mask:=M,place:=place,dummies:=#[],finger:=t.finger,led:=t.led,moves:=t.movedTo M,plain:=t.plain},aT):=by
  unfold relaid;rw[eM];exact el
 refine Au ?_;show wpAny _ _ (do
  let uA (t,aT):=t.relaid (es.map (·.1)) (VA es.size)| unsupported "internal:set-table-without-room"
  let bv:=aT.filterMap (es[·]?)
  if bv.size != es.size then unsupported "internal:set-table-lost-an-element"
  pure (bv,t)) _ _ _
 rw[erl];dsimp only;have hsz:(es.map (·.1)).size=es.toList.length:=by simp
 rw[hsz] at qS;have ef:(aT.filterMap (es[·]?)).toList=aT.toList.filterMap λi=>es.toList[i]?:=by
  rw[Array.toList_filterMap]
  congr 1
  funext i
  rw[Cf]
 have hp:=Jq qS;have gg:(aT.filterMap (es[·]?)).size=es.size:=by
  rw[<- A9,ef,hp.length_eq,A9]
 rw[uC (by rw[gg];simp)];refine AC ?_;dsimp only;refine TH ho hd ?_ (by rw[gg,Go];rcases hM with e| e| e| e<;>lia);obtain⟨o',h7,dA,kF,cz⟩:=stored ho du hd (aT.filterMap (es[·]?)) {mask:=M,place:=place,dummies:=#[],finger:=t.finger,led:=t.led,moves:=t.movedTo M,plain:=t.plain};have hpk:(aT.toList.filterMap λi=>ks[i]?).Perm ks:=Jq (by rw[A9] at qS;rw[rq];exact qS);refine q _ _ _ (aT.toList.filterMap λi=>ks[i]?) (D9 ..) ⟨⟨o',h7,dA,kF,cz⟩,T2,?_,?_,?_,?_,?_,e8,hld⟩ hpk
 .rw[gg,hps];simp
 .have e1:(aT.filterMap (es[·]?)).toList.map (·.1)=aT.toList.map λi=>(es.map (·.1)).toList.getD i 0:=by
   rw[ef,JQ (0,DE) (λi hi=>by have:=A8.mp (qS.mem_iff.mp hi);exact this),G6];refine HI λi hi=>?_;have br:=A8.mp (qS.mem_iff.mp hi);have iL:i<es.size:=by simpa using br
   simp[AD,iL]
  rw[e1];exact L2
 .rw[ef,hel,List.map_filterMap]
  congr 1
  funext i
  rw[AS]
 .exact(Nw (hpk.map (·.1))).mpr nd
 .rw[hps]
  simpa using rY
def Added(ks:List (uI×Addr))(k:uI)(a:Addr)(b7:List (uI×Addr)):Prop:=(k∈ks.map (·.1)/\b7=ks)\/(k∉ks.map (·.1)/\b7.Perm ((k,a)::ks))
theorem Wb{k:uI}(X:TS prog w s.heap S es t ks)(hK:∀x∈ks,IK prog w s.heap x.1 x.2)(hk:IK prog w s.heap k a)(hu:A.units<C0)(h60:ks.length<=300){Q:uN}
  (q:∀b h' bv t' b7,EZ S s.heap h'->TS prog w h' S bv t' b7->Added ks k a b7->Q b {s with heap:=h'}) :
  wpAny (AM prog w) A (setAddHashed S (.ref a) (hsh prog w k)) Q E s:=by
 obtain⟨o,ep,ho,du,hd⟩:=X.obj;have hf:=Hl X.tab X.len;have fo:Fine t.mask (t.probeStart (hsh prog w k)):=Fine.start t _;have rq:ks.length=t.place.size:=by
  have:=congrArg Fu X.els;rw[AB,A9,X.len] at this;exact this.symm
 obtain⟨m0,hm0,nm0⟩:=PJ X.tab.mask X.tab.size fo (RZ (hsh prog w k));obtain⟨N,hN,l8⟩:=Vr (P:=λm=>way t (t.probeStart (hsh prog w k)) m∉t.place.toList) m0 nm0;have hNle:N<=m0:=CA λc=>l8 m0 (v7 c) nm0;have hB:∀m,m<N->way t (t.probeStart (hsh prog w k)) m∈t.place.toList:=λm hm=>CA λc=>l8 m hm c;have hM:t.mask<=511:=by rcases X.tab.mask with e| e| e| e<;>lia
 unfold setAddHashed setAddHashedIn;refine EA (Au (FH ho hd hf ?_));dsimp only;have hbs:byScan (.ref a) es=false:=rfl;rw[hbs];unfold setSearch;refine Au (AAd X hK hk hu hN hB ?_ ?_ 100000 0 uB (AY _) (by unfold OL at hm0;lia) rfl (λm hm=>uH hm vj))
 .intro iO
  exact AC (by
   have:=q false s.heap es t ks (ZT S s.heap) X (.inl ⟨iO,rfl⟩);exact this)
 .intro hnm
  dsimp only;refine Au (FH ho hd hf ?_);dsimp only;generalize hj:way t (t.probeStart (hsh prog w k)) N=j;have P:Put t j:=by
   refine⟨?_,?_,?_⟩
   .rw[<- hj];exact(fo.iter N).j
   .rw[<- hj];exact hN
   .have:=X.few
    rcases X.tab.mask with e| e| e| e<;>rw[e] at this ⊢<;>lia
  have T1:=ADy X.tab P;have L1:=AEX X.tab (by rw[AB,A9,X.len]) X.loc hB;rw[hj] at L1;obtain⟨e1,e2⟩:=Js X.tab (j:=j);have b3:=(Fx (j:=j) X.tab.rise).2.2;have pm:(t.put j).1.mask=t.mask:=by rw[e1]
  have pp:(t.put j).1.plain=true:=by rw[e1];exact X.pl
  have pd:(t.put j).1.led=ledOf w:=by rw[e1];exact X.ld
  have ps:(t.put j).1.place.size=t.place.size+1:=by
   rw[e1];have:=congrArg Fu (Bc t.place (below t.place j) j);simp at this;show(EQ t.place (below t.place j) j).size=_;lia
  rw[e2] at L1;generalize hp:below t.place j=p at *;generalize lv:(t.put j).1=t1 at *;have uc:(EQ es p (hsh prog w k,A7 a)).toList=(ks.take p++[(k,a)]++ks.drop p).map λx=>(hsh prog w x.1,A7 x.2):=by
   rw[Bc,X.els,BM,BM,R7,R8];rfl
  have kU:(EQ es p (hsh prog w k,A7 a)).size=es.size+1:=by
   have:=congrArg Fu (Bc es p (hsh prog w k,A7 a));simp at this;have:=X.len;lia
  have e9:(ks.take p++[(k,a)]++ks.drop p).Perm ((k,a)::ks):=by
   have:=List.perm_middle (a:=(k,a)) (l₁:=ks.take p) (l₂:=ks.drop p);rw[F8] at this;rw[CU];exact this
  have nd1:=(Nw (e9.map (·.1))).mpr (by rw[B4];exact DC.mpr ⟨hnm,X.nd⟩);have d5:(EQ es p (hsh prog w k,A7 a)).toList.map (·.1)=(es.toList.map (·.1)).take p++[hsh prog w k]++(es.toList.map (·.1)).drop p:=by
   rw[Bc,BM,BM,R7,R8];rfl
  have e3:=e2;have go:∀(t2:Da),Tab t2->t2.mask=t1.mask->t2.place=t1.place->t2.plain=true->t2.led=ledOf w->wpAny (AM prog w) A (do
    storeSet S (EQ es p (hsh prog w k,A7 a)) t2
    if(!false&&t2.tooFull)=true then do
     Ya S (VA (es.size+1))
     pure true
    else pure true) Q E s:=by
   intro t2 T2 m2 p2 q2 r2;refine Au (TH ho hd ?_ (by rw[kU,Go];have:=X.len;lia));obtain⟨o',h7,dA,kF,cz⟩:=stored ho du hd (EQ es p (hsh prog w k,A7 a)) t2;have L2:Loc t2 ((EQ es p (hsh prog w k,A7 a)).toList.map (·.1)):=by
    rw[d5];intro aS jj h' a1 a2;rw[p2] at a1;obtain⟨m,w1,w2⟩:=L1 aS jj h' a1 a2;refine⟨m,?_,λm' cw=>?_⟩
    .unfold way probeStart at w1 ⊢
     rw[m2];exact w1
    .have:=w2 m' cw
     unfold way probeStart at this ⊢;rw[m2,p2];exact this
   have tf:t2.tooFull=decide (t.mask*3<=(t.place.size+1)*5):=by
    unfold tooFull;rw[Yu T2,p2,m2,ps,pm]
   rw[tf];by_cases c:t.mask*3<=(t.place.size+1)*5
   .rw[uE c]
    rw[<- kU];refine Au (ACI (ks:=ks.take p++[(k,a)]++ks.drop p) rfl dA kF cz T2 (by rw[kU,p2,ps,X.len]) uc nd1 ?_ ?_ ?_ q2 r2 ?_)
    .rw[p2,m2,ps,pm];exact c
    .rw[p2,m2,ps,pm]
     have:=X.few;lia
    .rw[e9.length_eq]
     simp;exact h60
    .intro h' bv t' b7 sb X' pk
     exact AC (q true h' bv t' b7 ((D9 ..).trans sb) X' (.inr ⟨hnm,pk.trans e9⟩))
   .rw[uF c]
    exact AC (q true _ _ t2 _ (D9 ..) ⟨⟨o',h7,dA,kF,cz⟩,T2,by rw[kU,p2,ps,X.len],L2,uc,nd1,by rw[p2,m2,ps,pm];exact v7 c,q2,r2⟩ (.inr ⟨hnm,e9⟩))
  rw[e3];simp only[pp,if_true];refine Au (AFP hk ?_);exact go t1 T1 rfl rfl pp pd
theorem AGJ{k:uI}(X:TS prog w s.heap S es t ks)(hK:∀x∈ks,IK prog w s.heap x.1 x.2)(hk:IK prog w s.heap k a)(hu:A.units<C0)(h60:ks.length<=300){Q:uN}
  (q:∀b h' bv t' b7,EZ S s.heap h'->TS prog w h' S bv t' b7->Added ks k a b7->Q b {s with heap:=h',toks:=s.toks+(k.length+1)}) :
  wpAny (AM prog w) A (setAdd S (.ref a)) Q E s:=by
 unfold setAdd;refine EA ?_;refine Au (SV hu hk ?_);exact Wb (s:={s with toks:=s.toks+(k.length+1)}) X hK hk hu h60 λb h' bv t' b7 sb X' ad=>q b h' bv t' b7 sb X' ad
end
structure Of(vals:Nat->uI×Addr)(i:Nat)(ks:List (uI×Addr)):Prop where
 sub:∀x∈ks,∃j,j<i/\x=vals j
 sup:∀j,j<i->(vals j).1∈ks.map (·.1)
 len:ks.length<=i
theorem Of.next{b7:List (uI×Addr)}(h:Of vals i ks)(a:Added ks (vals i).1 (vals i).2 b7):Of vals (i+1) b7:=by
 rcases a with⟨hm,rfl⟩| ⟨hm,p⟩
 .refine⟨λx hx=>?_,λj hj=>?_,by have:=h.len;exact vd this⟩
  .obtain⟨j,hj,e⟩:=h.sub x hx
   exact⟨j,vb hj,e⟩
  .by_cases c:j=i
   .rw[c];exact hm
   .exact h.sup j (vR hj c)
 .refine⟨λx hx=>?_,λj hj=>?_,by rw[p.length_eq];have:=h.len;simp;exact this⟩
  .rcases BH.mp (p.mem_iff.mp hx) with e| hx
   .exact⟨i,vE,e⟩
   .obtain⟨j,hj,e⟩:=h.sub x hx
    exact⟨j,vb hj,e⟩
  .have pm:=(p.map (·.1)).mem_iff (a:=(vals j).1)
   by_cases c:j=i
   .subst c
    exact pm.mpr (by rw[B4];exact AG)
   .exact pm.mpr (by rw[B4];exact AK _ (h.sup j (vR hj c)))
theorem Hz{k:uI}(hk:IK prog w h k a)(e:∀o,h.get? a=uA o->h'.get? a=uA o):IK prog w h' k a:=by
 obtain⟨o,items,n,ho,r⟩:=hk;exact⟨o,items,n,e o ho,r⟩
theorem YH{es:Array (Int×As)}{t:Da}(X:TS prog w h S es t ks)(e:∀o,h.get? S=uA o->h'.get? S=uA o):TS prog w h' S es t ks:=by
 obtain⟨o,ep,ho,r⟩:=X.obj;exact⟨⟨o,ep,e o ho,r⟩,X.tab,X.len,X.loc,X.els,X.nd,X.few,X.pl,X.ld⟩
theorem ABv{led:Bool}(hw:led=ledOf w)(hg:h.get? S=uA {cls:=.type "set",dict:=uB,data:=.set #[] 0 (.fresh 0 0 led)}):TS prog w h S #[] (.fresh 0 0 led) []:=by
 refine⟨⟨_,0,hg,⟨rfl,rfl,rfl⟩,rfl⟩,⟨.inl rfl,rfl,AY _,λj hj=>(by cases hj),.nil⟩,rfl,λaS j h' a=>?_,rfl,.nil,by show 0*5<7*3;decide,rfl,hw⟩;cases a
theorem ADW(a:As){Q₁:As->AA->Prop}(h:Q₁ (.ref s.heap.objs.size) {s with heap:=s.heap.push {cls:=.type "set",dict:=uB,data:=.set #[] 0 (.fresh 0 0 (ledOf w))}}) :
  codeAny (AM prog w) A (.call (.builtin "set.__new__") ⟨[.type "set",a],[]⟩) (wants Q₁ E) s:=by
 refine VC ?_;refine Au (Me (F.newCall_set_1 a) (AC ⟨JY VE _,EE F.entry_set_new ?_⟩));rw[EF VE _];unfold Builtin.«set.__new__» WU;have sself:=sub_set_self;obtain⟨hp,g,d,tk,os⟩:=s
 wp_walk
 refine K6 (AC ?_);refine Au (wpAny_alloc (AC ?_));exact AC h
theorem ABs{l:List α}:∀{k:Nat}{y:α},l[k]?=uA y->(y::l.eraseIdx k).Perm l:=by
 induction l with
 | nil=>intro k y h;simp at h
 | cons a t ih =>
  intro k y h;cases k with
  | zero =>
   obtain rfl:a=y:=by simpa using h
   exact LU _
  | succ k =>
   have h':t[k]?=uA y:=by simpa using h
   exact(LV a y _).trans (QR a (ih h'))
set_option tactic.hygienic true in
theorem Yw{α:Type}(next:Nat->Nat):∀(aI k:Nat) (left:List α) (out:Array α),left.length<=aI->(Yf next aI k left out).toList.Perm (out.toList++left)
 | 0,k,left,out,h=>by
  have:left=[]:=Cs.mp (by lia);subst this;rw[Co];exact LU _
 | aI+1,k,left,out,h=>by
  unfold Yf;cases e:left[next k%left.length]? with
  | none =>
   have hl:left=[]:=by
    cases left with
    | nil=>rfl
    | cons a t =>
     have:=M5 (next k) (show 0<(a::t).length by simp);rw[AI this] at e;cases e
   subst hl;rw[Co]
  | some x =>
   have hi:=(AH.mp e).1;have hl:=List.length_eraseIdx_of_lt hi;have ih:=Yw next aI (k+1) (left.eraseIdx (next k%left.length)) (out.push x) (xG hl h)
   refine ih.trans ?_;rw[KA,CU];exact Fc _ (ABs e)
set_option tactic.hygienic true in
theorem AEM(next:Nat->Nat)(xs:Array α):(S5 next xs).toList.Perm xs.toList:=by
 have:=Yw next xs.size 0 xs.toList #[] (by simp)
 unfold S5;simpa using this
namespace F
theorem Mp:YA table "set.__iter__" = uA Builtin.«frozenset.__iter__» :=
 entryFor_alias (id':="frozenset.__iter__") (by kernel_rfl) (by first| rfl| decide+kernel) (by decide+kernel) (by kernel_rfl)
theorem TX:Manifest.owners.lookup (String.ofList ['r','o','t','a','r','e','t','i','_','t','e','s'].reverse)=uA Manifest.sig_set_iterator:=by kernel_rfl
theorem Em:Slot "set_iterator" "__next__" "set_iterator.__next__":=.of (owner:="set_iterator") (n:="__next__") (by rw[VI,QY];kernel_rfl) (by decide+kernel) (by decide+kernel) (by decide+kernel) (by first| exact .inl (by decide+kernel)| exact .inr (by decide+kernel)) (by rw[Q0];kernel_rfl)
theorem Nb:YA table "set_iterator.__next__" = uA Builtin.«set_iterator.__next__»:=entryFor_of_tree (by kernel_rfl)
theorem RQ(a:As):YE "set_iterator.__next__" ⟨[a],[]⟩:=by
 unfold YE;rw[signature?_of (id:="set_iterator.__next__") (n:=['_','_','t','x','e','n','_','_']) (o:=['r','o','t','a','r','e','t','i','_','t','e','s']) (by kernel_rfl) TX];kernel_rfl
theorem JK:Slot "set_iterator" "__iter__" "set_iterator.__iter__":=.of (owner:="set_iterator") (n:="__iter__") (by rw[VI,QY];kernel_rfl) (by decide+kernel) (by decide+kernel) (by decide+kernel) (by first| exact .inl (by decide+kernel)| exact .inr (by decide+kernel)) (by rw[Q0];kernel_rfl)
theorem Qa(a:As):YE "set_iterator.__iter__" ⟨[a],[]⟩:=by
 unfold YE;rw[signature?_of (id:="set_iterator.__iter__") (n:=['_','_','r','e','t','i','_','_']) (o:=['r','o','t','a','r','e','t','i','_','t','e','s']) (by kernel_rfl) TX];kernel_rfl
theorem Nf:YA table "set_iterator.__iter__" = uA Builtin.«dict_keyiterator.__iter__» :=
 entryFor_alias (id':="dict_keyiterator.__iter__") (by kernel_rfl) (by first| rfl| decide+kernel| (unfold String.splitOn;simp +decide [String.splitOnAux])) (by decide+kernel) (by kernel_rfl)
end F
def SI(h:Heap)(I S:Addr)(slot i n ep:Nat):Prop:=∃o,h.get? I=uA o/\o.cls=.type "set_iterator"/\o.data=.fields #[Hm slot,Hm i,.ref S,Hm n,Hm ep]
theorem SI.typeIs{slot:Nat}(x:SI s.heap I S slot i n ep):s.TypeIs (.ref I) "set_iterator":=by obtain⟨o,ho,hc,_⟩:=x;exact⟨o,ho,hc⟩
section
variable{es:Array (Int×As)}{t:Da}
def text(w:AQ):Bool:=w.params.followText "set-order"
def ord(w:AQ)(S:Addr)(ep:Nat)(es:Array (Int×As)):Array (Int×As):=if text w=true then S5 (w.params.setOrder S ep) es else es
theorem Um(w:AQ)(S:Addr)(ep:Nat)(es:Array (Int×As)):(ord w S ep es).toList.Perm es.toList:=by
 unfold ord;split
 .exact AEM _ _
 .exact LU _
noncomputable def slotAt(w:AQ)(t:Da)(i:Nat):Nat:=if text w=true then 0 else if i=0 then 0 else t.place.getD (i-1) 0+1
theorem Vw(hx:text w=false)(T:Tab t)(hi:i<=t.place.size):below t.place (slotAt w t i)=i:=by
 obtain⟨b1,b2,b3⟩:=Fx (j:=slotAt w t i) T.rise;have r:=CO.mp T.rise;have gd:∀k (hk:k<t.place.size) d,t.place.getD k d=t.place.toList[k]'(by simpa using hk):=λk hk d=>by simp[EH,hk]
 have sl:∀h0:i≠0,slotAt w t i=t.place.toList[i-1]'(by simp;exact xI h0 hi)+1:=λh0=>by
  unfold slotAt;rw[hx,uC (by decide),uC h0,gd (i-1) (xI h0 hi)]
 rcases OC (below t.place (slotAt w t i)) i with c| c| c
 .have z:=b2 _ (AF _) (va c hi)
  rw[gd _ (va c hi)] at z;have slz:=sl (by lia);by_cases d:below t.place (slotAt w t i)=i-1
  .have:t.place.toList[below t.place (slotAt w t i)]'(by simp;exact va c hi)=t.place.toList[i-1]'(by simp;exact xJ hi c):=by congr 1
   lia
  .have:=r (below t.place (slotAt w t i)) (i-1) (by simp;exact va c hi) (by simp;exact xJ hi c) (by lia)
   lia
 .exact c
 .have z:=b1 i c
  rw[gd i (va c b3)] at z;by_cases h0:i=0
  .have:slotAt w t i=0:=by unfold slotAt;rw[hx,uC (by decide),uD h0]
   lia
  .have slz:=sl h0
   have:=r (i-1) i (by simp;lia) (by simp;exact va c b3) (by lia);lia
theorem AFR(ho:s.heap.get? S=uA o)(hd:o.data=.set es ep t)(T:Tab t)(hl:es.size=t.place.size)(hp:t.plain=true)(ci:t.led=ledOf w){Q:Option (As×Nat)->AA->Prop}
  (q:Q (((ord w S ep es)[i]?).map λe=>(e.2,slotAt w t (i+1))) s) (hi:i<=es.size):wpAny (AM prog w) A (setNext S (slotAt w t i) i ep) Q E s:=by
 have hf:=Hl T hl;unfold setNext;refine Au (FH ho hd hf ?_);unfold VM;refine Au (Au (K6 (AC ?_)));cases hx:text w with
 | true =>
  have hG:(AM prog w).w.params.followText "set-order" = true:=hx;simp only[hG,if_true,bne_self_eq_false,B3,if_false];unfold setWalk VM;refine Au (Au (FH ho hd hf ?_));refine Au (Au (K6 (AC ?_)));simp only[hG,if_true];refine Au (K6 (AC ?_));refine AC ?_;have e1:ord w S ep es=S5 (w.params.setOrder S ep) es:=by unfold ord;rw[hx];rfl
  have e2:∀i,slotAt w t i=0:=λi=>by unfold slotAt;rw[hx];rfl
  rw[e1,e2] at q;rw[e2];exact q
 | false =>
  have hG:(AM prog w).w.params.followText "set-order" = false:=hx;have tK:t.led=true:=by rw[ci];unfold ledOf;rw[show w.params.followText "set-order" = false from hx];rfl
  have e1:ord w S ep es=es:=by unfold ord;rw[hx];rfl
  rw[e1] at q;simp only[hG,B3,if_false];refine Lv (λhab=>?_) (λ_=>?_)
  .have ic:(!t.plain&&decide (es.size>1))=true:=hab
   rw[hp] at ic;cases ic
  refine Au ?_;show wpAny _ _ (if(!t.led && !es.isEmpty)=true then unsupported "set:maker-not-led" else pure ()) _ _ _;rw[tK];refine AC (AC ?_);rw[Vw hx T (by rw[<- hl];exact hi)];by_cases c:i<es.size
  .have c2:i<t.place.size:=by rw[<- hl];exact c
   rw[Bi c] at q ⊢;rw[Bi c2];have e3:slotAt w t (i+1)=t.place[i]+1:=by
    unfold slotAt;rw[hx,uC (by decide),uC (by lia)];simp[EH,c2]
   rw[e3] at q;exact q
  .rw[HR (by lia)] at q ⊢
   exact q
def SSt(w:AQ)(I S:Addr)(o:Obj)(es:Array (Int×As))(t:Da)(ep i:Nat)(h:Heap):Prop:=h.get? S=uA o/\SI h I S (slotAt w t i) i es.size ep
theorem Xo(hh:A.handled=uB)(dQ:S≠I)(hd:o.data=.set es ep t)(T:Tab t)(hl:es.size=t.place.size)(hp:t.plain=true)(ci:t.led=ledOf w)(st:SSt w I S o es t ep i s.heap)(hi:i<=es.size){Q:Option As->AA->Prop}
  (q1:∀e h',(ord w S ep es)[i]?=uA e->SSt w I S o es t ep (i+1) h'->EZ I s.heap h'->Q (uA e.2) {s with heap:=h'})
  (q2:(ord w S ep es)[i]?=none->∀h',TW I s.heap h'->Q uB {s with heap:=h'}):wpAny (AM prog w) A (L8 (.ref I)) Q E s:=by
 obtain⟨ho,x⟩:=st;obtain⟨oi,m4,rP,sI⟩:=id x;unfold L8;refine Au (N7 (wpAny_callSpecial?_slot (name:=KG "__next__") x.typeIs F.Em (D1 F.Em x.typeIs F.Nb ?_ (F.RQ _))));unfold Builtin.«set_iterator.__next__»;refine Au (Me (a:=(A7 I,[])) rfl ?_)
 try dsimp only
 refine Au (QO m4 sI ?_);refine Au (Sf ho hd (Hl T hl) ?_);simp only[bne_self_eq_false,B3,if_false];show wpAny _ _ (setNext S (((slotAt w t i:Nat):Int)).toNat (((i:Nat):Int)).toNat (((ep:Nat):Int)).toNat >>= _) _ _ s;rw[Cc,Cc,Cc];refine Au (AFR ho hd T hl hp ci ?_ hi);cases e:(ord w S ep es)[i]? with
 | some v =>
  refine Au (IQ m4 sI (by simp) ?_);have g1:=EM (N8 (λfs=>fs.setIfInBounds 0 (Hm ((slotAt w t (i+1):Nat):Int)))) m4 (KL (Fk sI _));have d1:=Fk sI (λfs=>fs.setIfInBounds 0 (Hm ((slotAt w t (i+1):Nat):Int)));refine Au (IQ g1 d1 (by simp) ?_);have g2:=EM (N8 (λfs=>fs.setIfInBounds 1 (Hm ((i:Int)+1)))) g1 (KL (Fk d1 _));have d2:=Fk d1 (λfs=>fs.setIfInBounds 1 (Hm ((i:Int)+1)));refine AC ⟨_,rfl,AC (q1 v _ e ⟨?_,_,g2,?_,?_⟩ ((D9 ..).trans (D9 ..)))⟩
  .exact(E3 _ _ (Cb dQ)).trans ((E3 _ _ (Cb dQ)).trans ho)
  .exact(L4 ..).trans ((L4 ..).trans rP)
  .rw[d2]
   simp
 | none =>
  refine Au (IQ m4 sI (by simp) ?_);refine Au ?_;refine Au (DS ?_ (by size_fits));refine Au (m:=KM _ _) (Me (a:=DE) (by first| rfl| (simp only[KM];rfl)) ?_);refine DS ?_ (by size_fits);refine Au (R6 ?_);rw[show A.in1.handled=uB from hh];refine Au (AC (TZ ?_));refine Au (IX (T:="StopIteration") (b:=true) ⟨_,AU _ rfl,rfl⟩ V7 ?_);exact AC (q2 e _ (((D9 ..).extBut.push _).push _))
theorem LR(w:AQ)(S:Addr)(ep:Nat)(es:Array (Int×As)):(ord w S ep es).size=es.size:=by
 rw[<- A9,(Um w S ep es).length_eq,A9]
theorem Ze(hh:A.handled=uB)(dQ:S≠I)(hd:o.data=.set es ep t)(T:Tab t)(hl:es.size=t.place.size)(hp:t.plain=true)(ci:t.led=ledOf w) :
  Walks prog w A I [I,S] [I] es.size (λi v=>∃e,(ord w S ep es)[i]?=uA e/\v=e.2) (λi h=>i<=es.size/\SSt w I S o es t ep i h) where
 sub:=λb hb=>by simp at hb;simp[hb]
 frame:=by rintro i h h' ⟨hi,h1,oi,h2,r⟩ hk;exact⟨hi,hk S (by simp) o h1,oi,hk I (by simp) oi h2,r⟩
 item:=by
  rintro i s Q E hi ⟨br,st⟩ hQ;refine Xo hh dQ hd T hl hp ci st br (λe h' ge ah sb=>hQ _ h' s.toks ⟨e,ge,rfl⟩ ⟨hi,ah⟩ λb ob hb eo=>?_) (λz=>?_)
  .rw[sb.2 b (λ(q:b=I)=>hb (by simp[q]))]
   exact eo
  .have:=LR w S ep es
   rw[Array.getElem?_eq_none_iff] at z;lia
 done:=by
  rintro s Q E ⟨_,st⟩ hQ;refine Xo hh dQ hd T hl hp ci st (AF _) (λe h' ge ah sb=>?_) (λz h' eb=>hQ h' s.toks λb ob hb eo=>eb b ob (λq=>hb (by simp[q])) eo);have:=(C7.mp ge).1;rw[LR] at this;lia
 self:=by
  rintro i s Q E ⟨_,_,x⟩ hQ;refine OB x.typeIs F.JK (D1 F.JK x.typeIs F.Nf ?_ (F.Qa _));exact AC ⟨_,rfl, "set_iterator",_,x.typeIs,F.Em.lookup,hQ⟩
theorem ACl(ho:s.heap.get? S=uA o)(du:o.ExactSet)(hd:o.data=.set es ep t)(T:Tab t)(hl:es.size=t.place.size)(hp:t.plain=true)
  (q:∀x,(s.heap.push x).get? s.heap.objs.size=uA x->SSt w s.heap.objs.size S o es t ep 0 (s.heap.push x)->Q (.ref s.heap.objs.size) {s with heap:=s.heap.push x}):wpAny (AM prog w) A (Qr (.ref S)) Q E s:=by
 have hf:=Hl T hl;have tS:s.TypeIs (.ref S) "set":=⟨o,ho,du.1⟩;refine OB tS Q1 (D1 Q1 tS F.Mp ?_ (PySem.F.args_set_iter_1 _));unfold Builtin.«frozenset.__iter__»;refine Au (Me (a:=S) rfl ?_);refine Au (m:=YI S) (Au (Sf ho hd hf (AC ?_)));refine Au (m:=setDrawn S) ?_;unfold setDrawn VM;refine Au (FH ho hd hf ?_);refine Au (Au (K6 (AC ?_)));refine AC ?_;refine Lv (λhab=>?_) (λ_=>?_)
 .have ic:(!w.params.followText "set-order" && (!t.plain&&decide (es.size>1)))=true:=hab
  rw[hp] at ic;simp at ic
 refine Au (AC ?_);refine Au (wpAny_setEpoch_of ho hd hf ?_);unfold newFields;refine Au (DS ?_);have z:slotAt w t 0=0:=by
  unfold slotAt;split
  .rfl
  .rfl
 refine AC ⟨_,rfl, "set_iterator",_,⟨_,AU _ rfl,rfl⟩,F.Em.lookup,q _ (AU _ rfl) ⟨AJ _ ho,_,AU _ rfl,rfl,?_⟩⟩;rw[z];rfl
theorem ABO(ho:s.heap.get? S=uA o)(du:o.ExactSet){Q:uN}(h:Q false s):wpAny (AM prog w) A (N2 (.ref S)) Q E s:=by
 have tS:s.TypeIs (.ref S) "set":=⟨o,ho,du.1⟩;unfold N2;refine Au (Iy tS PySem.F.slot_set_len.lookup ?_);generalize hid:("set.__len__" : String)=id0
 wp_delta
 rw[show splitId id0=uA ("set","__len__") from by subst hid;decide+kernel];subst hid;refine Au (IX (T:="set") (b:=true) tS (by rw[Q0];kernel_rfl) ?_);refine Lv (λhab=>uH hab (by decide)) (λ_=>?_);refine Lv (λ_=>?_) (λhab=>uH (by decide+kernel) hab);refine Au (MW tS ?_);exact AC h
theorem XJ{R:SF->AA->Prop}(hh:A.handled=uB)(ho:s.heap.get? S=uA o)(du:o.ExactSet)(hd:o.data=.set es ep t)(T:Tab t)(hl:es.size=t.place.size)(hp:t.plain=true)(ci:t.led=ledOf w)(kN:es.size<=301)
  (D:Addr) (res:As) (c₀:Nat) (hD:s.heap.get? D=uA {cls:=.type "list",data:=.seq #[] c₀})
  (hR:∀h' tk ay c',(∀b ob,b≠D->s.heap.get? b=uA ob->h'.get? b=uA ob)->h'.get? D=uA {cls:=.type "list",dict:=uB,data:=.seq ay c',slots:=#[]} ->
   ItemsOf (λi v=>∃e,(ord w S ep es)[i]?=uA e/\v=e.2) ay es.size->R (.ok (.ret res)) {s with heap:=h',toks:=tk}) :
  wpAny (AM prog w) A.in1 (HV (.ref D) (.ref S) res)
   (λfin s'=>match fin with| .done f=>R (.ok f) s' | .again c'=>c'.quiet=true/\codeAny (AM prog w) A c' R s') (λe s'=>R (.error e) s') s:=by
 have tS:s.TypeIs (.ref S) "set":=⟨o,ho,du.1⟩;have nDS:D≠S:=λe=>by
  rw[e,ho] at hD;cases hD;cases hd
 have nSI:=BU (Bz ho);have nDI:=BU (Bz hD);have nDf:D∉[s.heap.objs.size,S]:=λhm=>by
  rcases BH.mp hm with e| hm
  .exact nDI e
  .exact nDS (BG.mp hm)
 have W:=(Ze (prog:=prog) (A:=A.in1) (o:=o) hh nSI hd T hl hp ci).toS;unfold HV;refine Au (MW (T:="set") tS ?_);have c1:O3 (.ref D) (.ref S)=false:=by simp[O3,nDS]
 have c2:(DU "set" == DU "list")=false:=by decide
 have c3:(DU "set" == DU "tuple")=false:=by decide
 simp only[c1,c2,c3,WV,B3,if_false];refine Au (ACl ho du hd T hl hp λx gx st=>?_);refine Au (EA (ABO (s:={s with heap:=s.heap.push x}) (AJ _ ho) du ?_));refine Lv (λ_=>?_) (λhab=>uH (by decide+kernel) hab);have hD1:(s.heap.push x).get? D=uA {cls:=.type "list",data:=.seq #[] c₀}:=AJ _ hD;refine Au (IJ ?_);refine Au ?_;refine Au (PD hD1 rfl ?_);have cr:=EM (DV (·.push DE)) hD1 rfl;refine PD (hz:=by seq_fits) cr rfl ?_;have hJ:=EM (DV (·.pop)) cr rfl;have keep:∀b ob,b≠D->(s.heap.push x).get? b=uA ob->(((s.heap.push x).update D (DV (·.push DE))).update D (DV (·.pop))).get? b=uA ob:=λb ob hb e=>(E3 _ _ (Cb hb)).trans ((E3 _ _ (Cb hb)).trans e);obtain⟨st1,oi,bb,cS⟩:=st;refine AC ⟨JY F.plain_extend_loop _,?_⟩;refine codeAny_extend_loopS W (by rw[Go];lia) D nDf res es.size 0 _ _ _ rfl (AY _) ⟨AY _,keep S o nDS.symm st1,oi,keep _ oi (Cb nDI) bb,cS⟩ hJ (ItemsOf.nil _) λs' ay c' hm db aE=>?_;rw[Moved.eq_with hm];refine hR s'.heap s'.toks ay c' (λb ob hb e=>hm.heap b ob (λiO=>?_) (keep b ob hb (AJ _ e))) db aE;rcases BH.mp iO with e' | iO
 .exact hb e'
 .exact uH (Bz e) (by rw[BG.mp iO];exact EX _)
end
end SB
namespace SB
open PySem PySem.W PyProof.Rows
abbrev g(p:Array Nat)(k:Nat):Nat:=p.getD k 0
structure PP(n:Nat)(p:Array Nat):Prop where
 size:p.size=n
 lt:∀k,k<n->g p k<n
 inj:∀k k',k<n->k'<n->g p k=g p k'->k=k'
structure Tot(n:Nat)(lt:Nat->Nat->Bool):Prop where
 or:∀i j,i<n->j<n->i≠j->lt i j=false->lt j i=true
 as:∀i j,i<n->j<n->lt i j=true->lt j i=false
 tr:∀i j k,i<n->j<n->k<n->lt i j=true->lt j k=true->lt i k=true
def Up(lt:Nat->Nat->Bool)(p:Array Nat)(m:Nat):Prop:=∀a b,a<b->b<m->lt (g p a) (g p b)=true
section
variable{lt:Nat->Nat->Bool}{p:Array Nat}
theorem ABx(n:Nat):PP n (LL (AW n)):=by
 have ge:∀k,k<n->g (LL (AW n)) k=k:=λk hk=>by
  unfold g;rw[HZ];simp[hk]
 refine⟨by simp,λk hk=>by rw[ge k hk];exact hk,λk k' hk a6 e=>?_⟩;rw[ge k hk,ge k' a6] at e;exact e
end
end SB
namespace TM
open PySem PyProof.Rows
def Jm:Nat->Nat->StateT BD Sem uX:=sortPriv% PySem.Builtin.countRun
theorem Qd(lo a9:Nat):Jm lo a9=(do
 let mut n:=1
 for _ in [1:a9] do
  let uA smaller <- PF (lo+n) (lo+n-1)| return uB
  if smaller then break
  n:=n+1
 if n==a9 then return uA n
 if n>1 then
  let uA rose <- PF lo (lo+n-1)| return uB
  if rose then return uA n
  On lo (lo+n)
 rule "list.sort.descending-run"
 n:=n+1
 let mut neq:=0
 for _ in [n:a9] do
  let uA smaller <- PF (lo+n) (lo+n-1)| return uB
  if smaller then
   if neq>0 then On (lo+n-(neq+1)) (lo+n)
   neq:=0
  else
   let uA larger <- PF (lo+n-1) (lo+n)| return uB
   if larger then break
   neq:=neq+1
  n:=n+1
 if neq>0 then On (lo+n-(neq+1)) (lo+n)
 On lo (lo+n)
 for _ in [n:a9] do
  let uA smaller <- PF (lo+n) (lo+n-1)| return uB
  if smaller then break
  n:=n+1
 return uA n):=rfl
def N(rk:AE->Int)(xs:Array AE)(i:Nat):Int:=match xs[i]? with
 | some p=>rk p
 | none=>0
variable{rk:AE->Int}
theorem Ez{xs ys:Array AE}(h:xs[i]?=ys[j]?):N rk xs i=N rk ys j:=by unfold N;rw[h]
def Al(G:AE->Prop)(xs:Array AE):Prop:=∀(i:Nat) (x:AE),xs[i]?=uA x->G x
theorem Al.perm{G:AE->Prop}{xs ys:Array AE}(h:Al G xs)(p:ys.Perm xs):Al G ys:=λi x e=>by
 have m:x∈ys.toList:=by
  obtain⟨hl,rfl⟩:=C7.mp e;exact O4 hl
 have m2:=(IE.mp p).mem_iff.mp m;obtain⟨k,hk,e⟩:=C1.mp m2;exact h k x (by rw[<- Cf,AI hk,e])
def Di(rk:AE->Int)(xs:Array AE):Prop:=(xs.toList.map rk).Nodup
theorem Di.perm{xs ys:Array AE}(h:Di rk xs)(p:ys.Perm xs):Di rk ys:=((IE.mp p).map rk).nodup_iff.mpr h
theorem Di.ne{xs:Array AE}(h:Di rk xs)(ij:i<j)(jl:j<xs.size):N rk xs i≠N rk xs j:=by
 have il:i<xs.size:=uT ij jl;have:=CO.mp h i j (by simpa using il) (by simpa using jl) ij;unfold N;rw[Bi il,Bi jl];simpa using this
def Up(rk:AE->Int)(xs:Array AE)(lo hi:Nat):Prop:=∀i j,lo<=i->i<=j->j<hi->N rk xs i<=N rk xs j
def Down(rk:AE->Int)(xs:Array AE)(lo hi:Nat):Prop:=∀i j,lo<=i->i<=j->j<hi->N rk xs j<=N rk xs i
structure Ba(G:AE->Prop)(rk:AE->Int)(κ:ER)(a₀:Array AE)(st:BD):Prop where
 perm:(AR st).Perm a₀
 kind:kindOf st=κ
 failed:G7 st=uB
 all:Al G a₀
 di:Di rk a₀
structure Nx(lo:Nat)(st ah:BD):Prop where
 perm:(AR ah).Perm (AR st)
 kind:kindOf ah=kindOf st
 failed:G7 ah=G7 st
 pend:BN ah=BN st
 low:∀i,i<lo->(AR ah)[i]?=(AR st)[i]?
theorem Nx.refl(lo:Nat)(st:BD):Nx lo st st:=⟨VO _,rfl,rfl,rfl,λ_ _=>rfl⟩
theorem Nx.trans{a b c:BD}(h:Nx lo a b)(k:Nx lo b c):Nx lo a c:=⟨k.perm.trans h.perm,k.kind.trans h.kind,k.failed.trans h.failed,k.pend.trans h.pend,λi hi=>(k.low i hi).trans (h.low i hi)⟩
theorem Ba.nx{G:AE->Prop}(h:Ba G rk κ a₀ st)(n:Nx lo st ah):Ba G rk κ a₀ ah:=⟨n.perm.trans h.perm,n.kind.trans h.kind,n.failed.trans h.failed,h.all,h.di⟩
theorem Ba.size{G:AE->Prop}(h:Ba G rk κ a₀ st):(AR st).size=a₀.size:=h.perm.size_eq
theorem Ba.ne{G:AE->Prop}(h:Ba G rk κ a₀ st)(ij:i<j)(jl:j<a₀.size):N rk (AR st) i≠N rk (AR st) j:=(h.di.perm h.perm).ne ij (by rw[h.size];exact jl)
section
variable{G:AE->Prop}
def Cmp(prog:AL)(w:AQ)(A:BV)(E:As->AA->Prop)(s:AA)(κ:ER)(G:AE->Prop)(rk:AE->Int):Prop :=
 ∀x y,G x->G y->∀(st:BD) (Q:Option Bool->BD->Prop),kindOf st=κ->Q (uA (decide (rk x<rk y))) st->wpS (AM prog w) A E s (lt' x y) Q st
theorem Bk{xs:Array AE}{Q:AE->BD->Prop}(hi:i<xs.size)(h:Q xs[i] st):wpS (AM prog w) A E s (DZ xs i) Q st:=by
 rw[elem'_eq,Bi hi];exact A2 h
theorem Ge{xs:Array AE}(hi:i<xs.size):N rk xs i=rk xs[i]:=by unfold N;rw[Bi hi]
theorem Al.at{xs:Array AE}(h:Al G xs)(hi:i<xs.size):G xs[i]:=h i _ (Bi hi)
theorem TF(C:Cmp prog w A E s κ G rk)(B:Ba G rk κ a₀ st){Q:Option Bool->BD->Prop}(hi:i<a₀.size)(hj:j<a₀.size)(h:Q (uA (decide (N rk (AR st) i<N rk (AR st) j))) st):wpS (AM prog w) A E s (PF i j) Q st:=by
 have br:i<(AR st).size:=by rw[B.size];exact hi
 have bu:j<(AR st).size:=by rw[B.size];exact hj
 have al:=B.all.perm B.perm;rw[ltAt'_eq];refine AO (KU ?_);refine AO (Bk br (AO (Bk bu ?_)));refine C _ _ (al.at br) (al.at bu) st Q B.kind ?_;rw[<- Ge (rk:=rk) br,<- Ge (rk:=rk) bu];exact h
theorem Sh{xs:Array AE}(hj:j<=xs.size)(k:Nat):N rk (mirror xs i j ((j-i) / 2)) k=if i<=k/\k<j then N rk xs (i+j-1-k) else N rk xs k:=by
 have e:=getElem?_mirror_all (i:=i) hj k;by_cases h1:i<=k/\k<j
 .rw[uD h1] at e ⊢;exact Ez e
 .rw[uC h1] at e ⊢;exact Ez e
theorem Uc{xs:Array AE}{j3 d:Nat}(hs:j3<xs.size)(hd:d<=j3)(k:Nat):N rk (bubble xs j3 d) k=if k=j3-d then N rk xs j3 else if j3-d<k/\k<=j3 then N rk xs (k-1) else N rk xs k:=by
 have e:=getElem?_bubble hs d hd k;by_cases h1:k=j3-d
 .rw[uD h1] at e ⊢;exact Ez e
 .rw[uC h1] at e ⊢
  by_cases h2:j3-d<k/\k<=j3
  .rw[uD h2] at e ⊢;exact Ez e
  .rw[uC h2] at e ⊢;exact Ez e
theorem AGe(hh:hi<=(AR st).size):Nx lo st (VQ st (mirror (AR st) lo hi ((hi-lo) / 2))):=⟨mirror_perm _ _ _ _,rfl,rfl,rfl,λi br=>by
 rw[getElem?_mirror_all hh,uC (yf br)]⟩
theorem ACG(C:Cmp prog w A E s κ G rk)(B:Ba G rk κ a₀ st)(h1:1<=n)(hn:n<a9)(hs:lo+a9<=a₀.size)(up:Up rk (AR st) lo (lo+n)){Q:Option Bool->BD->Prop}
  (hy:N rk (AR st) (lo+n)<N rk (AR st) (lo+n-1)->Q (uA true) st) (gI:Up rk (AR st) lo (lo+(n+1))->Q (uA false) st):wpS (AM prog w) A E s (PF (lo+n) (lo+n-1)) Q st:=by
 refine TF C B (vL hs hn) (wZ hs hn) ?_;by_cases c:N rk (AR st) (lo+n)<N rk (AR st) (lo+n-1)
 .rw[uE c]
  exact hy c
 .rw[uF c]
  refine gI λi j li ij jh=>?_;by_cases d:j<lo+n
  .exact up i j li ij d
  .by_cases e:i=j
   .rw[e];exact HQ _
   .have:=up i (lo+n-1) li (by lia) (by lia)
    have ej:j=lo+n:=yg jh d;rw[ej];lia
theorem ZJ(C:Cmp prog w A E s κ G rk){n0:Nat}(B:Ba G rk κ a₀ st)(h1:1<=n0)(hn:n0<=a9)(hs:lo+a9<=a₀.size)(up:Up rk (AR st) lo (lo+n0)){Q:(Option uX×Nat)->BD->Prop}
  (h:∀n,n0<=n->n<=a9->Up rk (AR st) lo (lo+n)->(n<a9->N rk (AR st) (lo+n)<N rk (AR st) (lo+n-1))->Q (uB,n) st) :
  wpS (AM prog w) A E s (forIn [n0:a9] ((uB,n0):Option uX×Nat) λ_ r=>do
   let x <- PF (lo+r.2) (lo+r.2-1)
   match x with
   | some smaller=>if smaller=true then pure (BS (uB,r.2)) else pure (C4 (uB,r.2+1))
   | _=>pure (BS (uA uB,r.2))) Q st:=by
 refine DT (I:=λx c ah=>ah=st/\c=(uB,x)/\n0<=x/\x<=a9/\Up rk (AR st) lo (lo+x)) ?_ ?_ ⟨rfl,rfl,AF _,hn,up⟩
 .rintro x c ah ax xb ⟨rfl,rfl,_,_,eA⟩
  refine AO (ACG C B (vS h1 ax) xb hs eA (λlt=>?_) (λup2=>?_))
  .exact A2 (h x ax (by lia) eA λ_=>lt)
  .exact A2 ⟨rfl,rfl,vd ax,xb,up2⟩
 .rintro c ah ⟨rfl,rfl,a1,a2,eA⟩
  refine h _ a1 a2 eA λz=>?_;lia
end
variable{rk:AE->Int}{G:AE->Prop}
theorem Nq(C:Cmp prog w A E s κ G rk)(B:Ba G rk κ a₀ st)(h1:1<=a9)(hs:lo+a9<=a₀.size){Q:uX->BD->Prop}
  (h:∀n ah,1<=n->n<=a9->Nx lo st ah->Up rk (AR ah) lo (lo+n)->Q (uA n) ah):wpS (AM prog w) A E s (Jm lo a9) Q st:=by
 rw[Qd];refine AO (ZJ C B (AF 1) h1 hs (λi j li ij jh=>by
  have:i=j:=by lia
  rw[this];exact HQ _) λn n1 nn up lt=>?_)
 dsimp only;by_cases c:n=a9
 .rw[uD (by rw[c];exact beq_self_eq_true _)]
  exact A2 (h n st n1 nn (Nx.refl _ _) up)
 rw[uC (by intro z;exact c (beq_iff_eq.mp z))];have sm:=lt (wj nn c);by_cases d:n>1
 .rw[uD d]
  refine AO (TF C B (by lia) (zn hs d nn) ?_);have a1:=up lo (lo+n-1) (AF _) (by lia) (by lia);have a2:=B.ne (i:=lo) (j:=lo+n-1) (by lia) (zn hs d nn);rw[uE (show N rk (AR st) lo<N rk (AR st) (lo+n-1) by lia)];exact A2 (h n st n1 nn (Nx.refl _ _) up)
 rw[uC d];have e1:n=1:=by lia
 subst e1;have wn:lo+1-1=lo:=by lia
 rw[wn] at sm;refine AO (NI (IJ ⟨rfl,?_⟩));refine AO (EJ (DT (I:=λx c ah=>ah=st/\c=(uB,x,0)/\2<=x/\x<=a9/\Down rk (AR st) lo (lo+x)) (Q:=λc ah=>ah=st/\∃m,c=(uB,m,0)/\2<=m/\m<=a9/\Down rk (AR st) lo (lo+m)) ?_ ?_ ⟨rfl,rfl,AF _,by lia,?_⟩) ?_)
 .rintro x c ah ax xb ⟨rfl,rfl,x2,_,dn⟩
  dsimp only;refine AO (TF C B (vL hs xb) (wZ hs xb) ?_);by_cases c1:N rk (AR ah) (lo+x)<N rk (AR ah) (lo+x-1)
  .rw[uE c1]
   dsimp only;rw[uD rfl,uC xQ];refine A2 ⟨rfl,rfl,by lia,xb,λi j li ij jh=>?_⟩;by_cases d1:j<lo+x
   .exact dn i j li ij d1
   .have ej:j=lo+x:=yg jh d1
    subst ej;by_cases e:i=lo+x
    .rw[e];exact HQ _
    .have:=dn i (lo+x-1) li (by lia) (zo ax)
     exact zd c1 this
  .rw[uF c1]
   dsimp only;rw[uC (by decide)];refine AO (TF C B (wZ hs xb) (vL hs xb) ?_);have a2:=B.ne (i:=lo+x-1) (j:=lo+x) (zo ax) (vL hs xb);rw[uE (show N rk (AR ah) (lo+x-1)<N rk (AR ah) (lo+x) by lia)];dsimp only;rw[uD rfl];exact A2 ⟨rfl,x,rfl,x2,by lia,dn⟩
 .rintro c ah ⟨rfl,rfl,a1,a2,dn⟩
  exact⟨rfl,_,rfl,a1,a2,dn⟩
 .intro i j li ij jh
  by_cases e:i=j
  .rw[e];exact HQ _
  .rw[show i=lo by lia,show j=lo+1 by lia]
   exact wC sm
 .rintro c ah ⟨rfl,m,rfl,m2,mn,dn⟩
  dsimp only;rw[uC xQ,reverseSlice'_eq];have sz:lo+m<=(AR ah).size:=by rw[B.size];lia
  have nx:=AGe (st:=ah) (lo:=lo) sz;refine AO (IN ?_);have up2:Up rk (AR (VQ ah (mirror (AR ah) lo (lo+m) ((lo+m-lo) / 2)))) lo (lo+m):=λi j li ij jh=>by
   rw[Sh sz,Sh sz,uD (by lia),uD (by lia)];exact dn _ _ (by lia) (yh ij) (by lia)
  refine AO (ZJ C (B.nx nx) (w6 m2) mn hs up2 λn' n1' nn' eA _=>?_);exact A2 (h n' _ (by lia) nn' nx eA)
def Le:Nat->Nat->Nat->StateT BD Sem Bool:=sortPriv% PySem.Builtin.binarySort
theorem Sd(lo n ok:Nat):Le lo n ok=(do
 for k in [max ok 1:n] do
  let mut l:=0
  let mut r:=k
  for _ in [0:k] do
   if l >= r then break
   let m:=(l+r) / 2
   let uA less <- PF (lo+k) (lo+m)| return false
   if less then r:=m else l:=m+1
  moveDown' (lo+k) (lo+l)
 return true):=rfl
theorem Ri(C:Cmp prog w A E s κ G rk){ok:Nat}(B:Ba G rk κ a₀ st)(hn:lo+n<=a₀.size)(hok:ok<=n)(up:Up rk (AR st) lo (lo+ok)){Q:Bool->BD->Prop}
  (h:∀ah,Nx lo st ah->Up rk (AR ah) lo (lo+n)->Q true ah):wpS (AM prog w) A E s (Le lo n ok) Q st:=by
 rw[Sd];refine AO (EJ (DT (I:=λk c ah=>c=(uB,())/\Nx lo st ah/\Up rk (AR ah) lo (lo+min k n))
  (Q:=λc ah=>c=(uB,())/\Nx lo st ah/\Up rk (AR ah) lo (lo+n)) ?step ?fin ?init) ?post)
 case post =>
  rintro c ah ⟨rfl,nx,eA⟩;exact A2 (h ah nx eA)
 case init =>
  refine⟨rfl,Nx.refl _ _,λi j li ij jh=>?_⟩;by_cases e:i=j
  .rw[e];exact HQ _
  .exact up i j li ij (by lia)
 case fin =>
  rintro c ah ⟨hc,nx,eA⟩;refine⟨hc,nx,?_⟩
  rwa [show min (max (max ok 1) n) n=n by lia] at eA
 case step =>
  rintro k c ah hak hkn ⟨rfl,nx,eA⟩;rw[show min k n=k from x5 hkn] at eA;have B':=B.nx nx;have hk:lo+k<a₀.size:=vL hn hkn;refine AO (EJ (DT (I:=λx c ck=>ck=ah/\∃l r,c=(uB,l,r)/\l<=r/\r<=k/\r-l<=k-x /\
    (∀i,lo<=i->i<lo+l->N rk (AR ah) i<=N rk (AR ah) (lo+k))/\(∀i,lo+r<=i->i<lo+k->N rk (AR ah) (lo+k)<N rk (AR ah) i))
   (Q:=λc ck=>ck=ah/\∃l r,c=(uB,l,r)/\l<=k /\
    (∀i,lo<=i->i<lo+l->N rk (AR ah) i<=N rk (AR ah) (lo+k))/\(∀i,lo+l<=i->i<lo+k->N rk (AR ah) (lo+k)<N rk (AR ah) i)) ?istep ?ifin ?iinit) ?ipost)
  case iinit=>exact⟨rfl,0,k,rfl,v8,vH,vH,λi hi=>by lia,λi h1 h2=>by lia⟩
  case ifin =>
   rintro c ck ⟨rfl,l,r,rfl,hlr,hrk,hm,pT,hhi⟩;have:l=r:=y4 hlr hm;subst this;exact⟨rfl,l,l,rfl,hrk,pT,hhi⟩
  case istep =>
   rintro x c ck _ hxk ⟨rfl,l,r,rfl,hlr,hrk,hm,pT,hhi⟩;dsimp only;by_cases t5:l >= r
   .rw[uD t5]
    have:l=r:=wP hlr t5;subst this;exact A2 ⟨rfl,l,l,rfl,hrk,pT,hhi⟩
   .rw[uC t5]
    refine AO (TF C B' hk (by lia) ?_);by_cases hless:N rk (AR ck) (lo+k)<N rk (AR ck) (lo+(l+r) / 2)
    .simp only[hless,decide_true,if_true]
     refine A2 ⟨rfl,l,(l+r) / 2,rfl,by lia,by lia,by lia,pT,λi h1 h2=>?_⟩;exact Int.lt_of_lt_of_le hless (eA _ _ u9 h1 h2)
    .simp only[hless,decide_false,B3,if_false]
     refine A2 ⟨rfl,(l+r) / 2+1,r,rfl,by lia,hrk,by lia,λi h0 h1=>?_,hhi⟩;exact ES (eA i (lo+(l+r) / 2) h0 (by lia) (by lia)) (J7.mp hless)
  case ipost =>
   rintro c ck ⟨rfl,l,r,rfl,hlk,pT,hhi⟩;show wpS _ _ _ _ (do moveDown' (lo+k) (lo+l);pure (C4 (uB,()))) _ _;rw[moveDown'_eq];have rq:lo+k<(AR ck).size:=by rw[B'.size];exact hk
   have nx2:Nx lo ck (VQ ck (bubble (AR ck) (lo+k) (lo+k-(lo+l)))):=⟨bubble_perm _ _ _,rfl,rfl,rfl,λi hi=>by
    rw[getElem?_bubble rq _ vt,uC (by lia),uC (by lia)]⟩
   refine AO (IN (A2 ⟨rfl,nx.trans nx2,?_⟩));rw[show min (k+1) n=k+1 by lia];intro i j li gv hj;rw[Uc rq vt,Uc rq vt,show lo+k-(lo+k-(lo+l))=lo+l by lia]
   repeat' split
   all_goals first
    | (exfalso;omega)
    | exact HQ _
    | exact pT _ (by omega) (by omega)
    | exact FR (hhi _ (by lia) (by lia))
    | exact eA _ _ (by lia) (by lia) (by lia)
variable{rk:AE->Int}{G:AE->Prop}
def Dg:Bool->AE->Array AE->Nat->Nat->Nat->StateT BD Sem uX:=sortPriv% PySem.Builtin.gallop
noncomputable def FQ(left:Bool)(key:AE)(arr:Array AE)(base i:Nat):StateT BD Sem (Option Bool):=do
  let x <- DZ arr (base+i)
  if left then lt' x key else return (<- lt' key x).map (!·)
theorem Wk(left:Bool)(key:AE)(arr:Array AE)(base n hint:Nat):Dg left key arr base n hint=(do
 let mut lastofs:=0
 let mut ofs:=1
 let mut lo:=0
 let mut hi:=0
 let uA right <- FQ left key arr base hint| return uB
 if right then
  let maxofs:=n-hint
  for _ in [0:n] do
   if ofs >= maxofs then break
   let uA more <- FQ left key arr base (hint+ofs)| return uB
   if !more then break
   lastofs:=ofs
   ofs:=2*ofs+1
  lo:=hint+lastofs+1
  hi:=hint+min ofs maxofs
 else
  let maxofs:=hint+1
  for _ in [0:n] do
   if ofs >= maxofs then break
   let uA found <- FQ left key arr base (hint-ofs)| return uB
   if found then break
   lastofs:=ofs
   ofs:=2*ofs+1
  lo:=hint+1-min ofs maxofs
  hi:=hint-lastofs
 for _ in [0:n] do
  if lo >= hi then break
  let m:=lo+(hi-lo) / 2
  let uA more <- FQ left key arr base m| return uB
  if more then lo:=m+1 else hi:=m
 return uA hi):=rfl
noncomputable def bey(rk:AE->Int)(left:Bool)(key:AE)(arr:Array AE)(base i:Nat):Bool:=if left then decide (N rk arr (base+i)<rk key) else !decide (rk key<N rk arr (base+i))
theorem Vi(C:Cmp prog w A E s κ G rk){left:Bool}{key:AE}{base:Nat}{Q:Option Bool->BD->Prop}(hk:G key)(al:Al G arr)(kd:kindOf st=κ)(hi:base+i<arr.size)(h:Q (uA (bey rk left key arr base i)) st) :
  wpS (AM prog w) A E s (FQ left key arr base i) Q st:=by
 unfold FQ;refine AO (Bk hi ?_);unfold bey at h;rw[Ge hi] at h;cases left with
 | true =>
  rw[uD rfl] at h ⊢;exact C _ _ (al.at hi) hk st _ kd h
 | false =>
  rw[uC (by decide)] at h ⊢;refine AO (C _ _ hk (al.at hi) st _ kd (A2 ?_));exact h
def Mono(p:Nat->Bool)(n:Nat):Prop:=∀i j,i<=j->j<n->p j=true->p i=true
theorem Fz{left:Bool}{key:AE}{base:Nat}(up:Up rk arr base (base+n)):Mono (bey rk left key arr base) n:=λi j ij jn h=>by
 have:=up (base+i) (base+j) u9 (by lia) (yk jn);unfold bey at h ⊢;cases left with
 | true =>
  rw[uD rfl] at h ⊢;have:=uG h;exact uE (by lia)
 | false =>
  rw[uC (by decide)] at h ⊢;have h':¬ rk key<N rk arr (base+j):=λz=>by rw[uE z] at h;cases h
  rw[uF (by lia)];rfl
theorem Ds(C:Cmp prog w A E s κ G rk){left:Bool}{key:AE}{base hint:Nat}{Q:uX->BD->Prop}(hk:G key)(al:Al G arr)(kd:kindOf st=κ)(hn:base+n<=arr.size)(hh:hint<n)(mo:Mono (bey rk left key arr base) n)
  (h:∀k,k<=n->(∀i,i<k->bey rk left key arr base i=true)->(∀i,k<=i->i<n->bey rk left key arr base i=false)->Q (uA k) st):wpS (AM prog w) A E s (Dg left key arr base n hint) Q st:=by
 rw[Wk];generalize hp:bey rk left key arr base=p at mo h;have ask:∀{i:Nat}{Q:Option Bool->BD->Prop},i<n->Q (uA (p i)) st->wpS (AM prog w) A E s (FQ left key arr base i) Q st:=λ{i Q} hi q=>Vi C hk al kd (vL hn hi) (by rw[hp];exact q);have qo:∀{k:Nat},(k<n->p k=false)->∀i,k<=i->i<n->p i=false:=λ{k} hk i ki il=>by
  cases e:p i with
  | false=>rfl
  | true =>
   have:=mo k i ki il e;rw[hk (ve ki il)] at this;cases this
 have fin:∀{lo hi:Nat},lo<=hi->hi<=n->(∀i,i<lo->p i=true)->(∀i,hi<=i->i<n->p i=false) ->
   ∀{Q':(Option uX×Nat×Nat)->BD->Prop},(∀l,l<=n->(∀i,i<l->p i=true)->(∀i,l<=i->i<n->p i=false)->Q' (uB,l,l) st) ->
   wpS (AM prog w) A E s (forIn [0:n] ((uB,lo,hi):Option uX×Nat×Nat) λ_ r =>
     if r.2.1 >= r.2.2 then pure (BS (uB,r.2.1,r.2.2))
     else do
      let x <- FQ left key arr base (r.2.1+(r.2.2-r.2.1) / 2)
      match x with
      | some more =>
       if more=true then pure (C4 (uB,r.2.1+(r.2.2-r.2.1) / 2+1,r.2.2))
       else pure (C4 (uB,r.2.1,r.2.1+(r.2.2-r.2.1) / 2))
      | _=>pure (BS (uA uB,r.2.1,r.2.2))) Q' st:=λ{lo hi} lh rL ht hf {Q'} h'=>by
  refine EJ (DT (I:=λx c ah=>ah=st/\∃l r,c=(uB,l,r)/\l<=r/\r<=n/\r-l<=n-x/\(∀i,i<l->p i=true)/\(∀i,r<=i->i<n->p i=false))
   (Q:=λc ah=>ah=st/\∃l,c=(uB,l,l)/\l<=n/\(∀i,i<l->p i=true)/\(∀i,l<=i->i<n->p i=false)) ?_ ?_ ⟨rfl,lo,hi,rfl,lh,rL,by lia,ht,hf⟩) ?_
  .rintro x c ah _ xn ⟨rfl,l,r,rfl,lr,rn,sz,tr,fa⟩
   dsimp only;by_cases c1:l >= r
   .rw[uD c1]
    have:l=r:=wP lr c1;subst this;exact A2 ⟨rfl,l,rfl,rn,tr,fa⟩
   .rw[uC c1]
    refine AO (ask (yZ rn c1) ?_);cases e:p (l+(r-l) / 2) with
    | true =>
     dsimp only;rw[uD rfl];exact A2 ⟨rfl,_,r,rfl,by lia,rn,by lia,λi hi=>mo i _ (vx hi) (yZ rn c1) e,fa⟩
    | false =>
     dsimp only;rw[uC (by decide)];exact A2 ⟨rfl,l,_,rfl,u9,by lia,by lia,tr,qo λ_=>e⟩
  .rintro c ah ⟨rfl,l,r,rfl,lr,rn,sz,tr,fa⟩
   have:l=r:=y4 lr sz;subst this;exact⟨rfl,l,rfl,rn,tr,fa⟩
  .rintro c ah ⟨rfl,l,rfl,ln,tr,fa⟩
   exact h' l ln tr fa
 refine AO (ask hh ?_);cases ph:p hint with
 | true =>
  dsimp only;rw[uD rfl];refine AO (EJ (DT (I:=λx c ah=>ah=st/\∃l o,c=(uB,l,o)/\l<o/\x+1<=o/\hint+l<n/\p (hint+l)=true)
   (Q:=λc ah=>ah=st/\∃l o,c=(uB,l,o)/\l<o/\hint+l<n/\p (hint+l)=true/\(o<n-hint->p (hint+o)=false)) ?_ ?_ ⟨rfl,0,1,rfl,y6,y8,by lia,ph⟩) ?_)
  .rintro x c ah _ xn ⟨rfl,l,o,rfl,lo,xo,ln,pl⟩
   dsimp only;by_cases c1:o >= n-hint
   .rw[uD c1]
    exact A2 ⟨rfl,l,o,rfl,lo,ln,pl,λz=>uH z (wc c1)⟩
   .rw[uC c1]
    refine AO (ask (y9 c1) ?_);cases e:p (hint+o) with
    | true =>
     dsimp only;rw[uC (by decide)];exact A2 ⟨rfl,o,_,rfl,za,zb xo,y9 c1,e⟩
    | false =>
     dsimp only;rw[uD (by decide)];exact A2 ⟨rfl,l,o,rfl,lo,ln,pl,λ_=>e⟩
  .rintro c ah ⟨rfl,l,o,rfl,lo,xo,ln,pl⟩
   exact⟨rfl,l,o,rfl,lo,ln,pl,λz=>uH z (by lia)⟩
  .rintro c ah ⟨rfl,l,o,rfl,lo,ln,pl,pf⟩
   dsimp only;refine AO (fin (lo:=hint+l+1) (hi:=hint+min o (n-hint)) (by lia) (by lia) (λi hi=>mo i (hint+l) (vx hi) ln pl) ?_ λk kn kt kf=>A2 (h k kn kt kf));by_cases c1:o<n-hint
   .rw[show hint+min o (n-hint)=hint+o by lia]
    exact qo λ_=>pf c1
   .rw[show hint+min o (n-hint)=n by lia]
    exact λi a b=>uH a (by lia)
 | false =>
  dsimp only;rw[uC (by decide)];refine AO (EJ (DT (I:=λx c ah=>ah=st/\∃l o,c=(uB,l,o)/\l<o/\x+1<=o/\l<=hint/\p (hint-l)=false)
   (Q:=λc ah=>ah=st/\∃l o,c=(uB,l,o)/\l<o/\l<=hint/\p (hint-l)=false/\(o<hint+1->p (hint-o)=true)) ?_ ?_ ⟨rfl,0,1,rfl,y6,y8,v8,ph⟩) ?_)
  .rintro x c ah _ xn ⟨rfl,l,o,rfl,lo,xo,ln,pl⟩
   dsimp only;by_cases c1:o >= hint+1
   .rw[uD c1]
    exact A2 ⟨rfl,l,o,rfl,lo,ln,pl,λz=>uH z (wc c1)⟩
   .rw[uC c1]
    refine AO (ask (wF hh) ?_);cases e:p (hint-o) with
    | true =>
     dsimp only;rw[uD rfl];exact A2 ⟨rfl,l,o,rfl,lo,ln,pl,λ_=>e⟩
    | false =>
     dsimp only;rw[uC (by decide)];exact A2 ⟨rfl,o,_,rfl,za,zb xo,by lia,e⟩
  .rintro c ah ⟨rfl,l,o,rfl,lo,xo,ln,pl⟩
   exact⟨rfl,l,o,rfl,lo,ln,pl,λz=>uH z (by lia)⟩
  .rintro c ah ⟨rfl,l,o,rfl,lo,ln,pl,pt⟩
   dsimp only;refine AO (fin (lo:=hint+1-min o (hint+1)) (hi:=hint-l) (by lia) (by lia) ?_ (qo λ_=>pl) λk kn kt kf=>A2 (h k kn kt kf));by_cases c1:o<hint+1
   .rw[show hint+1-min o (hint+1)=hint+1-o by lia]
    exact λi hi=>mo i (hint-o) (wO hi) (wF hh) (pt c1)
   .rw[show hint+1-min o (hint+1)=0 by lia]
    exact λi hi=>uH hi vj
variable{rk:AE->Int}{G:AE->Prop}
def Srt(rk:AE->Int)(l:List AE):Prop:=l.Pairwise λx y=>rk x<=rk y
structure MI(rk:AE->Int)(a b out:List AE)(ia ib:Nat):Prop where
 perm:(out++(a.drop ia++b.drop ib)).Perm (a++b)
 srt:Srt rk out
 oa:∀x∈out,∀y∈a.drop ia,rk x<=rk y
 ob:∀x∈out,∀y∈b.drop ib,rk x<=rk y
theorem Uk(l:List α)(i k:Nat):l.drop i=(l.drop i).take k++l.drop (i+k):=by rw[<- Q2];exact(F8 k (l.drop i)).symm
theorem MI.takeA{a b out:List AE}(m:MI rk a b out ia ib)(sa:Srt rk a)(k:Nat)(h:∀y∈(a.drop ia).take k,∀z∈b.drop ib,rk y<=rk z):MI rk a b (out++(a.drop ia).take k) (ia+k) ib:=by
 have e:=Uk a ia k;have sd:Srt rk (a.drop ia):=sa.sublist (IF ..);refine⟨?_,?_,?_,?_⟩
 .refine PH ?_ m.perm
  rw[CU];refine Fc _ ?_;rw[<- CU,<- e]
 .refine C8.mpr ⟨m.srt,sd.sublist (Kk ..),λx hx y hy=>m.oa x hx y (M6 hy)⟩
 .intro x hx y hy
  rcases Ct.mp hx with hx| hx
  .exact m.oa x hx y (by rw[e];exact CH _ hy)
  .unfold Srt at sd
   rw[e] at sd;exact(C8.mp sd).2.2 x hx y hy
 .intro x hx y hy
  rcases Ct.mp hx with hx| hx
  .exact m.ob x hx y hy
  .exact h x hx y hy
theorem MI.takeB{a b out:List AE}(m:MI rk a b out ia ib)(sb:Srt rk b)(k:Nat)(h:∀y∈(b.drop ib).take k,∀z∈a.drop ia,rk y<=rk z):MI rk a b (out++(b.drop ib).take k) ia (ib+k):=by
 have e:=Uk b ib k;have sd:Srt rk (b.drop ib):=sb.sublist (IF ..);refine⟨?_,?_,?_,?_⟩
 .refine PH ?_ m.perm
  rw[CU];refine Fc _ ?_;rw[<- CU];refine(Mm _ (IA)).trans ?_;rw[CU,<- e]
 .refine C8.mpr ⟨m.srt,sd.sublist (Kk ..),λx hx y hy=>m.ob x hx y (M6 hy)⟩
 .intro x hx y hy
  rcases Ct.mp hx with hx| hx
  .exact m.oa x hx y hy
  .exact h x hx y hy
 .intro x hx y hy
  rcases Ct.mp hx with hx| hx
  .exact m.ob x hx y (by rw[e];exact CH _ hy)
  .unfold Srt at sd
   rw[e] at sd;exact(C8.mp sd).2.2 x hx y hy
def Mg(rk:AE->Int)(a b r:List AE):Prop:=r.Perm (a++b)/\Srt rk r
theorem MI.doneB{a b out:List AE}(m:MI rk a b out ia ib)(sa:Srt rk a)(h:b.length<=ib):Mg rk a b (out++a.drop ia++b.drop ib):=by
 rw[FV h,Co];have p:=m.perm;rw[FV h,Co] at p;exact⟨p,C8.mpr ⟨m.srt,sa.sublist (IF ..),m.oa⟩⟩
theorem MI.doneA{a b out:List AE}(m:MI rk a b out ia ib)(sb:Srt rk b)(h:a.length<=ia):Mg rk a b (out++a.drop ia++b.drop ib):=by
 rw[FV h,Co];have p:=m.perm;rw[FV h,Pp] at p;exact⟨p,C8.mpr ⟨m.srt,sb.sublist (IF ..),m.ob⟩⟩
theorem MI.last{a b out:List AE}(m:MI rk a b out ia ib)(sb:Srt rk b)(h:ia+1=a.length)(hl:∀y∈b,∀z∈a.drop ia,rk y<=rk z):Mg rk a b (out++b.drop ib++a.drop ia):=by
 refine⟨?_,?_⟩
 .refine PH ?_ m.perm
  rw[CU];exact Fc _ IA
 .have one:Srt rk (a.drop ia):=by
   have l1:(a.drop ia).length=1:=by rw[K5];lia
   obtain⟨x,ex⟩:=Kj.mp l1;rw[ex];exact JS ..
  refine C8.mpr ⟨C8.mpr ⟨m.srt,sb.sublist (IF ..),m.ob⟩,one,λx hx y hy=>?_⟩;rcases Ct.mp hx with hx| hx
  .exact m.oa x hx y hy
  .exact hl x (RH hx) y hy
variable{rk:AE->Int}{G:AE->Prop}
theorem ifc{c:Prop}{i j:Decidable c}{x y u v:α}(h1:x=u)(h2:y=v):(@ite α c i x y)=(@ite α c j u v):=by rw[h1,h2];congr
def Dv:Nat->StateT BD Sem Unit:=sortPriv% PySem.Builtin.setMinGallop
theorem XC(g:Nat):Dv g=modify λs=>J8 (kindOf s) (AR s) (BN s) g (G7 s):=rfl
abbrev loDone(a b out:Array AE)(ia ib:Nat):Array AE:=out++a.extract ia a.size++b.extract ib b.size
abbrev loLast(a b out:Array AE)(ia ib:Nat):Array AE:=out++b.extract ib b.size++a.extract ia a.size
abbrev S1:=Option (Array AE)×Array AE×Nat×Nat×Nat×Nat
abbrev S2:=Option (Array AE)×Array AE×Nat×Nat×Nat×Nat×Nat
abbrev S0:=Option (Array AE)×Array AE×Nat×Nat×Nat
noncomputable def loOne(a b:Array AE)(mg:Nat)(r:S1):StateT BD Sem (ForInStep S1):=do
 let y <- DZ b r.2.2.2.1
 let x <- DZ a r.2.2.1
 let c <- lt' y x
 match c with
 | some bWins =>
  if bWins=true then do
   let y <- DZ b r.2.2.2.1
   if(r.2.2.2.1+1==b.size)=true then
    pure (BS (uA (loDone a b (r.2.1.push y) r.2.2.1 (r.2.2.2.1+1)),r.2.1.push y,r.2.2.1,r.2.2.2.1+1,0,r.2.2.2.2.2+1))
   else if r.2.2.2.2.2+1 >= mg then
    pure (BS (uB,r.2.1.push y,r.2.2.1,r.2.2.2.1+1,0,r.2.2.2.2.2+1))
   else pure (C4 (uB,r.2.1.push y,r.2.2.1,r.2.2.2.1+1,0,r.2.2.2.2.2+1))
  else do
   let x <- DZ a r.2.2.1
   if(r.2.2.1+1+1==a.size)=true then
    pure (BS (uA (loLast a b (r.2.1.push x) (r.2.2.1+1) r.2.2.2.1),r.2.1.push x,r.2.2.1+1,r.2.2.2.1,r.2.2.2.2.1+1,0))
   else if r.2.2.2.2.1+1 >= mg then
    pure (BS (uB,r.2.1.push x,r.2.2.1+1,r.2.2.2.1,r.2.2.2.2.1+1,0))
   else pure (C4 (uB,r.2.1.push x,r.2.2.1+1,r.2.2.2.1,r.2.2.2.2.1+1,0))
 | _=>pure (BS (uA (loDone a b r.2.1 r.2.2.1 r.2.2.2.1),r.2.1,r.2.2.1,r.2.2.2.1,r.2.2.2.2.1,r.2.2.2.2.2))
noncomputable def loEnd(a b:Array AE)(mg ac bc:Nat)(out:Array AE)(ia ib:Nat):StateT BD Sem (ForInStep S2):=do
 let x <- DZ a ia
 if(ia+1+1==a.size)=true then pure (BS (uA (loLast a b (out.push x) (ia+1) ib),out.push x,ia+1,ib,mg,ac,bc))
 else if(decide (ac<7)&&decide (bc<7))=true then pure (BS (uB,out.push x,ia+1,ib,mg,ac,bc))
 else pure (C4 (uB,out.push x,ia+1,ib,mg,ac,bc))
noncomputable def loMid(a b:Array AE)(mg k bc:Nat)(out:Array AE)(ia ib:Nat):StateT BD Sem (ForInStep S2):=do
 let y <- DZ b ib
 if(ib+1==b.size)=true then pure (BS (uA (loDone a b (out.push y) ia (ib+1)),out.push y,ia,ib+1,mg,k,bc))
 else do
  let x <- DZ a ia
  let r <- Dg true x b (ib+1) (b.size-(ib+1)) 0
  match r with
  | some k' =>
   if k'>0 then
    if(ib+1+k'==b.size)=true then pure (BS (uA (loDone a b (out.push y++b.extract (ib+1) (ib+1+k')) ia (ib+1+k')),out.push y++b.extract (ib+1) (ib+1+k'),ia,ib+1+k',mg,k,k'))
    else loEnd a b mg k k' (out.push y++b.extract (ib+1) (ib+1+k')) ia (ib+1+k')
   else loEnd a b mg k k' (out.push y) ia (ib+1)
  | _=>pure (BS (uA (loDone a b (out.push y) ia (ib+1)),out.push y,ia,ib+1,mg,k,bc))
noncomputable def loGal(a b:Array AE)(mg ac bc:Nat)(out:Array AE)(ia ib:Nat):StateT BD Sem (ForInStep S2):=do
 Dv mg
 let y <- DZ b ib
 let r <- Dg false y a ia (a.size-ia) 0
 match r with
 | some k =>
  if k>0 then
   if(ia+k+1==a.size)=true then pure (BS (uA (loLast a b (out++a.extract ia (ia+k)) (ia+k) ib),out++a.extract ia (ia+k),ia+k,ib,mg,k,bc))
   else if(ia+k==a.size)=true then pure (BS (uA (loDone a b (out++a.extract ia (ia+k)) (ia+k) ib),out++a.extract ia (ia+k),ia+k,ib,mg,k,bc))
   else loMid a b mg k bc (out++a.extract ia (ia+k)) (ia+k) ib
  else loMid a b mg k bc out ia ib
 | _=>pure (BS (uA (loDone a b out ia ib),out,ia,ib,mg,ac,bc))
def Ir:Array AE->Array AE->StateT BD Sem (Array AE):=sortPriv% PySem.Builtin.mergeLo
theorem XR(a b:Array AE):Ir a b=(do
 rule "list.sort.merge-lo"
 let total:=a.size+b.size
 let done (out:Array AE) (ia ib:Nat):=out++a.extract ia a.size++b.extract ib b.size
 let lastOfA (out:Array AE) (ia ib:Nat):=out++b.extract ib b.size++a.extract ia a.size
 let mut out:Array AE:=#[<- DZ b 0]
 let mut ia:=0
 let mut ib:=1
 if ib==b.size then return done out ia ib
 if ia+1==a.size then return lastOfA out ia ib
 let mut minGallop:=RI (<- get)
 for _ in [0:total] do
  let mut acount:=0
  let mut bcount:=0
  for _ in [0:total] do
   let uA bWins <- lt' (<- DZ b ib) (<- DZ a ia)| return done out ia ib
   if bWins then
    out:=out.push (<- DZ b ib);ib:=ib+1;bcount:=bcount+1;acount:=0
    if ib==b.size then return done out ia ib
    if bcount >= minGallop then break
   else
    out:=out.push (<- DZ a ia);ia:=ia+1;acount:=acount+1;bcount:=0
    if ia+1==a.size then return lastOfA out ia ib
    if acount >= minGallop then break
  rule "list.sort.gallop"
  minGallop:=minGallop+1
  for _ in [0:total] do
   if minGallop>1 then minGallop:=minGallop-1
   Dv minGallop
   let uA k <- Dg false (<- DZ b ib) a ia (a.size-ia) 0| return done out ia ib
   acount:=k
   if k>0 then
    out:=out++a.extract ia (ia+k);ia:=ia+k
    if ia+1==a.size then return lastOfA out ia ib
    if ia==a.size then return done out ia ib
   out:=out.push (<- DZ b ib);ib:=ib+1
   if ib==b.size then return done out ia ib
   let uA k <- Dg true (<- DZ a ia) b ib (b.size-ib) 0| return done out ia ib
   bcount:=k
   if k>0 then
    out:=out++b.extract ib (ib+k);ib:=ib+k
    if ib==b.size then return done out ia ib
   out:=out.push (<- DZ a ia);ia:=ia+1
   if ia+1==a.size then return lastOfA out ia ib
   if acount<7&&bcount<7 then break
  minGallop:=minGallop+1
  Dv minGallop
 unsupported "internal:list.sort.merge-bound"):=rfl
set_option pp.proofs true in
theorem Rv(a b:Array AE):Ir a b=(do
 liftM (rule "list.sort.merge-lo")
 let y <- DZ b 0
 if(1==b.size)=true then pure (loDone a b #[y] 0 1)
 else if(0+1==a.size)=true then pure (loLast a b #[y] 0 1)
 else do
  let g <- get
  let r <- forIn [0:a.size+b.size] ((uB,#[y],0,1,RI g):S0) λ_ r0=>do
   let r1 <- forIn [0:a.size+b.size] ((uB,r0.2.1,r0.2.2.1,r0.2.2.2.1,0,0):S1) λ_ r=>loOne a b r0.2.2.2.2 r
   match r1.1 with
   | some x=>pure (BS ((uA x,r1.2.1,r1.2.2.1,r1.2.2.2.1,r0.2.2.2.2):S0))
   | none=>do
    liftM (rule "list.sort.gallop")
    let r2 <- forIn [0:a.size+b.size] ((uB,r1.2.1,r1.2.2.1,r1.2.2.2.1,r0.2.2.2.2+1,r1.2.2.2.2.1,r1.2.2.2.2.2):S2) λ_ r =>
     if r.2.2.2.2.1>1 then loGal a b (r.2.2.2.2.1-1) r.2.2.2.2.2.1 r.2.2.2.2.2.2 r.2.1 r.2.2.1 r.2.2.2.1
     else loGal a b r.2.2.2.2.1 r.2.2.2.2.2.1 r.2.2.2.2.2.2 r.2.1 r.2.2.1 r.2.2.2.1
    match r2.1 with
    | some x=>pure (BS ((uA x,r2.2.1,r2.2.2.1,r2.2.2.2.1,r2.2.2.2.2.1):S0))
    | none=>do
     Dv (r2.2.2.2.2.1+1)
     pure (C4 ((uB,r2.2.1,r2.2.2.1,r2.2.2.2.1,r2.2.2.2.2.1+1):S0))
  match r.1 with
  | some x=>pure x
  | none=>unsupported "internal:list.sort.merge-bound"):=by
 rw[XR];dsimp only
 congr 1
 funext _
 congr 1
 funext y
 refine ifc rfl (ifc rfl ?_)
 congr 1
 funext g
 congr 1
 .congr 1
  funext x r0
  congr 1
  funext r1
  obtain⟨o1,r1⟩:=r1;cases o1 with
  | some x=>rfl
  | none =>
   dsimp only
   congr 1
   funext u
   congr 1
   funext r2
   obtain⟨o2,r2⟩:=r2;cases o2<;>rfl
 .funext r
  obtain⟨o,r⟩:=r;cases o<;>rfl
variable{rk:AE->Int}{G:AE->Prop}
structure Gx(st ah:BD):Prop where
 arr:AR ah=AR st
 kind:kindOf ah=kindOf st
 failed:G7 ah=G7 st
 pend:BN ah=BN st
theorem Gx.refl(st:BD):Gx st st:=⟨rfl,rfl,rfl,rfl⟩
theorem UW{b:Array AE}(h:ib<b.size):(out.push b[ib]).toList=out.toList++(b.toList.drop ib).take 1:=by
 rw[KA]
 congr 1
 have hl:ib<b.toList.length:=by simpa using h
 rw[LD hl,NA,Q3];simp
theorem Xx{a:Array AE}(i k:Nat):(out++a.extract i (i+k)).toList=out.toList++(a.toList.drop i).take k:=by
 rw[DF,G8]
 congr 1
 simp[S6]
theorem Iv(a:Array AE)(i:Nat):(a.extract i a.size).toList=a.toList.drop i:=by
 rw[G8];simp[S6];rw[P9 (by simp)]
theorem Ui(a b out:Array AE)(ia ib:Nat):(loDone a b out ia ib).toList=out.toList++a.toList.drop ia++b.toList.drop ib:=by
 unfold loDone;rw[DF,DF,Iv,Iv]
theorem ACH(a b out:Array AE)(ia ib:Nat):(loLast a b out ia ib).toList=out.toList++b.toList.drop ib++a.toList.drop ia:=by
 unfold loLast;rw[DF,DF,Iv,Iv]
theorem Ef{a:Array AE}{z:AE}(h:z∈a.toList.drop i):∃j,i<=j/\∃hj:j<a.size,z=a[j]:=by
 obtain⟨k,hk,e⟩:=C1.mp h;rw[K5] at hk;refine⟨i+k,by lia,by
               have:a.toList.length=a.size:=by simp
               lia,?_⟩
 rw[<- e,OE];simp
theorem Cj{a:Array AE}{k:Nat}{z:AE}(h:z∈(a.toList.drop i).take k):∃j,i<=j/\j<i+k/\∃hj:j<a.size,z=a[j]:=by
 obtain⟨n,hk,e⟩:=C1.mp h;rw[B0,K5] at hk;have:a.toList.length=a.size:=by simp
 refine⟨i+n,u9,by lia,by lia,?_⟩;rw[<- e,Kt,OE];simp
theorem Fg{a:Array AE}(sa:Srt rk a.toList)(ij:i<=j)(hj:j<a.size):rk (a[i]'(ve ij hj))<=rk a[j]:=by
 by_cases e:i=j
 .subst e;exact HQ _
 .have:=CO.mp sa i j (by simp;exact ve ij hj) (by simpa using hj) (wj ij e)
  simpa using this
theorem Rj{a:Array AE}(sa:Srt rk a.toList)(h:hi<=a.size):Up rk a lo hi:=λi j li ij jh=>by
 rw[Ge (show i<a.size by lia),Ge (show j<a.size from va jh h)];exact Fg sa ij (va jh h)
section
variable{a b:Array AE}
def At(rk:AE->Int)(a b out:Array AE)(ia ib:Nat):Prop:=MI rk a.toList b.toList out.toList ia ib/\ia+1<a.size/\ib<b.size
structure Lo(G:AE->Prop)(rk:AE->Int)(a b:Array AE):Prop where
 ga:Al G a
 gb:Al G b
 sa:Srt rk a.toList
 sb:Srt rk b.toList
 hl:∀y∈b.toList,∀z∈a.toList.drop (a.size-1),rk y<=rk z
theorem Lo.done(L:Lo G rk a b)(m:MI rk a.toList b.toList out.toList ia ib)(h:b.size<=ib):Mg rk a.toList b.toList (loDone a b out ia ib).toList:=by
 rw[Ui];exact m.doneB L.sa (by simpa using h)
theorem Lo.doneA(L:Lo G rk a b)(m:MI rk a.toList b.toList out.toList ia ib)(h:a.size<=ia):Mg rk a.toList b.toList (loDone a b out ia ib).toList:=by
 rw[Ui];exact m.doneA L.sb (by simpa using h)
theorem Lo.last(L:Lo G rk a b)(m:MI rk a.toList b.toList out.toList ia ib)(h:ia+1=a.size):Mg rk a.toList b.toList (loLast a b out ia ib).toList:=by
 rw[ACH];refine m.last L.sb (by simpa using h) λy hy z hz=>L.hl y hy z ?_;rw[show a.size-1=ia by lia];exact hz
theorem Lo.stepB(L:Lo G rk a b)(m:MI rk a.toList b.toList out.toList ia ib)(hb:ib<b.size)(h:∀j,ia<=j->∀hj:j<a.size,rk b[ib]<=rk a[j]):MI rk a.toList b.toList (out.push b[ib]).toList ia (ib+1):=by
 rw[UW hb];refine m.takeB L.sb 1 λy hy z hz=>?_;obtain⟨j,j1,j2,hj,rfl⟩:=Cj hy;have:j=ib:=yb j2 j1;subst this;obtain⟨i,i1,hi,rfl⟩:=Ef hz;exact h i i1 hi
theorem Lo.stepA(L:Lo G rk a b)(m:MI rk a.toList b.toList out.toList ia ib)(ha:ia<a.size)(h:∀j,ib<=j->∀hj:j<b.size,rk a[ia]<=rk b[j]):MI rk a.toList b.toList (out.push a[ia]).toList (ia+1) ib:=by
 rw[UW ha];refine m.takeA L.sa 1 λy hy z hz=>?_;obtain⟨j,j1,j2,hj,rfl⟩:=Cj hy;have:j=ia:=yb j2 j1;subst this;obtain⟨i,i1,hi,rfl⟩:=Ef hz;exact h i i1 hi
theorem Lo.manyA(L:Lo G rk a b){k:Nat}(m:MI rk a.toList b.toList out.toList ia ib)(h:∀i,ia<=i->i<ia+k->∀hi:i<a.size,∀j,ib<=j->∀hj:j<b.size,rk a[i]<=rk b[j]):MI rk a.toList b.toList (out++a.extract ia (ia+k)).toList (ia+k) ib:=by
 rw[Xx];refine m.takeA L.sa k λy hy z hz=>?_;obtain⟨i,i1,i2,hi,rfl⟩:=Cj hy;obtain⟨j,j1,hj,rfl⟩:=Ef hz;exact h i i1 i2 hi j j1 hj
theorem Lo.manyB(L:Lo G rk a b){k:Nat}(m:MI rk a.toList b.toList out.toList ia ib)(h:∀i,ib<=i->i<ib+k->∀hi:i<b.size,∀j,ia<=j->∀hj:j<a.size,rk b[i]<=rk a[j]):MI rk a.toList b.toList (out++b.extract ib (ib+k)).toList ia (ib+k):=by
 rw[Xx];refine m.takeB L.sb k λy hy z hz=>?_;obtain⟨i,i1,i2,hi,rfl⟩:=Cj hy;obtain⟨j,j1,hj,rfl⟩:=Ef hz;exact h i i1 i2 hi j j1 hj
theorem RM(g:Gx st ah)(m:Nat):Gx st (J8 (kindOf ah) (AR ah) (BN ah) m (G7 ah)):=⟨g.arr,g.kind,g.failed,g.pend⟩
theorem setMin{g:Nat}{Q:Unit->BD->Prop}(h:Q () (J8 (kindOf st) (AR st) (BN st) g (G7 st))):wpS (AM prog w) A E s (Dv g) Q st:=by
 rw[XC];exact IN h
def E1(rk:AE->Int)(a b:Array AE)(st:BD)(m:Nat)(r:S1)(ah:BD):Prop:=Gx st ah/\((∃x y,r=(uA x,y)/\Mg rk a.toList b.toList x.toList)\/∃out ia ib ac bc,r=(uB,out,ia,ib,ac,bc)/\At rk a b out ia ib/\m<=ia+ib)
def E2(rk:AE->Int)(a b:Array AE)(st:BD)(m:Nat)(r:S2)(ah:BD):Prop:=Gx st ah/\((∃x y,r=(uA x,y)/\Mg rk a.toList b.toList x.toList)\/∃out ia ib mg ac bc,r=(uB,out,ia,ib,mg,ac,bc)/\At rk a b out ia ib/\m<=ia+ib)
def Y1(rk:AE->Int)(a b:Array AE)(st:BD)(m:Nat)(r:S1)(ah:BD):Prop:=Gx st ah/\∃out ia ib ac bc,r=(uB,out,ia,ib,ac,bc)/\At rk a b out ia ib/\m<=ia+ib
def Y2(rk:AE->Int)(a b:Array AE)(st:BD)(m:Nat)(r:S2)(ah:BD):Prop:=Gx st ah/\∃out ia ib mg ac bc,r=(uB,out,ia,ib,mg,ac,bc)/\At rk a b out ia ib/\m<=ia+ib
theorem ZR(C:Cmp prog w A E s κ G rk)(L:Lo G rk a b){mg:Nat}(kd:kindOf bo=κ)(g:Gx bo st)(at_:At rk a b out ia ib)(hm:m<=ia+ib) :
  wpS (AM prog w) A E s (loOne a b mg (uB,out,ia,ib,ac,bc)) (λr ah=>match r with| .done c'=>E1 rk a b bo (m+1) c' ah| .yield c'=>Y1 rk a b bo (m+1) c' ah) st:=by
 obtain⟨mi,la,lb⟩:=at_;have fi:ia<a.size:=uW la;unfold loOne;dsimp only;refine AO (Bk lb (AO (Bk fi (AO (C _ _ (L.gb.at lb) (L.ga.at fi) st _ (g.kind.trans kd) ?_)))));by_cases c:rk b[ib]<rk a[ia]
 .rw[uE c]
  dsimp only;rw[uD rfl];refine AO (Bk lb ?_);have b4:=L.stepB mi lb λj j1 hj=>ES (FR c) (Fg L.sa j1 hj);by_cases c1:ib+1=b.size
  .rw[uD (by rw[c1];exact beq_self_eq_true _)]
   exact A2 ⟨g,.inl ⟨_,_,rfl,L.done b4 (vk c1)⟩⟩
  .rw[uC (by intro z;exact c1 (beq_iff_eq.mp z))]
   by_cases c2:bc+1 >= mg
   .rw[uD c2]
    exact A2 ⟨g,.inr ⟨_,_,_,_,_,rfl,⟨b4,la,vC lb c1⟩,yF hm⟩⟩
   .rw[uC c2]
    exact A2 ⟨g,_,_,_,_,_,rfl,⟨b4,la,vC lb c1⟩,yF hm⟩
 .rw[uF c]
  dsimp only;rw[uC (by decide)];refine AO (Bk fi ?_);have b4:=L.stepA mi fi λj j1 hj=>ES (J7.mp c) (Fg L.sb j1 hj);by_cases c1:ia+1+1=a.size
  .rw[uD (by rw[c1];exact beq_self_eq_true _)]
   exact A2 ⟨g,.inl ⟨_,_,rfl,L.last b4 c1⟩⟩
  .rw[uC (by intro z;exact c1 (beq_iff_eq.mp z))]
   by_cases c2:ac+1 >= mg
   .rw[uD c2]
    exact A2 ⟨g,.inr ⟨_,_,_,_,_,rfl,⟨b4,vC la c1,lb⟩,yG hm⟩⟩
   .rw[uC c2]
    exact A2 ⟨g,_,_,_,_,_,rfl,⟨b4,vC la c1,lb⟩,yG hm⟩
theorem Nz(L:Lo G rk a b){mg:Nat}(g:Gx bo st)(mi:MI rk a.toList b.toList out.toList ia ib)(la:ia+1<a.size)(lb:ib<b.size)(h:∀j,ib<=j->∀hj:j<b.size,rk (a[ia]'(uW la))<=rk b[j])(hm:m<=ia+ib) :
  wpS (AM prog w) A E s (loEnd a b mg ac bc out ia ib) (λr ah=>match r with| .done c'=>E2 rk a b bo m c' ah| .yield c'=>Y2 rk a b bo m c' ah) st:=by
 have fi:ia<a.size:=uW la;unfold loEnd;refine AO (Bk fi ?_);have b4:=L.stepA mi fi h;by_cases c1:ia+1+1=a.size
 .rw[uD (by rw[c1];exact beq_self_eq_true _)]
  exact A2 ⟨g,.inl ⟨_,_,rfl,L.last b4 c1⟩⟩
 .rw[uC (by intro z;exact c1 (beq_iff_eq.mp z))]
  by_cases c2:(decide (ac<7)&&decide (bc<7))=true
  .rw[uD c2]
   exact A2 ⟨g,.inr ⟨_,_,_,_,_,_,rfl,⟨b4,vC la c1,lb⟩,xc hm⟩⟩
  .rw[uC c2]
   exact A2 ⟨g,_,_,_,_,_,_,rfl,⟨b4,vC la c1,lb⟩,xc hm⟩
theorem Ep{key:AE}{base:Nat}(h:base+i<arr.size):bey rk false key arr base i=!decide (rk key<rk arr[base+i]):=by
 unfold bey;rw[uC (by decide),Ge h]
theorem Ft{key:AE}{base:Nat}(h:base+i<arr.size):bey rk true key arr base i=decide (rk arr[base+i]<rk key):=by
 unfold bey;rw[uD rfl,Ge h]
theorem Py(C:Cmp prog w A E s κ G rk)(L:Lo G rk a b){mg k:Nat}(kd:kindOf bo=κ)(g:Gx bo st)(mi:MI rk a.toList b.toList out.toList ia ib)(la:ia+1<a.size)(lb:ib<b.size)(h:∀j,ia<=j->∀hj:j<a.size,rk b[ib]<=rk a[j])(hm:m<=ia+ib) :
  wpS (AM prog w) A E s (loMid a b mg k bc out ia ib) (λr ah=>match r with| .done c'=>E2 rk a b bo m c' ah| .yield c'=>Y2 rk a b bo m c' ah) st:=by
 have fi:ia<a.size:=uW la;unfold loMid;refine AO (Bk lb ?_);have b4:=L.stepB mi lb h;by_cases c1:ib+1=b.size
 .rw[uD (by rw[c1];exact beq_self_eq_true _)]
  exact A2 ⟨g,.inl ⟨_,_,rfl,L.done b4 (vk c1)⟩⟩
 .rw[uC (by intro z;exact c1 (beq_iff_eq.mp z))]
  refine AO (Bk fi ?_);refine AO (Ds C (L.ga.at fi) L.gb (g.kind.trans kd) (yH lb) (by lia) (Fz (Rj L.sb (yH lb))) λk' kn kt kf=>?_);dsimp only;have t1:∀i,ib+1<=i->i<ib+1+k'->∀hi:i<b.size,rk b[i]<rk a[ia]:=λi i1 i2 hi=>by
   have z:=kt (i-(ib+1)) (wq i2 i1);rw[Ft (yI i1 hi)] at z;have e:ib+1+(i-(ib+1))=i:=vy i1;simp only[e] at z;exact uG z
  have t2:∀j,ib+1+k'<=j->∀hj:j<b.size,rk a[ia]<=rk b[j]:=λi i1 hi=>by
   have z:=kf (i-(ib+1)) (wt i1) (yJ hi i1);rw[Ft (yK i1 hi)] at z;have e:ib+1+(i-(ib+1))=i:=wu i1;simp only[e] at z;exact J7.mp (of_decide_eq_false z)
  by_cases c2:k'>0
  .rw[uD c2]
   have f7:=L.manyB (k:=k') b4 λi i1 i2 hi j j1 hj=>ES (FR (t1 i i1 i2 hi)) (Fg L.sa j1 hj);by_cases c3:ib+1+k'=b.size
   .rw[uD (by rw[c3];exact beq_self_eq_true _)]
    exact A2 ⟨g,.inl ⟨_,_,rfl,L.done f7 (vk c3)⟩⟩
   .rw[uC (by intro z;exact c3 (beq_iff_eq.mp z))]
    exact Nz L g f7 la (by lia) t2 (by lia)
  .rw[uC c2]
   have:k'=0:=yL c2;subst this;exact Nz L g b4 la (vC lb c1) t2 (by lia)
theorem Ny(C:Cmp prog w A E s κ G rk)(L:Lo G rk a b){mg:Nat}(kd:kindOf bo=κ)(g:Gx bo st)(at_:At rk a b out ia ib)(hm:m<=ia+ib) :
  wpS (AM prog w) A E s (loGal a b mg ac bc out ia ib) (λr ah=>match r with| .done c'=>E2 rk a b bo m c' ah| .yield c'=>Y2 rk a b bo m c' ah) st:=by
 obtain⟨mi,la,lb⟩:=at_;have fi:ia<a.size:=uW la;unfold loGal;refine AO (setMin ?_);have g':=RM g mg;generalize J8 (kindOf st) (AR st) (BN st) mg (G7 st)=st1 at g';refine AO (Bk lb ?_);refine AO (Ds C (L.gb.at lb) L.ga (g'.kind.trans kd) (yM la) (by lia) (Fz (Rj L.sa (yM la))) λk kn kt kf=>?_);dsimp only;have t1:∀i,ia<=i->i<ia+k->∀hi:i<a.size,rk a[i]<=rk b[ib]:=λi i1 i2 hi=>by
  have z:=kt (i-ia) (wq i2 i1);rw[Ep (yI i1 hi)] at z;have e:ia+(i-ia)=i:=vy i1;simp only[e] at z;refine J7.mp λy=>?_;rw[uE y] at z;cases z
 have t2:∀j,ia+k<=j->∀hj:j<a.size,rk b[ib]<=rk a[j]:=λi i1 hi=>by
  have z:=kf (i-ia) (wt i1) (yJ hi i1);rw[Ep (yK i1 hi)] at z;have e:ia+(i-ia)=i:=wu i1;simp only[e] at z;have z':decide (rk b[ib]<rk a[i])=true:=by
   cases q:decide (rk b[ib]<rk a[i]) with
   | true=>rfl
   | false=>rw[q] at z;cases z
  exact FR (uG z')
 by_cases c2:k>0
 .rw[uD c2]
  have f7:=L.manyA (k:=k) mi λi i1 i2 hi j j1 hj=>ES (t1 i i1 i2 hi) (Fg L.sb j1 hj);by_cases c3:ia+k+1=a.size
  .rw[uD (by rw[c3];exact beq_self_eq_true _)]
   exact A2 ⟨g',.inl ⟨_,_,rfl,L.last f7 c3⟩⟩
  .rw[uC (by intro z;exact c3 (beq_iff_eq.mp z))]
   by_cases c4:ia+k=a.size
   .rw[uD (by rw[c4];exact beq_self_eq_true _)]
    exact A2 ⟨g',.inl ⟨_,_,rfl,L.doneA f7 (vk c4)⟩⟩
   .rw[uC (by intro z;exact c4 (beq_iff_eq.mp z))]
    exact Py C L kd g' f7 (by lia) lb t2 (xc hm)
 .rw[uC c2]
  have:k=0:=yL c2;subst this;exact Py C L kd g' mi la lb t2 hm
theorem Sg(C:Cmp prog w A E s κ G rk)(L:Lo G rk a b)(kd:kindOf st=κ)(a1:1<=a.size)(b1:1<=b.size)(hf:∀j,∀hj:j<a.size,rk b[0]<=rk a[j]){Q:Array AE->BD->Prop}(h:∀r ah,Gx st ah->Mg rk a.toList b.toList r.toList->Q r ah):wpS (AM prog w) A E s (Ir a b) Q st:=by
 rw[Rv];refine AO (NI (IJ ⟨rfl,?_⟩));refine AO (Bk b1 ?_);have mi0:MI rk a.toList b.toList (#[]:Array AE).toList 0 0:=⟨LU _,L3,λx hx=>(by cases hx),λx hx=>(by cases hx)⟩;have mi:=L.stepB mi0 b1 λj _ hj=>hf j hj;by_cases c1:1=b.size
 .rw[uD (by rw[<- c1];rfl)]
  exact A2 (h _ _ (Gx.refl _) (L.done mi (vk c1)))
 rw[uC (by intro z;exact c1 (beq_iff_eq.mp z))];by_cases c2:0+1=a.size
 .rw[uD (by rw[<- c2];rfl)]
  exact A2 (h _ _ (Gx.refl _) (L.last mi c2))
 rw[uC (by intro z;exact c2 (beq_iff_eq.mp z))];refine AO (KU ?_);refine AO (EJ (DT (I:=λx c ah=>Gx st ah/\∃out ia ib mg,c=(uB,out,ia,ib,mg)/\At rk a b out ia ib/\x+1<=ia+ib)
  (Q:=λc ah=>Gx st ah/\∃x y,c=(uA x,y)/\Mg rk a.toList b.toList x.toList) ?_ ?_ ⟨Gx.refl _,_,_,_,_,rfl,⟨mi,by lia,wj b1 c1⟩,vH⟩) ?_)
 .rintro x c ah _ xn ⟨g,out,ia,ib,mg,rfl,at_,xm⟩
  refine AO (EJ (DT (I:=λy c ah=>Y1 rk a b st (x+1+y) c ah) (Q:=E1 rk a b st (x+2)) ?_ ?_ ⟨g,_,_,_,_,_,rfl,at_,yN xm⟩) ?_)
  .rintro y c bb _ yn ⟨g2,out2,ia2,ib2,ac,bc,rfl,at2,hm⟩
   refine EJ (ZR C L kd g2 at2 hm) λr cS hr=>?_;cases r with
   | done c' =>
    obtain⟨g3,q⟩:=hr;refine⟨g3,q.imp id λ⟨o,i,j,k,l,e,a',b'⟩=>⟨o,i,j,k,l,e,a',by lia⟩⟩
   | yield c'=>exact hr
  .rintro c bb ⟨g2,out2,ia2,ib2,ac,bc,rfl,at2,hm⟩
   exact⟨g2,.inr ⟨_,_,_,_,_,rfl,at2,by lia⟩⟩
  .rintro c bb ⟨g2,⟨r,y,rfl,m⟩| ⟨out2,ia2,ib2,ac,bc,rfl,at2,hm⟩⟩
   .exact A2 ⟨g2,_,_,rfl,m⟩
   .refine AO (NI (IJ ⟨rfl,?_⟩))
    refine AO (EJ (DT (I:=λy c ah=>Y2 rk a b st (x+2) c ah) (Q:=E2 rk a b st (x+2)) ?_ ?_ ⟨g2,_,_,_,_,_,_,rfl,at2,hm⟩) ?_)
    .rintro y c cS _ yn ⟨g3,out3,ia3,ib3,mg3,ac3,bc3,rfl,at3,hm3⟩
     split
     .exact EJ (Ny C L kd g3 at3 hm3) λr st4 hr=>by cases r<;>exact hr
     .exact EJ (Ny C L kd g3 at3 hm3) λr st4 hr=>by cases r<;>exact hr
    .rintro c cS ⟨g3,out3,ia3,ib3,mg3,ac3,bc3,rfl,at3,hm3⟩
     exact⟨g3,.inr ⟨_,_,_,_,_,_,rfl,at3,hm3⟩⟩
    .rintro c cS ⟨g3,⟨r,y,rfl,m⟩| ⟨out3,ia3,ib3,mg3,ac3,bc3,rfl,at3,hm3⟩⟩
     .exact A2 ⟨g3,_,_,rfl,m⟩
     .refine AO (setMin (A2 ⟨RM g3 _,_,_,_,_,rfl,at3,by lia⟩))
 .rintro c ah ⟨g,out,ia,ib,mg,rfl,⟨_,la,lb⟩,xm⟩
  lia
 .rintro c ah ⟨g,x,y,rfl,m⟩
  exact A2 (h _ _ g m)
end
variable{rk:AE->Int}{G:AE->Prop}
abbrev hiDone(a b out:Array AE)(na nb:Nat):Array AE:=a.extract 0 na++b.extract 0 nb++out.reverse
abbrev Hv(a b out:Array AE)(na nb:Nat):Array AE:=b.extract 0 nb++a.extract 0 na++out.reverse
abbrev T1:=Option (Array AE)×Nat×Nat×Array AE×Nat×Nat
abbrev T2:=Option (Array AE)×Nat×Nat×Array AE×Nat×Nat×Nat
abbrev T0:=Option (Array AE)×Nat×Nat×Array AE×Nat
noncomputable def hiOne(a b:Array AE)(mg:Nat)(r:T1):StateT BD Sem (ForInStep T1):=do
 let y <- DZ b (r.2.2.1-1)
 let x <- DZ a (r.2.1-1)
 let c <- lt' y x
 match c with
 | some aWins =>
  if aWins=true then do
   let x <- DZ a (r.2.1-1)
   if(r.2.1-1==0)=true then
    pure (BS (uA (hiDone a b (r.2.2.2.1.push x) (r.2.1-1) r.2.2.1),r.2.1-1,r.2.2.1,r.2.2.2.1.push x,r.2.2.2.2.1+1,0))
   else if r.2.2.2.2.1+1 >= mg then
    pure (BS (uB,r.2.1-1,r.2.2.1,r.2.2.2.1.push x,r.2.2.2.2.1+1,0))
   else pure (C4 (uB,r.2.1-1,r.2.2.1,r.2.2.2.1.push x,r.2.2.2.2.1+1,0))
  else do
   let y <- DZ b (r.2.2.1-1)
   if(r.2.2.1-1==1)=true then
    pure (BS (uA (Hv a b (r.2.2.2.1.push y) r.2.1 (r.2.2.1-1)),r.2.1,r.2.2.1-1,r.2.2.2.1.push y,0,r.2.2.2.2.2+1))
   else if r.2.2.2.2.2+1 >= mg then
    pure (BS (uB,r.2.1,r.2.2.1-1,r.2.2.2.1.push y,0,r.2.2.2.2.2+1))
   else pure (C4 (uB,r.2.1,r.2.2.1-1,r.2.2.2.1.push y,0,r.2.2.2.2.2+1))
 | _=>pure (BS (uA (hiDone a b r.2.2.2.1 r.2.1 r.2.2.1),r.2.1,r.2.2.1,r.2.2.2.1,r.2.2.2.2.1,r.2.2.2.2.2))
noncomputable def hiEnd(a b:Array AE)(mg ac bc:Nat)(out:Array AE)(na nb:Nat):StateT BD Sem (ForInStep T2):=do
 let x <- DZ a (na-1)
 if(na-1==0)=true then pure (BS (uA (hiDone a b (out.push x) (na-1) nb),na-1,nb,out.push x,mg,ac,bc))
 else if(decide (ac<7)&&decide (bc<7))=true then pure (BS (uB,na-1,nb,out.push x,mg,ac,bc))
 else pure (C4 (uB,na-1,nb,out.push x,mg,ac,bc))
noncomputable def hiMid(a b:Array AE)(mg k bc:Nat)(out:Array AE)(na nb:Nat):StateT BD Sem (ForInStep T2):=do
 let y <- DZ b (nb-1)
 if(nb-1==1)=true then pure (BS (uA (Hv a b (out.push y) na (nb-1)),na,nb-1,out.push y,mg,k,bc))
 else do
  let x <- DZ a (na-1)
  let r <- Dg true x b 0 (nb-1) (nb-1-1)
  match r with
  | some t =>
   if nb-1-t>0 then
    if(t==1)=true then pure (BS (uA (Hv a b (out.push y++(b.extract t (nb-1)).reverse) na t),na,t,out.push y++(b.extract t (nb-1)).reverse,mg,k,nb-1-t))
    else if(t==0)=true then pure (BS (uA (hiDone a b (out.push y++(b.extract t (nb-1)).reverse) na t),na,t,out.push y++(b.extract t (nb-1)).reverse,mg,k,nb-1-t))
    else hiEnd a b mg k (nb-1-t) (out.push y++(b.extract t (nb-1)).reverse) na t
   else hiEnd a b mg k (nb-1-t) (out.push y) na (nb-1)
  | _=>pure (BS (uA (hiDone a b (out.push y) na (nb-1)),na,nb-1,out.push y,mg,k,bc))
noncomputable def hiGal(a b:Array AE)(mg ac bc:Nat)(out:Array AE)(na nb:Nat):StateT BD Sem (ForInStep T2):=do
 Dv mg
 let y <- DZ b (nb-1)
 let r <- Dg false y a 0 na (na-1)
 match r with
 | some t =>
  if na-t>0 then
   if(t==0)=true then pure (BS (uA (hiDone a b (out++(a.extract t na).reverse) t nb),t,nb,out++(a.extract t na).reverse,mg,na-t,bc))
   else hiMid a b mg (na-t) bc (out++(a.extract t na).reverse) t nb
  else hiMid a b mg (na-t) bc out na nb
 | _=>pure (BS (uA (hiDone a b out na nb),na,nb,out,mg,ac,bc))
def JF:Array AE->Array AE->StateT BD Sem (Array AE):=sortPriv% PySem.Builtin.mergeHi
theorem WK(a b:Array AE):JF a b=(do
 rule "list.sort.merge-hi"
 let total:=a.size+b.size
 let done (out:Array AE) (na nb:Nat):=a.extract 0 na++b.extract 0 nb++out.reverse
 let firstOfB (out:Array AE) (na nb:Nat):=b.extract 0 nb++a.extract 0 na++out.reverse
 let mut na:=a.size-1
 let mut nb:=b.size
 let mut out:Array AE:=#[<- DZ a na]
 if na==0 then return done out na nb
 if nb==1 then return firstOfB out na nb
 let mut minGallop:=RI (<- get)
 for _ in [0:total] do
  let mut acount:=0
  let mut bcount:=0
  for _ in [0:total] do
   let uA aWins <- lt' (<- DZ b (nb-1)) (<- DZ a (na-1))| return done out na nb
   if aWins then
    na:=na-1;out:=out.push (<- DZ a na);acount:=acount+1;bcount:=0
    if na==0 then return done out na nb
    if acount >= minGallop then break
   else
    nb:=nb-1;out:=out.push (<- DZ b nb);bcount:=bcount+1;acount:=0
    if nb==1 then return firstOfB out na nb
    if bcount >= minGallop then break
  rule "list.sort.gallop"
  minGallop:=minGallop+1
  for _ in [0:total] do
   if minGallop>1 then minGallop:=minGallop-1
   Dv minGallop
   let uA at_ <- Dg false (<- DZ b (nb-1)) a 0 na (na-1)| return done out na nb
   let k:=na-at_
   acount:=k
   if k>0 then
    out:=out++(a.extract at_ na).reverse;na:=at_
    if na==0 then return done out na nb
   nb:=nb-1;out:=out.push (<- DZ b nb)
   if nb==1 then return firstOfB out na nb
   let uA at_ <- Dg true (<- DZ a (na-1)) b 0 nb (nb-1)| return done out na nb
   let k:=nb-at_
   bcount:=k
   if k>0 then
    out:=out++(b.extract at_ nb).reverse;nb:=at_
    if nb==1 then return firstOfB out na nb
    if nb==0 then return done out na nb
   na:=na-1;out:=out.push (<- DZ a na)
   if na==0 then return done out na nb
   if acount<7&&bcount<7 then break
  minGallop:=minGallop+1
  Dv minGallop
 unsupported "internal:list.sort.merge-bound"):=rfl
theorem Tv(a b:Array AE):JF a b=(do
 liftM (rule "list.sort.merge-hi")
 let x <- DZ a (a.size-1)
 if(a.size-1==0)=true then pure (hiDone a b #[x] (a.size-1) b.size)
 else if(b.size==1)=true then pure (Hv a b #[x] (a.size-1) b.size)
 else do
  let g <- get
  let r <- forIn [0:a.size+b.size] ((uB,a.size-1,b.size,#[x],RI g):T0) λ_ r0=>do
   let r1 <- forIn [0:a.size+b.size] ((uB,r0.2.1,r0.2.2.1,r0.2.2.2.1,0,0):T1) λ_ r=>hiOne a b r0.2.2.2.2 r
   match r1.1 with
   | some x=>pure (BS ((uA x,r1.2.1,r1.2.2.1,r1.2.2.2.1,r0.2.2.2.2):T0))
   | none=>do
    liftM (rule "list.sort.gallop")
    let r2 <- forIn [0:a.size+b.size] ((uB,r1.2.1,r1.2.2.1,r1.2.2.2.1,r0.2.2.2.2+1,r1.2.2.2.2.1,r1.2.2.2.2.2):T2) λ_ r =>
     if r.2.2.2.2.1>1 then hiGal a b (r.2.2.2.2.1-1) r.2.2.2.2.2.1 r.2.2.2.2.2.2 r.2.2.2.1 r.2.1 r.2.2.1
     else hiGal a b r.2.2.2.2.1 r.2.2.2.2.2.1 r.2.2.2.2.2.2 r.2.2.2.1 r.2.1 r.2.2.1
    match r2.1 with
    | some x=>pure (BS ((uA x,r2.2.1,r2.2.2.1,r2.2.2.2.1,r2.2.2.2.2.1):T0))
    | none=>do
     Dv (r2.2.2.2.2.1+1)
     pure (C4 ((uB,r2.2.1,r2.2.2.1,r2.2.2.2.1,r2.2.2.2.2.1+1):T0))
  match r.1 with
  | some x=>pure x
  | none=>unsupported "internal:list.sort.merge-bound"):=by
 rw[WK];dsimp only
 congr 1
 funext _
 congr 1
 funext y
 refine ifc rfl (ifc rfl ?_)
 congr 1
 funext g
 congr 1
 .congr 1
  funext x r0
  congr 1
  funext r1
  obtain⟨o1,r1⟩:=r1;cases o1 with
  | some x=>rfl
  | none =>
   dsimp only
   congr 1
   funext u
   congr 1
   funext r2
   obtain⟨o2,r2⟩:=r2;cases o2<;>rfl
 .funext r
  obtain⟨o,r⟩:=r;cases o<;>rfl
variable{rk:AE->Int}{G:AE->Prop}
abbrev nk(rk:AE->Int):AE->Int:=λx=>- rk x
theorem Wq{a b l q:List AE}(m:Mg (nk rk) b.reverse a.reverse l)(e:q=l.reverse):Mg rk a b q:=by
 obtain⟨p,sr⟩:=m;subst e;refine⟨(OF l).trans (p.trans ?_),?_⟩
 .exact(((OF b).append (OF a))).trans IA
 .exact ML.mpr (sr.imp λ{x y} h=>by
   have:- rk x<=- rk y:=h;lia)
theorem Ed{a:Array AE}(h:n<=a.size):a.toList.reverse.drop (a.size-n)=(a.toList.take n).reverse:=by
 rw[List.drop_reverse]
 congr 2
 simp;exact xN h
section
variable{a b:Array AE}
def HAt(rk:AE->Int)(a b out:Array AE)(na nb:Nat):Prop:=MI (nk rk) b.toList.reverse a.toList.reverse out.toList (b.size-nb) (a.size-na)/\na<=a.size/\nb<=b.size
structure Hi(G:AE->Prop)(rk:AE->Int)(a b:Array AE):Prop where
 ga:Al G a
 gb:Al G b
 sa:Srt rk a.toList
 sb:Srt rk b.toList
 hf:∀j,∀hj:j<a.size,∀h0:0<b.size,rk b[0]<=rk a[j]
theorem Gb{l:List AE}(h:Srt rk l):Srt (nk rk) l.reverse:=ML.mpr (h.imp λ{x y} h=>by show-rk y<=- rk x;exact w4 h)
theorem Fj{a:Array AE}{z:AE}(hn:n<=a.size)(h:z∈a.toList.reverse.drop (a.size-n)):∃j,j<n/\∃hj:j<a.size,z=a[j]:=by
 rw[Ed hn] at h;have h':=HP.mp h;obtain⟨k,hk,e⟩:=C1.mp h';rw[B0] at hk;have:a.toList.length=a.size:=by simp
 refine⟨k,v9 hk,by lia,?_⟩;rw[<- e,Kt];simp
theorem rtake{a:Array AE}{t:Nat}(hn:n<=a.size)(ht:t<=n):(a.toList.reverse.drop (a.size-n)).take (n-t)=((a.toList.drop t).take (n-t)).reverse:=by
 rw[Ed hn,List.take_reverse]
 congr 1
 have:a.toList.length=a.size:=by simp
 rw[B0,show min n a.toList.length-(n-t)=t by lia,List.drop_take]
theorem Us{a:Array AE}{t:Nat}(hn:n<=a.size)(ht:t<=n):(out++(a.extract t n).reverse).toList=out.toList++(a.toList.reverse.drop (a.size-n)).take (n-t):=by
 rw[rtake hn ht,DF,K7,G8]
theorem Nu{a:Array AE}(h1:1<=n)(hn:n<=a.size):(out.push (a[n-1]'(vf h1 hn))).toList=out.toList++(a.toList.reverse.drop (a.size-n)).take 1:=by
 have:=rtake (a:=a) (n:=n) (t:=n-1) hn vt;rw[show n-(n-1)=1 from xN h1] at this;rw[this,KA]
 congr 1
 have hl:n-1<a.toList.length:=by simp;exact vf h1 hn
 rw[LD hl,NA,Q3];simp
theorem Hi.stepA(L:Hi G rk a b)(m:HAt rk a b out na nb)(h1:1<=na)(h:∀j,j<nb->∀hj:j<b.size,rk b[j]<=rk (a[na-1]'(by have:=m.2.1;exact vf h1 this))):HAt rk a b (out.push (a[na-1]'(by have:=m.2.1;exact vf h1 this))) (na-1) nb:=by
 obtain⟨mi,ha,hb⟩:=m;refine⟨?_,wN ha,hb⟩;rw[Nu h1 ha,show a.size-(na-1)=a.size-na+1 from yt ha h1];refine mi.takeB (Gb L.sa) 1 λy hy z hz=>?_;rw[show(1:Nat)=na-(na-1) from yu h1,rtake ha vt] at hy;obtain⟨j,j1,j2,hj,rfl⟩:=Cj (HP.mp hy);have:j=na-1:=yv j2 j1;subst this;obtain⟨i,i1,hi,rfl⟩:=Fj hb hz;have:=h i i1 hi;show-_<=- _;lia
theorem Hi.stepB(L:Hi G rk a b)(m:HAt rk a b out na nb)(h1:1<=nb)(h:∀j,j<na->∀hj:j<a.size,rk a[j]<=rk (b[nb-1]'(by have:=m.2.2;exact vf h1 this))):HAt rk a b (out.push (b[nb-1]'(by have:=m.2.2;exact vf h1 this))) na (nb-1):=by
 obtain⟨mi,ha,hb⟩:=m;refine⟨?_,ha,wN hb⟩;rw[Nu h1 hb,show b.size-(nb-1)=b.size-nb+1 from yt hb h1];refine mi.takeA (Gb L.sb) 1 λy hy z hz=>?_;rw[show(1:Nat)=nb-(nb-1) from yu h1,rtake hb vt] at hy;obtain⟨j,j1,j2,hj,rfl⟩:=Cj (HP.mp hy);have:j=nb-1:=yv j2 j1;subst this;obtain⟨i,i1,hi,rfl⟩:=Fj ha hz;have:=h i i1 hi;show-_<=- _;lia
theorem Hi.manyA(L:Hi G rk a b){t:Nat}(m:HAt rk a b out na nb)(ht:t<=na)(h:∀i,t<=i->i<na->∀hi:i<a.size,∀j,j<nb->∀hj:j<b.size,rk b[j]<=rk a[i]):HAt rk a b (out++(a.extract t na).reverse) t nb:=by
 obtain⟨mi,ha,hb⟩:=m;refine⟨?_,vS ht ha,hb⟩;rw[Us ha ht,show a.size-t=a.size-na+(na-t) from yw ht ha];refine mi.takeB (Gb L.sa) _ λy hy z hz=>?_;rw[rtake ha ht] at hy;obtain⟨i,i1,i2,hi,rfl⟩:=Cj (HP.mp hy);obtain⟨j,j1,hj,rfl⟩:=Fj hb hz;have:=h i i1 (yx i2 ht) hi j j1 hj;show-_<=- _;exact w4 this
theorem Hi.manyB(L:Hi G rk a b){t:Nat}(m:HAt rk a b out na nb)(ht:t<=nb)(h:∀i,t<=i->i<nb->∀hi:i<b.size,∀j,j<na->∀hj:j<a.size,rk a[j]<=rk b[i]):HAt rk a b (out++(b.extract t nb).reverse) na t:=by
 obtain⟨mi,ha,hb⟩:=m;refine⟨?_,ha,vS ht hb⟩;rw[Us hb ht,show b.size-t=b.size-nb+(nb-t) from yw ht hb];refine mi.takeA (Gb L.sb) _ λy hy z hz=>?_;rw[rtake hb ht] at hy;obtain⟨i,i1,i2,hi,rfl⟩:=Cj (HP.mp hy);obtain⟨j,j1,hj,rfl⟩:=Fj ha hz;have:=h i i1 (yx i2 ht) hi j j1 hj;show-_<=- _;exact w4 this
theorem Hx(a:Array AE)(n:Nat):(a.extract 0 n).toList=a.toList.take n:=by
 rw[G8];simp[S6]
theorem Hi.doneA(L:Hi G rk a b)(m:HAt rk a b out na nb)(z:na=0):Mg rk a.toList b.toList (hiDone a b out na nb).toList:=by
 subst z;obtain⟨mi,ha,hb⟩:=m;refine Wq (mi.doneB (Gb L.sb) (by simp)) ?_;rw[Ed hb,Ed ha];unfold hiDone;rw[DF,DF,K7,Hx,Hx,HK,HK,G9,G9,CU]
theorem Hi.doneB(L:Hi G rk a b)(m:HAt rk a b out na nb)(z:nb=0):Mg rk a.toList b.toList (hiDone a b out na nb).toList:=by
 subst z;obtain⟨mi,ha,hb⟩:=m;refine Wq (mi.doneA (Gb L.sa) (by simp)) ?_;rw[Ed hb,Ed ha];unfold hiDone;rw[DF,DF,K7,Hx,Hx,HK,HK,G9,G9,CU]
theorem Hi.first(L:Hi G rk a b)(m:HAt rk a b out na nb)(z:nb=1):Mg rk a.toList b.toList (Hv a b out na nb).toList:=by
 subst z;obtain⟨mi,ha,hb⟩:=m;refine Wq (mi.last (Gb L.sa) (by simp;exact wR hb) λy hy z hz=>?_) ?_
 .obtain⟨j,j1,hj,rfl⟩:=Fj hb hz
  have:j=0:=by lia
  subst this;obtain⟨i,hi,rfl⟩:=C1.mp (HP.mp hy);have br:i<a.size:=by simpa using hi
  have:=L.hf i br hj;simp;exact this
 .rw[Ed hb,Ed ha]
  unfold Hv;rw[DF,DF,K7,Hx,Hx,HK,HK,G9,G9,CU]
def F1(rk:AE->Int)(a b:Array AE)(st:BD)(m:Nat)(r:T1)(ah:BD):Prop:=Gx st ah/\((∃x y,r=(uA x,y)/\Mg rk a.toList b.toList x.toList)\/∃out na nb ac bc,r=(uB,na,nb,out,ac,bc)/\HAt rk a b out na nb/\1<=na/\2<=nb/\na+nb+m<=a.size+b.size)
def F2(rk:AE->Int)(a b:Array AE)(st:BD)(m:Nat)(r:T2)(ah:BD):Prop:=Gx st ah/\((∃x y,r=(uA x,y)/\Mg rk a.toList b.toList x.toList)\/∃out na nb mg ac bc,r=(uB,na,nb,out,mg,ac,bc)/\HAt rk a b out na nb/\1<=na/\2<=nb/\na+nb+m<=a.size+b.size)
def Z1(rk:AE->Int)(a b:Array AE)(st:BD)(m:Nat)(r:T1)(ah:BD):Prop:=Gx st ah/\∃out na nb ac bc,r=(uB,na,nb,out,ac,bc)/\HAt rk a b out na nb/\1<=na/\2<=nb/\na+nb+m<=a.size+b.size
def Z2(rk:AE->Int)(a b:Array AE)(st:BD)(m:Nat)(r:T2)(ah:BD):Prop:=Gx st ah/\∃out na nb mg ac bc,r=(uB,na,nb,out,mg,ac,bc)/\HAt rk a b out na nb/\1<=na/\2<=nb/\na+nb+m<=a.size+b.size
theorem AAr(C:Cmp prog w A E s κ G rk)(L:Hi G rk a b){mg:Nat}(kd:kindOf bo=κ)(g:Gx bo st)(at_:HAt rk a b out na nb)(n1:1<=na)(n2:2<=nb)(hm:na+nb+m<=a.size+b.size) :
  wpS (AM prog w) A E s (hiOne a b mg (uB,na,nb,out,ac,bc)) (λr ah=>match r with| .done c'=>F1 rk a b bo (m+1) c' ah| .yield c'=>Z1 rk a b bo (m+1) c' ah) st:=by
 obtain⟨_,ha,hb⟩:=id at_;have la:na-1<a.size:=vf n1 ha;have lb:nb-1<b.size:=wm n2 hb;unfold hiOne;dsimp only;refine AO (Bk lb (AO (Bk la (AO (C _ _ (L.gb.at lb) (L.ga.at la) st _ (g.kind.trans kd) ?_)))));by_cases c:rk b[nb-1]<rk a[na-1]
 .rw[uE c]
  dsimp only;rw[uD rfl];refine AO (Bk la ?_);have b4:=L.stepA at_ n1 λj j1 hj=>ES (Fg L.sb (show j<=nb-1 from vJ j1) lb) (FR c);by_cases c1:na-1=0
  .rw[uD (by rw[c1];rfl)]
   exact A2 ⟨g,.inl ⟨_,_,rfl,L.doneA b4 c1⟩⟩
  .rw[uC (by intro z;exact c1 (beq_iff_eq.mp z))]
   by_cases c2:ac+1 >= mg
   .rw[uD c2]
    exact A2 ⟨g,.inr ⟨_,_,_,_,_,rfl,b4,vK c1,n2,yy hm n1⟩⟩
   .rw[uC c2]
    exact A2 ⟨g,_,_,_,_,_,rfl,b4,vK c1,n2,yy hm n1⟩
 .rw[uF c]
  dsimp only;rw[uC (by decide)];refine AO (Bk lb ?_);have b4:=L.stepB at_ (w6 n2) λj j1 hj=>ES (Fg L.sa (show j<=na-1 from vJ j1) la) (J7.mp c);by_cases c1:nb-1=1
  .rw[uD (by rw[c1];rfl)]
   exact A2 ⟨g,.inl ⟨_,_,rfl,L.first b4 c1⟩⟩
  .rw[uC (by intro z;exact c1 (beq_iff_eq.mp z))]
   by_cases c2:bc+1 >= mg
   .rw[uD c2]
    exact A2 ⟨g,.inr ⟨_,_,_,_,_,rfl,b4,n1,w9 n2 c1,yA n2 hm⟩⟩
   .rw[uC c2]
    exact A2 ⟨g,_,_,_,_,_,rfl,b4,n1,w9 n2 c1,yA n2 hm⟩
theorem OD(L:Hi G rk a b){mg:Nat}(g:Gx bo st)(at_:HAt rk a b out na nb)(n1:1<=na)(n2:2<=nb)(h:∀j,j<nb->∀hj:j<b.size,rk b[j]<=rk (a[na-1]'(by have:=at_.2.1;exact vf n1 this)))(hm:na+nb+m<=a.size+b.size) :
  wpS (AM prog w) A E s (hiEnd a b mg ac bc out na nb) (λr ah=>match r with| .done c'=>F2 rk a b bo m c' ah| .yield c'=>Z2 rk a b bo m c' ah) st:=by
 obtain⟨_,ha,hb⟩:=id at_;have la:na-1<a.size:=vf n1 ha;unfold hiEnd;refine AO (Bk la ?_);have b4:=L.stepA at_ n1 h;by_cases c1:na-1=0
 .rw[uD (by rw[c1];rfl)]
  exact A2 ⟨g,.inl ⟨_,_,rfl,L.doneA b4 c1⟩⟩
 .rw[uC (by intro z;exact c1 (beq_iff_eq.mp z))]
  by_cases c2:(decide (ac<7)&&decide (bc<7))=true
  .rw[uD c2]
   exact A2 ⟨g,.inr ⟨_,_,_,_,_,_,rfl,b4,vK c1,n2,yB hm⟩⟩
  .rw[uC c2]
   exact A2 ⟨g,_,_,_,_,_,_,rfl,b4,vK c1,n2,yB hm⟩
theorem Oh(C:Cmp prog w A E s κ G rk)(L:Hi G rk a b){mg k:Nat}(kd:kindOf bo=κ)(g:Gx bo st)(at_:HAt rk a b out na nb)(n1:1<=na)(n2:2<=nb)(h:∀j,j<na->∀hj:j<a.size,rk a[j]<=rk (b[nb-1]'(by have:=at_.2.2;exact wm n2 this)))(hm:na+nb+m<=a.size+b.size) :
  wpS (AM prog w) A E s (hiMid a b mg k bc out na nb) (λr ah=>match r with| .done c'=>F2 rk a b bo m c' ah| .yield c'=>Z2 rk a b bo m c' ah) st:=by
 obtain⟨_,ha,hb⟩:=id at_;have la:na-1<a.size:=vf n1 ha;have lb:nb-1<b.size:=wm n2 hb;unfold hiMid;refine AO (Bk lb ?_);have b4:=L.stepB at_ (w6 n2) h;by_cases c1:nb-1=1
 .rw[uD (by rw[c1];rfl)]
  exact A2 ⟨g,.inl ⟨_,_,rfl,L.first b4 c1⟩⟩
 .rw[uC (by intro z;exact c1 (beq_iff_eq.mp z))]
  refine AO (Bk la ?_);refine AO (Ds C (L.ga.at la) L.gb (g.kind.trans kd) (yC lb) (by lia) (Fz (Rj L.sb (yC lb))) λt kn kt kf=>?_);dsimp only;have t1:∀i,i<t->∀hi:i<b.size,rk b[i]<rk a[na-1]:=λi i1 hi=>by
   have z:=kt i i1;rw[Ft (wo hi)] at z;simp only[G0] at z;exact uG z
  have t2:∀j,t<=j->j<nb-1->∀hj:j<b.size,rk a[na-1]<=rk b[j]:=λi i1 i2 hi=>by
   have z:=kf i i1 i2;rw[Ft (wo hi)] at z;simp only[G0] at z;exact J7.mp (of_decide_eq_false z)
  by_cases c2:nb-1-t>0
  .rw[uD c2]
   have f7:=L.manyB (t:=t) b4 kn λi i1 i2 hi j j1 hj=>ES (Fg L.sa (show j<=na-1 from vJ j1) la) (t2 i i1 i2 hi);by_cases c3:t=1
   .rw[uD (by rw[c3];rfl)]
    exact A2 ⟨g,.inl ⟨_,_,rfl,L.first f7 c3⟩⟩
   .rw[uC (by intro z;exact c3 (beq_iff_eq.mp z))]
    by_cases c4:t=0
    .rw[uD (by rw[c4];rfl)]
     exact A2 ⟨g,.inl ⟨_,_,rfl,L.doneB f7 c4⟩⟩
    .rw[uC (by intro z;exact c4 (beq_iff_eq.mp z))]
     exact OD L g f7 n1 (by lia) (λj j1 hj=>FR (t1 j j1 hj)) (by lia)
  .rw[uC c2]
   exact OD L g b4 n1 (w9 n2 c1) (λj j1 hj=>FR (t1 j (yD j1 c2) hj)) (by lia)
theorem Pg(C:Cmp prog w A E s κ G rk)(L:Hi G rk a b){mg:Nat}(kd:kindOf bo=κ)(g:Gx bo st)(at_:HAt rk a b out na nb)(n1:1<=na)(n2:2<=nb)(hm:na+nb+m<=a.size+b.size) :
  wpS (AM prog w) A E s (hiGal a b mg ac bc out na nb) (λr ah=>match r with| .done c'=>F2 rk a b bo m c' ah| .yield c'=>Z2 rk a b bo m c' ah) st:=by
 obtain⟨_,ha,hb⟩:=id at_;have lb:nb-1<b.size:=wm n2 hb;unfold hiGal;refine AO (setMin ?_);have g':=RM g mg;generalize J8 (kindOf st) (AR st) (BN st) mg (G7 st)=st1 at g';refine AO (Bk lb ?_);refine AO (Ds C (L.gb.at lb) L.ga (g'.kind.trans kd) (yE ha) (v5 n1) (Fz (Rj L.sa (yE ha))) λt kn kt kf=>?_);dsimp only;have t1:∀i,i<t->∀hi:i<a.size,rk a[i]<=rk b[nb-1]:=λi i1 hi=>by
  have z:=kt i i1;rw[Ep (wo hi)] at z;simp only[G0] at z;refine J7.mp λy=>?_;rw[uE y] at z;cases z
 have t2:∀j,t<=j->j<na->∀hj:j<a.size,rk b[nb-1]<=rk a[j]:=λi i1 i2 hi=>by
  have z:=kf i i1 i2;rw[Ep (wo hi)] at z;simp only[G0] at z;have z':decide (rk b[nb-1]<rk a[i])=true:=by
   cases q:decide (rk b[nb-1]<rk a[i]) with
   | true=>rfl
   | false=>rw[q] at z;cases z
  exact FR (uG z')
 by_cases c2:na-t>0
 .rw[uD c2]
  have f7:=L.manyA (t:=t) at_ kn λi i1 i2 hi j j1 hj=>ES (Fg L.sb (show j<=nb-1 from vJ j1) lb) (t2 i i1 i2 hi);by_cases c3:t=0
  .rw[uD (by rw[c3];rfl)]
   exact A2 ⟨g',.inl ⟨_,_,rfl,L.doneA f7 c3⟩⟩
  .rw[uC (by intro z;exact c3 (beq_iff_eq.mp z))]
   exact Oh C L kd g' f7 (vK c3) n2 (λj j1 hj=>t1 j j1 hj) (by lia)
 .rw[uC c2]
  exact Oh C L kd g' at_ n1 n2 (λj j1 hj=>t1 j (yD j1 c2) hj) hm
theorem Sx(C:Cmp prog w A E s κ G rk)(L:Hi G rk a b)(kd:kindOf st=κ)(a1:1<=a.size)(b1:1<=b.size)(hl:∀j,∀hj:j<b.size,rk b[j]<=rk (a[a.size-1]'(v5 a1))){Q:Array AE->BD->Prop}(h:∀r ah,Gx st ah->Mg rk a.toList b.toList r.toList->Q r ah):wpS (AM prog w) A E s (JF a b) Q st:=by
 rw[Tv];refine AO (NI (IJ ⟨rfl,?_⟩));refine AO (Bk (v5 a1) ?_);have mi0:HAt rk a b #[] a.size b.size:=⟨by
  rw[IZ,IZ];exact⟨IA.trans IA,L3,λx hx=>(by cases hx),λx hx=>(by cases hx)⟩,AF _,AF _⟩
 have mi:=L.stepA mi0 a1 λj _ hj=>hl j hj;by_cases c1:a.size-1=0
 .rw[uD (by rw[c1];rfl)]
  exact A2 (h _ _ (Gx.refl _) (L.doneA mi c1))
 rw[uC (by intro z;exact c1 (beq_iff_eq.mp z))];by_cases c2:b.size=1
 .rw[uD (by rw[c2];rfl)]
  exact A2 (h _ _ (Gx.refl _) (L.first mi c2))
 rw[uC (by intro z;exact c2 (beq_iff_eq.mp z))];refine AO (KU ?_);refine AO (EJ (DT (I:=λx c ah=>Gx st ah/\∃out na nb mg,c=(uB,na,nb,out,mg)/\HAt rk a b out na nb/\1<=na/\2<=nb/\na+nb+(x+1)<=a.size+b.size)
  (Q:=λc ah=>Gx st ah/\∃x y,c=(uA x,y)/\Mg rk a.toList b.toList x.toList) ?_ ?_ ⟨Gx.refl _,_,_,_,_,rfl,mi,vK c1,by lia,by lia⟩) ?_)
 .rintro x c ah _ xn ⟨g,out,na,nb,mg,rfl,at_,n1,n2,xm⟩
  refine AO (EJ (DT (I:=λy c ah=>Z1 rk a b st (x+1+y) c ah) (Q:=F1 rk a b st (x+2)) ?_ ?_ ⟨g,_,_,_,_,_,rfl,at_,n1,n2,by lia⟩) ?_)
  .rintro y c bb _ yn ⟨g2,out2,na2,nb2,ac,bc,rfl,at2,m1,m2,hm⟩
   refine EJ (AAr C L kd g2 at2 m1 m2 hm) λr cS hr=>?_;cases r with
   | done c' =>
    obtain⟨g3,q⟩:=hr;refine⟨g3,q.imp id λ⟨o,i,j,k,l,e,a',b',c',d'⟩=>⟨o,i,j,k,l,e,a',b',c',by lia⟩⟩
   | yield c'=>exact hr
  .rintro c bb ⟨g2,out2,na2,nb2,ac,bc,rfl,at2,m1,m2,hm⟩
   exact⟨g2,.inr ⟨_,_,_,_,_,rfl,at2,m1,m2,by lia⟩⟩
  .rintro c bb ⟨g2,⟨r,y,rfl,m⟩| ⟨out2,na2,nb2,ac,bc,rfl,at2,m1,m2,hm⟩⟩
   .exact A2 ⟨g2,_,_,rfl,m⟩
   .refine AO (NI (IJ ⟨rfl,?_⟩))
    refine AO (EJ (DT (I:=λy c ah=>Z2 rk a b st (x+2) c ah) (Q:=F2 rk a b st (x+2)) ?_ ?_ ⟨g2,_,_,_,_,_,_,rfl,at2,m1,m2,hm⟩) ?_)
    .rintro y c cS _ yn ⟨g3,out3,na3,nb3,mg3,ac3,bc3,rfl,at3,k1,k2,hm3⟩
     split
     .exact EJ (Pg C L kd g3 at3 k1 k2 hm3) λr st4 hr=>by cases r<;>exact hr
     .exact EJ (Pg C L kd g3 at3 k1 k2 hm3) λr st4 hr=>by cases r<;>exact hr
    .rintro c cS ⟨g3,out3,na3,nb3,mg3,ac3,bc3,rfl,at3,k1,k2,hm3⟩
     exact⟨g3,.inr ⟨_,_,_,_,_,_,rfl,at3,k1,k2,hm3⟩⟩
    .rintro c cS ⟨g3,⟨r,y,rfl,m⟩| ⟨out3,na3,nb3,mg3,ac3,bc3,rfl,at3,k1,k2,hm3⟩⟩
     .exact A2 ⟨g3,_,_,rfl,m⟩
     .refine AO (setMin (A2 ⟨RM g3 _,_,_,_,_,rfl,at3,k1,k2,by lia⟩))
 .rintro c ah ⟨g,out,na,nb,mg,rfl,at_,n1,n2,xm⟩
  lia
 .rintro c ah ⟨g,x,y,rfl,m⟩
  exact A2 (h _ _ g m)
end
variable{rk:AE->Int}{G:AE->Prop}
def lay(arr:Array AE)(sa:Nat)(r:Array AE):Array AE:=r.toList.zipIdx.foldl (λa (p,j)=>a.setIfInBounds (sa+j) p) arr
theorem VN(sa:Nat):∀(l:List AE) (k:Nat) (arr:Array AE),sa+k+l.length<=arr.size->∀q:Nat,
  ((l.zipIdx k).foldl (λa (x:AE×Nat)=>a.setIfInBounds (sa+x.2) x.1) arr).size=arr.size/\((l.zipIdx k).foldl (λa (x:AE×Nat)=>a.setIfInBounds (sa+x.2) x.1) arr)[q]?=if sa+k<=q/\q<sa+k+l.length then l[q-(sa+k)]? else arr[q]?
 | [],k,arr,h,q=>by
  refine⟨rfl,?_⟩;rw[uC (by simp)];rfl
 | x::l,k,arr,h,q=>by
  rw[C9] at h;rw[List.zipIdx_cons,MV];have ih:=VN sa l (k+1) (arr.setIfInBounds (sa+k) x) (by rw[Jn];lia) q;refine⟨ih.1.trans Jn,ih.2.trans ?_⟩;rw[C9];by_cases c:sa+k<=q/\q<sa+k+(l.length+1)
  .rw[uD c]
   by_cases d:q=sa+k
   .subst d
    rw[uC (by lia),Array.getElem?_setIfInBounds_self_of_lt (by lia)];simp
   .rw[uD (by lia),show q-(sa+k)=(q-(sa+(k+1)))+1 by lia,List.getElem?_cons_succ]
  .rw[uC c,uC (by lia),Array.getElem?_setIfInBounds_ne (by lia)]
theorem QT{r:Array AE}(h:sa+r.size<=arr.size)(q:Nat):(lay arr sa r)[q]?=if sa<=q/\q<sa+r.size then r[q-sa]? else arr[q]?:=by
 have:=(VN sa r.toList 0 arr (by simpa using h) q).2;unfold lay;simpa using this
theorem ADU{r:Array AE}{mid:Nat}(lm:lo<=mid)(mh:mid<=hi)(ha:hi<=arr.size)(p:r.toList.Perm ((arr.extract lo mid).toList++(arr.extract mid hi).toList)):(lay arr lo r).Perm arr:=by
 have rl:r.size=hi-lo:=by
  have:=p.length_eq;simp at this;lia
 have e:(lay arr lo r).toList=arr.toList.take lo++(r.toList++arr.toList.drop hi):=by
  apply FG;intro q;rw[Cf,QT (by lia)];by_cases c:q<lo
  .rw[uC (yf c),By (by simp;lia),G3 c,Cf]
  .rw[CF (by simp;lia)]
   have e1:(arr.toList.take lo).length=lo:=by simp;lia
   rw[e1];by_cases d:q<hi
   .rw[uD (by lia),By (by simp;lia),Cf]
   .rw[uC (by lia),CF (by simp;lia),S4,A9,rl,Cf]
    congr 1
    lia
 have e2:arr.toList=arr.toList.take lo++(((arr.extract lo mid).toList++(arr.extract mid hi).toList)++arr.toList.drop hi):=by
  have x1:(arr.extract lo mid).toList=(arr.toList.drop lo).take (mid-lo):=by rw[G8]
  have x2:(arr.extract mid hi).toList=(arr.toList.drop mid).take (hi-mid):=by rw[G8]
  rw[x1,x2,CU];have y2:(arr.toList.drop mid).take (hi-mid)++arr.toList.drop hi=arr.toList.drop mid:=by
   rw[show arr.toList.drop hi=(arr.toList.drop mid).drop (hi-mid) by rw[Q2];congr 1;exact zk mh];exact F8 ..
  rw[y2];have y1:(arr.toList.drop lo).take (mid-lo)++arr.toList.drop mid=arr.toList.drop lo:=by
   rw[show arr.toList.drop mid=(arr.toList.drop lo).drop (mid-lo) by rw[Q2];congr 1;exact zk lm];exact F8 ..
  rw[y1];exact(F8 ..).symm
 refine IE.mpr ?_;rw[e,e2];have e3:(WC lo arr.toList++(((arr.extract lo mid).toList++(arr.extract mid hi).toList)++arr.toList.drop hi)).take lo=WC lo arr.toList:=by rw[<- e2]
 have e4:(WC lo arr.toList++(((arr.extract lo mid).toList++(arr.extract mid hi).toList)++arr.toList.drop hi)).drop hi=arr.toList.drop hi:=by rw[<- e2]
 first
  | exact Fc _ (Mm _ p)
  | (rw[e3,e4];exact Fc _ (Mm _ p))
theorem GZ(h:Al G arr)(i j:Nat):Al G (arr.extract i j):=λk x e=>by
 rw[Array.getElem?_extract] at e;split at e
 .exact h _ x e
 .cases e
theorem srt_extract(h:Up rk arr i j)(hj:j<=arr.size):Srt rk (arr.extract i j).toList:=by
 unfold Srt;rw[CO];intro p q hp hq pq;simp at hp hq;have:=h (i+p) (i+q) u9 (by lia) (by lia);rw[Ge (zm hp),Ge (zm hq)] at this;simpa using this
theorem ACk{k:Nat}(h:k<(arr.extract i j).size):(arr.extract i j)[k]=arr[i+k]'(by simp at h;lia):=by simp
def Ch(rk:AE->Int)(arr:Array AE):List (Nat×Nat×Nat)->Nat->Nat->Prop
 | [],lo,hi=>lo=hi
 | (s,n,_)::ar,lo,hi=>s=lo/\1<=n/\Up rk arr lo (lo+n)/\Ch rk arr ar (lo+n) hi
theorem Ch.le:∀{l:List (Nat×Nat×Nat)}{lo hi:Nat},Ch rk arr l lo hi->lo+l.length<=hi
 | [],lo,hi,h=>by have h':lo=hi:=h;simp;exact vB h'
 | (s,n,_)::ar,lo,hi,⟨_,h1,_,h⟩=>by have:=Ch.le h;simp;lia
theorem Up.congr(h:Up rk arr lo hi)(e:∀i,lo<=i->i<hi->ik[i]?=arr[i]?):Up rk ik lo hi:=λi j li ij jh=>by
 rw[Ez (e i li (ve ij jh)),Ez (e j (vS li ij) jh)];exact h i j li ij jh
theorem Ch.congr:∀{l:List (Nat×Nat×Nat)}{lo hi:Nat},Ch rk arr l lo hi->(∀i,lo<=i->i<hi->ik[i]?=arr[i]?)->Ch rk ik l lo hi
 | [],lo,hi,h,_=>h
 | (s,n,_)::ar,lo,hi,⟨e1,h1,u,h⟩,e=>by
  have le:=Ch.le h;exact⟨e1,h1,u.congr λi li il=>e i li (by lia),Ch.congr h λi li il=>e i (vc li) il⟩
theorem Ch.cut:∀{l m:List (Nat×Nat×Nat)}{lo hi:Nat},Ch rk arr (l++m) lo hi↔∃mid,Ch rk arr l lo mid/\Ch rk arr m mid hi
 | [],m,lo,hi=>⟨λh=>⟨lo,rfl,h⟩,λ⟨mid,e,h⟩=>by have e':lo=mid:=e;rw[e'];exact h⟩
 | (s,n,x)::l,m,lo,hi=>⟨by
   rintro⟨e1,h1,u,h⟩;obtain⟨mid,a,b⟩:=Ch.cut.mp h;exact⟨mid,⟨e1,h1,u,a⟩,b⟩,by rintro⟨mid,⟨e1,h1,u,a⟩,b⟩;exact⟨e1,h1,u,Ch.cut.mpr ⟨mid,a,b⟩⟩⟩
variable{rk:AE->Int}{G:AE->Prop}
def Gn:Nat->StateT BD Sem Bool:=sortPriv% PySem.Builtin.mergeAt
noncomputable abbrev En(st:BD)(p:Array (Nat×Nat×Nat)):BD:=J8 (kindOf st) (AR st) p (RI st) (G7 st)
theorem Ut(i:Nat):Gn i=(do
 let s <- get
 let (uA (sa,na,power),uA (sb,nb,_)):=((BN s)[i]?,(BN s)[i+1]?)| unsupported "internal:list.sort.pending"
 set (En s (((BN s).setIfInBounds i (sa,na+nb,power)).eraseIdxIfInBounds (i+1)))
 let uA k <- Dg false (<- DZ (AR s) sb) (AR s) sa na 0| return false
 let (sa,na):=(sa+k,na-k)
 if na==0 then return true
 let uA nb <- Dg true (<- DZ (AR s) (sa+na-1)) (AR s) sb nb (nb-1)| return false
 if nb==0 then return true
 let x:=(AR s).extract sa sb
 let y:=(AR s).extract sb (sb+nb)
 let merged <- if na<=nb then Ir x y else JF x y
 modify λs=>VQ s (lay (AR s) sa merged)
 return (G7 (<- get)).isNone):=rfl
theorem AEa{σ:Type}{M:W0}{x:σ}{Q:PUnit->σ->Prop}{st:σ}(h:Q ⟨⟩ x):wpS M A E s (set x:StateT σ Sem PUnit) Q st:=by
 unfold wpS;rw[StateT.run_set];exact AC ⟨rfl,h⟩
theorem Tg(C:Cmp prog w A E s κ G rk)(B:Ba G rk κ a₀ st){pa sb pb:Nat}(hp1:(BN st)[i]?=uA (sa,na,pa))(kG:(BN st)[i+1]?=uA (sb,nb,pb))(nz:sb=sa+na)(n1:1<=na)(n2:1<=nb)(hz:sb+nb<=a₀.size)(ua:Up rk (AR st) sa (sa+na))(ub:Up rk (AR st) sb (sb+nb)){Q:Bool->BD->Prop}
  (h:∀ah,Ba G rk κ a₀ ah->BN ah=((BN st).setIfInBounds i (sa,na+nb,pa)).eraseIdxIfInBounds (i+1)->(∀q,q<sa\/sb+nb<=q->(AR ah)[q]?=(AR st)[q]?)->Up rk (AR ah) sa (sb+nb)->Q true ah):wpS (AM prog w) A E s (Gn i) Q st:=by
 have sz:=B.size;have al:=B.all.perm B.perm;rw[Ut];refine AO (KU ?_);rw[hp1,kG];dsimp only;refine AO (AEa ?_);have B1:Ba G rk κ a₀ (En st (((BN st).setIfInBounds i (sa,na+nb,pa)).eraseIdxIfInBounds (i+1))):=⟨B.perm,B.kind,B.failed,B.all,B.di⟩;have hb:sb<(AR st).size:=by lia
 refine AO (Bk hb ?_);refine AO (Ds C (al.at hb) al B1.kind (ya hb nz) (by lia) (Fz ua) λk kn kt kf=>?_);dsimp only;have t1:∀q,sa<=q->q<sa+k->N rk (AR st) q<=N rk (AR st) sb:=λq q1 q2=>by
  have z:=kt (q-sa) (wq q2 q1);rw[Ep (by lia)] at z;have e:sa+(q-sa)=q:=vy q1;simp only[e] at z;rw[Ge (show q<(AR st).size by lia),Ge hb];refine J7.mp λy=>?_;rw[uE y] at z;cases z
 have t2:∀q,sa+k<=q->q<sa+na->N rk (AR st) sb<N rk (AR st) q:=λq q1 q2=>by
  have z:=kf (q-sa) (wt q1) (yP q2 q1);rw[Ep (by lia)] at z;have e:sa+(q-sa)=q:=wu q1;simp only[e] at z;rw[Ge (show q<(AR st).size from yQ q2 hb nz),Ge hb];cases c:decide (rk (AR st)[sb]<rk ((AR st)[q]'(yQ q2 hb nz))) with
  | true=>exact uG c
  | false=>rw[c] at z;cases z
 by_cases c1:na-k=0
 .rw[uD (by rw[c1];rfl)]
  refine A2 (h _ B1 rfl (λ_ _=>rfl) λp q sp pq qh=>?_);by_cases d:q<sa+na
  .exact ua p q sp pq d
  .by_cases d':p<sa+na
   .exact ES (t1 p sp (by lia)) (ub sb q (AF _) (xf nz d) qh)
   .exact ub p q (xf nz d') pq qh
 rw[uC (by intro z;exact c1 (beq_iff_eq.mp z))];have hl:sa+k+(na-k)-1<(AR st).size:=by lia
 refine AO (Bk hl ?_);refine AO (Ds C (al.at hl) al B1.kind (by lia) (v5 n2) (Fz ub) λm mn mt mf=>?_);dsimp only;have el:sa+k+(na-k)-1=sb-1:=by lia
 have u1:∀q,sb<=q->q<sb+m->N rk (AR st) q<N rk (AR st) (sb-1):=λq q1 q2=>by
  have z:=mt (q-sb) (wq q2 q1);rw[Ft (by lia)] at z;have e:sb+(q-sb)=q:=vy q1;simp only[e,el] at z;rw[Ge (show q<(AR st).size by lia),Ge (show sb-1<(AR st).size from we hl el)];exact uG z
 have u2:∀q,sb+m<=q->q<sb+nb->N rk (AR st) (sb-1)<=N rk (AR st) q:=λq q1 q2=>by
  have z:=mf (q-sb) (wt q1) (yP q2 q1);rw[Ft (by lia)] at z;have e:sb+(q-sb)=q:=wu q1;simp only[e,el] at z;rw[Ge (show q<(AR st).size by lia),Ge (show sb-1<(AR st).size from we hl el)];exact J7.mp (of_decide_eq_false z)
 by_cases c2:m=0
 .rw[uD (by rw[c2];rfl)]
  refine A2 (h _ B1 rfl (λ_ _=>rfl) λp q sp pq qh=>?_);by_cases d:q<sa+na
  .exact ua p q sp pq d
  .by_cases d':p<sa+na
   .exact ES (ua p (sb-1) sp (by lia) (by lia)) (u2 q (by lia) qh)
   .exact ub p q (xf nz d') pq qh
 rw[uC (by intro z;exact c2 (beq_iff_eq.mp z))];have exs:((AR st).extract (sa+k) sb).size=sb-(sa+k):=by simp;lia
 have eys:((AR st).extract sb (sb+m)).size=m:=by simp;lia
 have sx:Srt rk ((AR st).extract (sa+k) sb).toList:=srt_extract (λp q a b c=>ua p q (vc a) b (vP c nz)) (vX hb);have sy:Srt rk ((AR st).extract sb (sb+m)).toList:=srt_extract (λp q a b c=>ub p q a b (xg c mn)) (yR hz mn sz);have atx:∀j,∀hj:j<((AR st).extract (sa+k) sb).size,rk ((AR st).extract (sa+k) sb)[j]=N rk (AR st) (sa+k+j):=λj hj=>by
  rw[ACk hj,Ge (by lia)]
 have aty:∀j,∀hj:j<((AR st).extract sb (sb+m)).size,rk ((AR st).extract sb (sb+m))[j]=N rk (AR st) (sb+j):=λj hj=>by
  rw[ACk hj,Ge (by lia)]
 have first:∀j,∀hj:j<((AR st).extract (sa+k) sb).size,∀h0:0<((AR st).extract sb (sb+m)).size,rk (((AR st).extract sb (sb+m))[0]'h0)<=rk ((AR st).extract (sa+k) sb)[j]:=λj hj h0=>by
  rw[atx j hj,aty 0 h0,M4];exact FR (t2 _ u9 (by lia))
 have og:∀j,∀hj:j<((AR st).extract sb (sb+m)).size,rk ((AR st).extract sb (sb+m))[j]<=N rk (AR st) (sb-1):=λj hj=>by
  rw[aty j hj];exact FR (u1 _ u9 (yS hj eys))
 have fin:∀(r:Array AE) (bb:BD),Gx (En st (((BN st).setIfInBounds i (sa,na+nb,pa)).eraseIdxIfInBounds (i+1))) bb->Mg rk ((AR st).extract (sa+k) sb).toList ((AR st).extract sb (sb+m)).toList r.toList ->
   wpS (AM prog w) A E s (do modify λs=>VQ s (lay (AR s) (sa+k) r);let g <- get;pure (G7 g).isNone) Q bb:=by
  rintro r bb g ⟨pm,sr⟩;have rs:r.size=sb+m-(sa+k):=by
   have:=pm.length_eq;simp at this;lia
  have ea:=g.arr;have hs:sa+k+r.size<=(AR st).size:=by lia
  refine AO (IN ?_);refine AO (KU ?_);have ef:=g.failed.trans B.failed;rw[ef];have lp:=ADU (arr:=AR st) (r:=r) (lo:=sa+k) (mid:=sb) (hi:=sb+m) (by lia) u9 (yR hz mn sz) pm;have mem:∀j,∀hj:j<r.size,∃q,sa+k<=q/\q<sb+m/\rk r[j]=N rk (AR st) q:=λj hj=>by
   have:r[j]∈r.toList:=O4 hj;rcases Ct.mp (pm.mem_iff.mp this) with z| z
   .obtain⟨q,hq,e⟩:=C1.mp z
    have g9:q<((AR st).extract (sa+k) sb).size:=by rw[<- A9];exact hq
    exact⟨sa+k+q,u9,by lia,by rw[<- e,<- atx q g9];simp⟩
   .obtain⟨q,hq,e⟩:=C1.mp z
    have g9:q<((AR st).extract sb (sb+m)).size:=by rw[<- A9];exact hq
    exact⟨sb+q,by lia,yS g9 eys,by rw[<- e,<- aty q g9];simp⟩
  have laid:∀q,N rk (lay (AR st) (sa+k) r) q=if c:sa+k<=q/\q<sa+k+r.size then rk (r[q-(sa+k)]'(vV c)) else N rk (AR st) q:=λq=>by
   have e:=QT (arr:=AR st) (r:=r) (sa:=sa+k) hs q;by_cases c:sa+k<=q/\q<sa+k+r.size
   .rw[dif_pos c]
    rw[uD c] at e;unfold N;rw[e,Bi (vV c)]
   .rw[dif_neg c]
    rw[uC c] at e;exact Ez e
  refine A2 (h _ ⟨?_,g.kind.trans B.kind,ef,B.all,B.di⟩ g.pend (λq hq=>?_) ?_)
  .rw[ea]
   exact lp.trans B.perm
  .rw[ea,QT hs,uC (by lia)]
  .rw[ea]
   intro p q sp pq qh;rw[laid p,laid q];by_cases cp:sa+k<=p/\p<sa+k+r.size
   .rw[dif_pos cp]
    by_cases cq:sa+k<=q/\q<sa+k+r.size
    .rw[dif_pos cq]
     exact Fg sr (by lia) (vV cq)
    .rw[dif_neg cq]
     obtain⟨v,v1,v2,ev⟩:=mem (p-(sa+k)) (vV cp);rw[ev];by_cases d:v<sb
     .exact ES (ua v (sb-1) (vc v1) (vJ d) (by lia)) (u2 q (by lia) qh)
     .exact ub v q (uR d) (by lia) qh
   .rw[dif_neg cp]
    by_cases cq:sa+k<=q/\q<sa+k+r.size
    .rw[dif_pos cq]
     obtain⟨v,v1,v2,ev⟩:=mem (q-(sa+k)) (vV cq);rw[ev];by_cases d:v<sb
     .exact ua p v sp (by lia) (vP d nz)
     .exact ES (t1 p sp (by lia)) (ub sb v (AF _) (uR d) (xg v2 mn))
    .rw[dif_neg cq]
     by_cases d:q<sa+k
     .exact ua p q sp pq (xg d kn)
     .by_cases d2:p<sa+k
      .exact ES (t1 p sp d2) (ub sb q (AF _) (yT rs cq d) qh)
      .exact ub p q (yT rs cp d2) pq qh
 by_cases c3:na-k<=m
 .rw[uD c3]
  refine AO (Sg C ⟨GZ al _ _,GZ al _ _,sx,sy,λy hy z hz=>?_⟩ B1.kind (by lia) (yU eys c2) (λj hj=>first j hj (by lia)) λr bb g mg=>fin r bb g mg);obtain⟨j,j1,hj,rfl⟩:=Ef hz;obtain⟨q,hq,e⟩:=C1.mp hy;have g9:q<((AR st).extract sb (sb+m)).size:=by rw[<- A9];exact hq
  have e':y=((AR st).extract sb (sb+m))[q]:=by rw[<- e];simp
  rw[e',atx j hj,show sa+k+j=sb-1 by lia];exact og q g9
 .rw[uC c3]
  refine AO (Sx C ⟨GZ al _ _,GZ al _ _,sx,sy,λj hj h0=>first j hj h0⟩ B1.kind (by lia) (yU eys c2) (λj hj=>?_) λr bb g mg=>fin r bb g mg);rw[atx _ (by lia),show sa+k+(((AR st).extract (sa+k) sb).size-1)=sb-1 by lia];exact og j hj
variable{rk:AE->Int}{G:AE->Prop}
def Rf:Nat->Nat->Nat->Nat:=sortPriv% PySem.Builtin.minRun
def powerT:Nat->Nat->Nat->Nat->Nat:=sortPriv% PySem.Builtin.power
def Ot:StateT BD Sem Unit:=sortPriv% PySem.Builtin.sortRuns
theorem Qo:Ot=(do
 let size:=(AR (<- get)).size
 let minrun:=Rf size size 0
 let mut lo:=0
 for _ in [0:size] do
  if lo >= size then break
  let uA found <- Jm lo (size-lo)| return
  let mut n:=found
  if n<minrun then
   rule "list.sort.binary-insertion"
   let force:=min (size-lo) minrun
   if !(<- Le lo force n) then return
   n:=force
  if let uA (s1,n1,_):=(BN (<- get)).back? then
   let pw:=powerT size (2*s1+n1) (2*s1+n1+n1+n) size
   for _ in [0:size] do
    let p:=BN (<- get)
    let uA (_,_,older):=(if p.size>1 then p[p.size-2]? else uB)| break
    if older<=pw then break
    if !(<- Gn (p.size-2)) then return
   modify λs=>En s ((BN s).modify ((BN s).size-1) λ(st,len,_)=>(st,len,pw))
  modify λs=>En s ((BN s).push (lo,n,0))
  lo:=lo+n
 for _ in [0:size] do
  let p:=BN (<- get)
  if p.size<=1 then break
  let i:=p.size-2
  let before:=if i>0 then p[i-1]?.map (·.2.1) else uB
  let i:=if before.any (· < (p[i+1]?.elim 0 (·.2.1))) then i-1 else i
  if !(<- Gn i) then return):=rfl
structure Rn(G:AE->Prop)(rk:AE->Int)(κ:ER)(a₀:Array AE)(lo:Nat)(st:BD):Prop where
 ba:Ba G rk κ a₀ st
 ch:Ch rk (AR st) (BN st).toList 0 lo
theorem Lb{α:Type}:∀{l:List α}{i:Nat}{x y:α},l[i]?=uA x->l[i+1]?=uA y->l=l.take i++x::y::l.drop (i+2)
 | a::b::l,0,x,y,h1,h2=>by
  simp at h1 h2;subst h1 h2;rfl
 | a::l,i+1,x,y,h1,h2=>by
  have:=Lb (l:=l) (i:=i) (x:=x) (y:=y) (by simpa using h1) (by simpa using h2);rw[NA,UN]
  congr 1
theorem ZV{p:Array (Nat×Nat×Nat)}{x y v:Nat×Nat×Nat}(h1:p[i]?=uA x)(h2:p[i+1]?=uA y):((p.setIfInBounds i v).eraseIdxIfInBounds (i+1)).toList=p.toList.take i++v::p.toList.drop (i+2):=by
 have hi:=(C7.mp h2).1;have e:=Lb (l:=p.toList) (i:=i) (x:=x) (y:=y) (by rw[Cf];exact h1) (by rw[Cf];exact h2);have tl:(p.toList.take i).length=i:=by simp;lia
 have es:(p.setIfInBounds i v).toList=p.toList.take i++v::y::p.toList.drop (i+2):=by
  rw[Array.toList_setIfInBounds]
  conv=>lhs;rw[e]
  rw[List.set_append_right _ _ (vB tl),tl,IZ];rfl
 have hz:i+1<(p.setIfInBounds i v).size:=by rw[Jn];exact hi
 rw[O5,dif_pos hz,Array.toList_eraseIdx,es,List.eraseIdx_append_of_length_le (by lia),tl]
 congr 1
 rw[show i+1-i=1 by lia];rfl
theorem Ra(C:Cmp prog w A E s κ G rk)(R:Rn G rk κ a₀ lo st)(hl:lo<=a₀.size)(hi:i+1<(BN st).size){Q:Bool->BD->Prop}
  (h:∀ah,Rn G rk κ a₀ lo ah->(BN ah).size+1=(BN st).size->(∀q,lo<=q->(AR ah)[q]?=(AR st)[q]?)->Q true ah):wpS (AM prog w) A E s (Gn i) Q st:=by
 obtain⟨sa,na,pa,e1⟩:∃sa na pa,(BN st)[i]?=uA (sa,na,pa):=⟨_,_,_,Bi (uW hi)⟩;obtain⟨sb,nb,pb,e2⟩:∃sb nb pb,(BN st)[i+1]?=uA (sb,nb,pb):=⟨_,_,_,Bi hi⟩;have e:=Lb (l:=(BN st).toList) (i:=i) (by rw[Cf];exact e1) (by rw[Cf];exact e2);have ch:=R.ch;rw[e] at ch;obtain⟨mid,c1,rfl,n1,ua,rfl,n2,ub,c2⟩:=Ch.cut.mp ch;have le:=c2.le;have le1:=c1.le;have z2:sa+na+nb<=lo:=vc le;refine Tg C R.ba e1 e2 rfl n1 n2 (vS z2 hl) ua ub λah B' pe low up=>?_;have pl:=ZV (v:=(sa,na+nb,pa)) e1 e2;refine h ah ⟨B',?_⟩ ?_ λq hq=>low q (.inr (by lia))
 .rw[pe,pl]
  refine Ch.cut.mpr ⟨sa,c1.congr λq _ hq=>low q (.inl hq),rfl,vd n1,?_,?_⟩
  .rw[show sa+(na+nb)=sa+na+nb from wU]
   exact up
  .rw[show sa+(na+nb)=sa+na+nb from wU]
   exact c2.congr λq hq _=>low q (.inr hq)
 .have:=congrArg Fu pl
  rw[<- pe] at this;simp at this;lia
theorem Ch.mod{f:Nat×Nat×Nat->Nat×Nat×Nat}(hf:∀x,(f x).1=x.1/\(f x).2.1=x.2.1):∀{l:List (Nat×Nat×Nat)}{lo hi:Nat} (i:Nat),Ch rk arr l lo hi->Ch rk arr (l.modify i f) lo hi
 | [],lo,hi,i,h=>by rw[List.modify_nil];exact h
 | (a,n,p)::l,lo,hi,0,⟨e1,h1,u,h⟩=>by
  rw[List.modify_zero_cons];have:=hf (a,n,p);generalize f (a,n,p)=y at this;obtain⟨y1,y2,y3⟩:=y;obtain⟨z1,z2⟩:=this;subst z1 z2;exact⟨e1,h1,u,h⟩
 | (a,n,p)::l,lo,hi,i+1,⟨e1,h1,u,h⟩=>by
  rw[List.modify_succ_cons];exact⟨e1,h1,u,Ch.mod hf i h⟩
theorem AEi{c:Prop}{i:Decidable c}{a b:Nat}(h1:a<=m)(h2:b<=m):(@ite Nat c i a b)<=m:=by
 split
 .exact h1
 .exact h2
theorem Nh(C:Cmp prog w A E s κ G rk)(B:Ba G rk κ a₀ st)(hp:BN st=#[]){Q:Unit->BD->Prop}
  (h:∀ah,Ba G rk κ a₀ ah->Up rk (AR ah) 0 a₀.size->Q () ah):wpS (AM prog w) A E s Ot Q st:=by
 rw[Qo];refine AO (KU ?_);dsimp only;rw[B.size];refine AO (EJ (DT (I:=λx c ah=>∃lo,c=(uB,lo)/\x<=lo/\lo<=a₀.size/\Rn G rk κ a₀ lo ah) (Q:=λc ah=>c=(uB,a₀.size)/\Rn G rk κ a₀ a₀.size ah) ?_ ?_ ⟨0,rfl,AF _,AY _,B,by rw[hp];rfl⟩) ?_)
 .rintro x c st1 _ xn ⟨lo,rfl,xl,ll,R⟩
  dsimp only;by_cases c1:lo >= a₀.size
  .rw[uD c1]
   have:lo=a₀.size:=wP ll c1;subst this;exact A2 ⟨rfl,R⟩
  rw[uC c1];refine AO (Nq C R.ba (by lia) (by lia) λn bb n1 nn nx up=>?_);dsimp only;have R2:Rn G rk κ a₀ lo bb:=⟨R.ba.nx nx,by rw[nx.pend];exact R.ch.congr λi _ hi=>nx.low i hi⟩;by_cases c2:n<Rf a₀.size a₀.size 0
  .rw[uD c2]
   refine AO (NI (IJ ⟨rfl,?_⟩));obtain⟨f,ef⟩:∃f,f=min (a₀.size-lo) (Rf a₀.size a₀.size 0):=⟨_,rfl⟩;rw[<- ef];refine AO (Ri C R2.ba (n:=f) (xq ef c1) (by lia) up λcS nx3 up3=>?_);have R3:Rn G rk κ a₀ lo cS:=⟨R2.ba.nx nx3,by rw[nx3.pend];exact R2.ch.congr λi _ hi=>nx3.low i hi⟩;rw[uC (by decide)];refine AO (KU ?_);have put:∀{st4:BD},Rn G rk κ a₀ lo st4->(∀q,lo<=q->(AR st4)[q]?=(AR cS)[q]?)->Rn G rk κ a₀ (lo+f) (En st4 ((BN st4).push (lo,f,0))):=λ{st4} R4 e4=>⟨⟨R4.ba.perm,R4.ba.kind,R4.ba.failed,R4.ba.all,R4.ba.di⟩,by
    rw[KA];exact Ch.cut.mpr ⟨lo,R4.ch,rfl,by lia,up3.congr λq hq _=>e4 q hq,rfl⟩⟩
   cases hb:(BN cS).back? with
   | none =>
    dsimp only;exact AO (IN (A2 ⟨lo+f,rfl,ze xl n1 nn c2 ef,xq ef c1,put R3 λ_ _=>rfl⟩))
   | some v =>
    obtain⟨s1,m1,q1⟩:=v;dsimp only;refine AO (EJ (DT (I:=λ_ c st4=>c=(uB,())/\Rn G rk κ a₀ lo st4/\∀q,lo<=q->(AR st4)[q]?=(AR cS)[q]?) (Q:=λc st4=>c=(uB,())/\Rn G rk κ a₀ lo st4/\∀q,lo<=q->(AR st4)[q]?=(AR cS)[q]?) ?_ (λ_ _ h=>h) ⟨rfl,R3,λ_ _=>rfl⟩) ?_)
    .rintro y c st4 _ _ ⟨rfl,R4,e4⟩
     refine AO (KU ?_);by_cases d1:(BN st4).size>1
     .rw[uD d1,Bi (show(BN st4).size-2<(BN st4).size from zf d1)]
      dsimp only;split
      .exact A2 ⟨rfl,R4,e4⟩
      .refine AO (Ra C R4 ll (zg d1) λqT R5 _ e5=>?_)
       rw[uC (by decide)];exact A2 ⟨rfl,R5,λq hq=>(e5 q hq).trans (e4 q hq)⟩
     .rw[uC d1]
      exact A2 ⟨rfl,R4,e4⟩
    .rintro c st4 ⟨rfl,R4,e4⟩
     dsimp only;refine AO (IN (AO (IN (A2 ⟨lo+f,rfl,ze xl n1 nn c2 ef,xq ef c1,?_⟩))));refine put (st4:=En st4 ((BN st4).modify ((BN st4).size-1) _)) ⟨⟨R4.ba.perm,R4.ba.kind,R4.ba.failed,R4.ba.all,R4.ba.di⟩,?_⟩ e4;show Ch rk (AR st4) ((BN st4).modify ((BN st4).size-1) _).toList 0 lo;rw[Si];refine Ch.mod (f:=_) ?_ _ R4.ch;exact λ_=>⟨rfl,rfl⟩
  .rw[uC c2]
   refine AO (KU ?_);have put:∀{st4:BD},Rn G rk κ a₀ lo st4->(∀q,lo<=q->(AR st4)[q]?=(AR bb)[q]?)->Rn G rk κ a₀ (lo+n) (En st4 ((BN st4).push (lo,n,0))):=λ{st4} R4 e4=>⟨⟨R4.ba.perm,R4.ba.kind,R4.ba.failed,R4.ba.all,R4.ba.di⟩,by
    rw[KA];exact Ch.cut.mpr ⟨lo,R4.ch,rfl,n1,up.congr λq hq _=>e4 q hq,rfl⟩⟩
   cases hb:(BN bb).back? with
   | none =>
    dsimp only;exact AO (IN (A2 ⟨lo+n,rfl,zh xl n1,zi nn c1,put R2 λ_ _=>rfl⟩))
   | some v =>
    obtain⟨s1,m1,q1⟩:=v;dsimp only;refine AO (EJ (DT (I:=λ_ c st4=>c=(uB,())/\Rn G rk κ a₀ lo st4/\∀q,lo<=q->(AR st4)[q]?=(AR bb)[q]?) (Q:=λc st4=>c=(uB,())/\Rn G rk κ a₀ lo st4/\∀q,lo<=q->(AR st4)[q]?=(AR bb)[q]?) ?_ (λ_ _ h=>h) ⟨rfl,R2,λ_ _=>rfl⟩) ?_)
    .rintro y c st4 _ _ ⟨rfl,R4,e4⟩
     refine AO (KU ?_);by_cases d1:(BN st4).size>1
     .rw[uD d1,Bi (show(BN st4).size-2<(BN st4).size from zf d1)]
      dsimp only;split
      .exact A2 ⟨rfl,R4,e4⟩
      .refine AO (Ra C R4 ll (zg d1) λqT R5 _ e5=>?_)
       rw[uC (by decide)];exact A2 ⟨rfl,R5,λq hq=>(e5 q hq).trans (e4 q hq)⟩
     .rw[uC d1]
      exact A2 ⟨rfl,R4,e4⟩
    .rintro c st4 ⟨rfl,R4,e4⟩
     dsimp only;refine AO (IN (AO (IN (A2 ⟨lo+n,rfl,zh xl n1,zi nn c1,?_⟩))));refine put (st4:=En st4 ((BN st4).modify ((BN st4).size-1) _)) ⟨⟨R4.ba.perm,R4.ba.kind,R4.ba.failed,R4.ba.all,R4.ba.di⟩,?_⟩ e4;show Ch rk (AR st4) ((BN st4).modify ((BN st4).size-1) _).toList 0 lo;rw[Si];refine Ch.mod (f:=_) ?_ _ R4.ch;exact λ_=>⟨rfl,rfl⟩
 .rintro c ah ⟨lo,rfl,xl,ll,R⟩
  have:lo=a₀.size:=by lia
  subst this;exact⟨rfl,R⟩
 .rintro c ah ⟨rfl,R⟩
  dsimp only;refine AO (EJ (DT (I:=λx c bb=>c=(uB,())/\Rn G rk κ a₀ a₀.size bb/\((BN bb).size<=1\/(BN bb).size+x<=a₀.size)) (Q:=λc bb=>c=(uB,())/\Rn G rk κ a₀ a₀.size bb/\(BN bb).size<=1) ?_ ?_ ⟨rfl,R,.inr ?_⟩) ?_)
  .rintro x c bb _ xn ⟨rfl,R2,sz⟩
   refine AO (KU ?_);by_cases d1:(BN bb).size<=1
   .rw[uD d1]
    exact A2 ⟨rfl,R2,d1⟩
   .rw[uC d1]
    refine AO (Ra C R2 (AF _) ?_ λcS R3 z3 _=>?_)
    .exact EB (MM (AEi (m:=(BN bb).size-2) vt vH) 1) (by lia)
    .rw[uC (by decide)]
     exact A2 ⟨rfl,R3,by lia⟩
  .rintro c bb ⟨rfl,R2,sz⟩
   exact⟨rfl,R2,by lia⟩
  .have:=R.ch.le
   simp at this;exact yN this
  .rintro c bb ⟨rfl,R2,sz⟩
   refine A2 (h bb R2.ba ?_);have ch:=R2.ch;cases e:(BN bb).toList with
   | nil =>
    rw[e] at ch;have z:0=a₀.size:=ch;intro i j _ _ hj;lia
   | cons v l =>
    rw[e] at ch;obtain⟨v1,v2,v3⟩:=v;have ln:l=[]:=by
     have:=congrArg Fu e;simp at this;exact Cs.mp (by lia)
    subst ln;obtain⟨_,_,u,z⟩:=ch;have z':=z;rw[<- z'];exact u
end TM
namespace SB
open PySem PySem.W PyProof.Rows
theorem Vl:∀{x y:uI},HT.lexLt x y=true->HT.lexLt y x=false
 | [],[],h=>by cases h
 | [],_::_,_=>rfl
 | _::_,[],h=>by cases h
 | a::x,b::y,h=>by
  rw[HT.Cm] at h ⊢;by_cases c:a=b
  .rw[uD c] at h
   rw[uD c.symm];exact Vl h
  .rw[uC c] at h
   rw[uC (Cb c)];have:=uG h;exact uF (xR this)
theorem Vv:∀{x y:uI},x≠y->HT.lexLt x y=false->HT.lexLt y x=true
 | [],[],n,_=>uH rfl n
 | [],_::_,_,h=>by cases h
 | _::_,[],_,_=>rfl
 | a::x,b::y,n,h=>by
  rw[HT.Cm] at h ⊢;by_cases c:a=b
  .rw[uD c] at h
   rw[uD c.symm];exact Vv (λe=>n (by rw[c,e])) h
  .rw[uC c] at h
   rw[uC (Cb c)];have:=of_decide_eq_false h;exact uE (by lia)
theorem Wy:∀{x y z:uI},HT.lexLt x y=true->HT.lexLt y z=true->HT.lexLt x z=true
 | [],[],_,h,_=>by cases h
 | [],_::_,[],_,h=>by cases h
 | [],_::_,_::_,_,_=>rfl
 | _::_,[],_,h,_=>by cases h
 | _::_,_::_,[],_,h=>by cases h
 | a::x,b::y,c::z,h,k=>by
  rw[HT.Cm] at h k ⊢;by_cases ab:a=b
  .rw[uD ab] at h
   by_cases bc:b=c
   .rw[uD bc] at k
    rw[uD (ab.trans bc)];exact Wy h k
   .rw[uC bc] at k
    rw[uC (λe=>bc (by lia))];have:=uG k;exact uE (by lia)
  .rw[uC ab] at h
   have h':=uG h;by_cases bc:b=c
   .rw[uD bc] at k
    rw[uC (by lia)];exact uE (by lia)
   .rw[uC bc] at k
    have k':=uG k;rw[uC (by lia)];exact uE (by lia)
theorem ABr{b fin:Bool}{Q:uN}{x y:uI}(hx:ItemsAre (LN prog w) x vs):∀{y:uI}{us:List As} (i:Nat),ItemsAre (LN prog w) y us->fin=decide (x.length<y.length)->Q (HT.lexLt x y) s->KatLex prog w A b fin Q (vs.zip us) i s:=by
 induction hx with
 | nil =>
  intro y us i hy hf q;cases hy with
  | nil=>rw[hf];exact q
  | cons h1 t=>rw[hf];exact q
 | @cons k v ks vs' hk ht ih =>
  intro y us i hy hf q;cases hy with
  | nil=>rw[hf];exact q
  | @cons k' v' b7 us' a6 ht' =>
   rw[HT.Cm] at q;refine kat_cons ((LN prog w).eqBool hk a6 ?_);by_cases c:k=k'
   .rw[uD c] at q
    rw[uE c];refine kat_yes (ih (i+1) ht' ?_ q);rw[hf];simp
   .rw[uC c] at q
    rw[uF c];refine kat_no ?_;obtain⟨t1,rfl⟩:=Hb hk;obtain⟨t2,rfl⟩:=Hb a6;cases (b&&i==0) with
    | true =>
     rw[<- We];exact kat_lt_int q
    | false=>exact kat_one _ _ (lt_int q)
theorem AGc{b:Bool}{x y:uI}{c:Addr}{Q:uN}(hx:IK prog w s.heap x a)(hy:IK prog w s.heap y c)(q:Q (HT.lexLt x y) s):wpAny (AM prog w) A (VS (tuples' b) (.ref a) (.ref c)) Q E s:=by
 obtain⟨ox,xs,n,gx,cx,dx,ix⟩:=hx;obtain⟨oy,ys,k,gy,cy,dy,iy⟩:=hy;refine kat_lt gx dx gy dy (ABr (x:=x) (y:=y) (us:=ys.toList) ix 0 iy ?_ q);have l1:=ix.length;have l2:=iy.length;rw[l1,l2,A9,A9]
structure Row(prog:AL)(w:AQ)(h:Heap)(vs:List As)(ks:List (uI×Addr)):Prop where
 vals:vs=ks.map λx=>A7 x.2
 keys:∀x∈ks,IK prog w h x.1 x.2
 full:∀x∈ks,x.1≠[]
 nd:(ks.map (·.1)).Nodup
noncomputable def ltK(ks:List (uI×Addr))(i j:Nat):Bool:=HT.lexLt (ks.getD i ([],0)).1 (ks.getD j ([],0)).1
section
theorem Row.tups(R:Row prog w h vs ks):∃fs,KatTups h vs fs/\fs.length=vs.length/\∀v∈fs,∃n t,v=NM n t:=by
 obtain⟨e,hk,hf,hn⟩:=R;clear hn;subst e
 induction ks with
 | nil=>exact⟨[],trivial,rfl,λv hv=>by cases hv⟩
 | cons x r ih =>
  obtain⟨fs,t,l,q⟩:=ih (λy hy=>hk y (AK _ hy)) (λy hy=>hf y (AK _ hy));obtain⟨o,xs,n,gx,cx,dx,ix⟩:=hk x AG;have hx:=hf x AG;obtain⟨xk,xa⟩:=x;cases hxs:xs.toList with
  | nil =>
   rw[hxs] at ix;cases ix;exact uH rfl hx
  | cons f ar =>
   have hf0:xs[0]?=uA f:=by rw[<- Cf,hxs];rfl
   have hi:=QW ix f (by rw[hxs];exact AG);refine⟨f::fs,KatTups.cons gx cx dx hf0 t,by simp[l],λv hv=>?_⟩;rcases BH.mp hv with rfl| hv
   .exact hi
   .exact q v hv
theorem perm_back{f:α->β}{l m:List β}(p:l.Perm m):∀ks:List α,m=ks.map f->∃b7:List α,b7.Perm ks/\l=b7.map f:=by
 induction p with
 | nil =>
  intro ks e;cases ks with
  | nil=>exact⟨[],.refl _,rfl⟩
  | cons _ _=>cases e
 | @cons x l1 l2 _ ih =>
  intro ks e;cases ks with
  | nil=>cases e
  | cons k r =>
   rw[B4] at e;obtain⟨e1,e2⟩:=R9 e;obtain⟨r',p',e'⟩:=ih r e2;exact⟨k::r',p'.cons k,by rw[B4,e1,e']⟩
 | swap x y l1 =>
  intro ks e
  match ks,e with
  | [],e=>cases e
  | [_],e=>simp at e
  | a::b::r,e =>
   rw[B4,B4] at e;obtain⟨e1,e2⟩:=R9 e;obtain⟨e3,e4⟩:=R9 e2;exact⟨b::a::r,LV ..,by rw[B4,B4,e1,e3,e4]⟩
 | trans _ _ rF sR =>
  intro ks e;obtain⟨k2,p2,e2⟩:=sR ks e;obtain⟨k1,p1,e1⟩:=rF k2 e2;exact⟨k1,p1.trans p2,e1⟩
theorem Pu{ks:uI}(h:ItemsAre (LN prog w) ks us):ks=us.map numOf:=by
 induction h with
 | nil=>rfl
 | cons h1 _ ih =>
  obtain⟨t,e⟩:=Hb h1;rw[B4,<- ih,e];rfl
theorem AHT{k k':uI}(x:IK prog w h k a)(y:IK prog w h k' a):k=k':=by
 obtain⟨o,items,n,ho,_,hd,hi⟩:=x;obtain⟨o',items',n',dA,_,cz,br⟩:=y;rw[ho] at dA;cases dA;rw[hd] at cz;cases cz;rw[Pu hi,Pu br]
set_option tactic.hygienic true in
theorem KD{α:Type}{p q:α->Bool}:∀{l:List α}{x:α},(∀y∈l,p y=true->q y=true)->x∈l->p x=false->q x=true->(l.filter p).length<(l.filter q).length
 | [],x,_,h,_,_=>by cases h
 | a::l,x,hs,hx,px,qx=>by
  have le:∀{m:List α},(∀y∈m,p y=true->q y=true)->(m.filter p).length<=(m.filter q).length:=λ{m}=>by
   induction m with
   | nil=>exact λ_=>AF _
   | cons b m ih =>
    intro hm;have:=ih λy hy=>hm y (AK _ hy);rw[HL,HL];have hb:=hm b (AG ..);split
    .rename_i pb
     rw[uD (hb pb)];simp;exact this
    .split
     .simp;exact vd this
     .exact this
  have hl:=le λy hy=>hs y (AK _ hy);rw[HL,HL];rcases BH.mp hx with rfl| hx
  .rw[uC (by rw[px];decide),uD qx]
   simp;exact wM hl
  .have ih:=KD (λy hy=>hs y (AK _ hy)) hx px qx
   have ha:=hs a (AG ..);split
   .rename_i pa
    rw[uD (ha pa)];simp;exact ih
   .split
    .simp;exact vb ih
    .exact ih
noncomputable def cntK(ks:List (uI×Addr))(k:uI):Int:=((ks.filter λy=>HT.lexLt y.1 k).length:Int)
open Classical in
noncomputable def rkK(ks:List (uI×Addr))(x:AE):Int:=if h:∃i,i<ks.length/\x.1=A7 (ks.getD i ([],0)).2 then cntK ks (ks.getD (Fm h) ([],0)).1 else 0
noncomputable def itK(ks:List (uI×Addr))(i:Nat):AE:=(A7 (ks.getD i ([],0)).2,A7 (ks.getD i ([],0)).2)
theorem UL{a b:uI}(ha:a∈ks.map (·.1))(h:HT.lexLt a b=true):cntK ks a<cntK ks b:=by
 obtain⟨x,hx,rfl⟩:=A1.mp ha;unfold cntK;have:=KD (p:=λy:uI×Addr=>HT.lexLt y.1 x.1) (q:=λy=>HT.lexLt y.1 b) (l:=ks) (x:=x) (λy _ e=>Wy e h) hx (by
  cases c:HT.lexLt x.1 x.1 with
  | false=>rfl
  | true=>have:=Vl c;rw[c] at this;cases this) h
 exact uP this
end
theorem Qg{p:Array Nat}(P:PP n p):p.toList.Perm (AW n):=by
 refine SB.Gh ?_ (λx hx=>?_) (by rw[CB,A9,P.size];exact AF _)
 .refine CO.mpr λi j hi hj gv e=>?_
  have br:i<n:=by rw[<- P.size];simpa using hi
  have bu:j<n:=by rw[<- P.size];simpa using hj
  have iL:i<p.size:=by simpa using hi
  have hj2:j<p.size:=by simpa using hj
  have:=P.inj i j br bu (by simpa [g,EH,iL,hj2] using e);exact vq gv this
 .obtain⟨i,hi,rfl⟩:=C1.mp hx
  have iL:i<p.size:=by simpa using hi
  have:=P.lt i (by rw[<- P.size];exact iL);refine A8.mpr ?_;simpa [g,EH,iL] using this
section
variable{es:Array (Int×As)}{t:Da}
theorem Ru{Q:List As->AA->Prop}(hh:A.handled=uB)(ho:s.heap.get? S=uA o)(du:o.ExactSet)(hd:o.data=.set es ep t)(T:Tab t)(hl:es.size=t.place.size)(hp:t.plain=true)(ci:t.led=ledOf w)(kN:es.size<=301)
  (q:∀(h':Heap) (tk:Nat) (acc:Array As),(∀b ob,s.heap.get? b=uA ob->h'.get? b=uA ob)->s.heap.objs.size<=h'.objs.size->acc.toList.map (λv=>v)=(ord w S ep es).toList.map (·.2)->Q acc.toList {s with heap:=h',toks:=tk}) :
  wpAny (AM prog w) A (QI (.ref S)) Q E s:=by
 unfold QI;refine Au (NF (EE NY ?_));rw[EF N0 _];refine Au (DS ?_);refine AC ⟨JY JO _,EE Pf ?_⟩;rw[EF JO _];have gD:(s.heap.push {cls:=.type "list",data:=.seq ([]:List As).toArray}).get? s.heap.objs.size=uA {cls:=.type "list",data:=.seq #[] 0}:=AU _ rfl;have iX:∀(h':Heap) (tk:Nat) (ay:Array As) (c':Nat),(∀b ob,b≠s.heap.objs.size->(s.heap.push {cls:=.type "list",data:=.seq ([]:List As).toArray}).get? b=uA ob->h'.get? b=uA ob)->h'.get? s.heap.objs.size=uA {cls:=.type "list",dict:=uB,data:=.seq ay c',slots:=#[]} ->
   ItemsOf (λi v=>∃e,(ord w S ep es)[i]?=uA e/\v=e.2) ay es.size->wpAny (AM prog w) A (match A7 s.heap.objs.size with
   | A7 a=>do
    match (<- load a).data with
     | Data.seq xs _=>pure xs.toList
     | _=>unsupported "internal:collect"
   | _=>unsupported "internal:collect") Q E {s with heap:=h',toks:=tk}:=λh' tk ay c' hk db aE=>by
  refine Au (Q5 db ?_);refine AC ?_;refine q h' tk ay (λb ob e=>hk b ob (BU (Bz e)) (AJ _ e)) (DB (Bz db)) ?_;rw[YO];apply FG;intro i;rw[AS,Cf,Cf];by_cases c:i<es.size
  .have c1:i<ay.size:=by rw[aE.1];exact c
   obtain⟨e,ge,ev⟩:=aE.2 i _ (Bi c1);rw[Bi c1,ge,ev];rfl
  .rw[HR (by rw[aE.1];exact uR c),HR (by rw[LR];exact uR c)]
   rfl
 refine EK (XJ (A:=A) (R:=λr s'=>∃h' tk ay c',r=.ok (.ret (.ref s.heap.objs.size))/\s'={s with heap:=h',toks:=tk}/\(∀b ob,b≠s.heap.objs.size->(s.heap.push {cls:=.type "list",data:=.seq ([]:List As).toArray}).get? b=uA ob->h'.get? b=uA ob)/\h'.get? s.heap.objs.size=uA {cls:=.type "list",dict:=uB,data:=.seq ay c',slots:=#[]}/\ItemsOf (λi v=>∃e,(ord w S ep es)[i]?=uA e/\v=e.2) ay es.size)
  (s:={s with heap:=s.heap.push {cls:=.type "list",data:=.seq ([]:List As).toArray}}) hh (AJ _ ho) du hd T hl hp ci kN s.heap.objs.size (.ref s.heap.objs.size) 0 gD λh' tk ay c' hk db aE=>⟨h',tk,ay,c',rfl,rfl,hk,db,aE⟩) (λfin s' h=>?_) (λe s' h=>?_)
 .cases fin with
  | done f =>
   obtain⟨h',tk,ay,c',e,rfl,hk,db,aE⟩:=h;cases e;exact iX h' tk ay c' hk db aE
  | again c'=>exact⟨h.1,FU h.2 λr tW hr=>by obtain⟨h',tk,ay,c',rfl,rfl,hk,db,aE⟩:=hr;exact iX h' tk ay c' hk db aE⟩
 .obtain⟨_,_,_,_,e,_⟩:=h
  cases e
end
end SB
namespace SB
open PySem PySem.SetTable
section
set_option tactic.hygienic true in
theorem AAk{R:SF->AA->Prop}{G:Array Uf->Array Uf->Prop}{P:Nat->As->Prop}{St:Nat->AA->Prop}
  (W:WalksS prog w A.in1 I fp wr G n P St) (S:Addr) (hSf:S∉fp) (vals:Nat->uI×Addr) (hP:∀i v,P i v->v=.ref (vals i).2) (hn:∀ks:List (uI×Addr),(∀x∈ks,∃j,j<n/\x=vals j)->(ks.map (·.1)).Nodup->ks.length<=300) (sZ:∀i,i<n->(vals i).2∉S::wr) (hu:A.in1.units<C0)
  (hR:∀s' bv t' b7,TS prog w s'.heap S bv t' b7->Of vals n b7->Moved (S::wr) G s s'->R (.ok (.ret .none)) s') :
  ∀(k i:Nat) (s₁:AA) (es:Array (Int×As)) (t:Da) (ks:List (uI×Addr)),n-i=k->i<=n->St i s₁->TS prog w s₁.heap S es t ks->(∀j,j<n->IK prog w s₁.heap (vals j).1 (vals j).2)->Of vals i ks->Moved (S::wr) G s s₁ ->
   codeAny (AM prog w) A (.builtin "set.update.loop" ⟨[.ref S,.ref I],[]⟩) R s₁:=by
 have nSw:S∉wr:=λh=>hSf (W.sub _ h);have inS:∀b∈wr,b∈S::wr:=λb hb=>AK _ hb;intro k
 induction k with
 | zero =>
  intro i s₁ es t ks hk hi dk X hK O mv;obtain rfl:i=n:=xD hi hk;refine EE LM ?_;rw[EF Ic _];show wpAny _ A.in1 (L8 (.ref I) >>= _) _ _ s₁;refine Au (W.done s₁ _ _ dk λs₂ m2=>?_);show wpAny _ A.in1 (ret DE) _ _ s₂;exact AC (hR s₂ es t ks (YH X λo e=>m2.heap S o nSw e) O (Y5 W.gtrans mv (m2.mono inS)))
 | succ k ih =>
  intro i s₁ es t ks hk hi dk X hK O mv;have lt:i<n:=xB hk;refine EE LM ?_;rw[EF Ic _];show wpAny _ A.in1 (L8 (.ref I) >>= _) _ _ s₁;refine Au (W.item i s₁ _ _ lt dk λv s₂ pv bb m2=>?_);obtain rfl:=hP i v pv;have X2:TS prog w s₂.heap S es t ks:=YH X λo e=>m2.heap S o nSw e;have hK2:∀j,j<n->IK prog w s₂.heap (vals j).1 (vals j).2:=λj hj=>Hz (hK j hj) λo e=>m2.heap _ o (λz=>sZ j hj (inS _ z)) e;show wpAny _ A.in1 (NB [A7 (vals i).2] (setAdd S (.ref (vals i).2)) >>= _) _ _ s₂;refine Au (EA (AGJ X2 (λx hx=>?_) (hK2 i lt) hu (hn ks (λx hx=>let ⟨j,hj,e⟩:=O.sub x hx;⟨j,uT hj lt,e⟩) X2.nd) λb h' bv t' b7 sb X' ad=>?_))
  .obtain⟨j,hj,rfl⟩:=O.sub x hx
   exact hK2 j (uT hj lt)
  .refine AC ⟨JY Ic _,ih (i+1) _ bv t' b7 (xC hk) lt (W.frame _ s₂ _ _ bb (OR _ _) λb hb o e=>?_) X' (λj hj=>Hz (hK2 j hj) λo e=>?_) (O.next ad) ?_⟩
   .rw[sb.2 b (λ(z:b=S)=>hSf (by rw[<- z];exact hb))]
    exact e
   .rw[sb.2 _ (λ(z:(vals j).2=S)=>sZ j hj (by rw[z];exact AG))]
    exact e
   .refine Y5 W.gtrans mv ((m2.mono inS).then_heap (OR _ _) λb o hb e=>?_)
    rw[sb.2 b (λ(z:b=S)=>hb (by rw[z];exact AG))];exact e
end
theorem AFS(hh:A.handled=uB)(hu:A.units+6<C0)(hl:s.heap.IsList l items)(hv:∀(i:Nat) (v:As),items[i]?=uA v->v=A7 (vals i).2)
  (hK:∀j,j<items.size->IK prog w s.heap (vals j).1 (vals j).2) (kN:∀ks:List (uI×Addr),(∀x∈ks,∃j,j<items.size/\x=vals j)->(ks.map (·.1)).Nodup->ks.length<=300)
  (q:∀h' tk es t ks,TS prog w h' s.heap.objs.size es t ks->Of vals items.size ks->(∀b o,s.heap.get? b=uA o->h'.get? b=uA o)->Q (.ref s.heap.objs.size) {s with heap:=h',toks:=tk}) :
  wpAny (AM prog w) A (call (.type "set") [.ref l]) Q E s:=by
 obtain⟨c,tl,hmro⟩:=JA.mro;have made:=JA.made;have ssub:=JA.sub;have nt:=JA.notType;have cc:=JA.canCreate;have tc:=F.typeCall_set_1 (.ref l);refine Q7 (VC ?_);show wpAny _ _ (callAny (.type "set") _) _ _ _;refine AC ⟨SL _ (by decide+kernel),EE F.entry_type_call ?_⟩;rw[Around.under_plain (weight_type_call_type "set" [.ref l] []) rfl]
 repeat (any_goals (first| assumption| wp_step))
 refine FU (ADW (.ref l) (E:=E) (Q₁:=λobj s₁=>∃led:Bool,led=ledOf w/\obj=.ref s.heap.objs.size/\s₁={s with heap:=s.heap.push {cls:=.type "set",dict:=uB,data:=.set #[] 0 (.fresh 0 0 led)}}) ⟨_,rfl,rfl,rfl⟩) λr s₁ hr=>?_;cases r with
 | error e=>exact hr
 | ok fl =>
  cases fl with
  | ret obj =>
   obtain⟨led,ci,rfl,rfl⟩:=hr;have gS:(s.heap.push {cls:=.type "set",dict:=uB,data:=.set #[] 0 (.fresh 0 0 led)}).get? s.heap.objs.size=uA {cls:=.type "set",dict:=uB,data:=.set #[] 0 (.fresh 0 0 led)}:=AU _ rfl;have tS:WP {s with heap:=s.heap.push {cls:=.type "set",dict:=uB,data:=.set #[] 0 (.fresh 0 0 led)}} (.ref s.heap.objs.size) "set":=⟨_,gS,rfl⟩;have il:=JA.init.lookup;have ib:=JA.init.bind (.ref s.heap.objs.size)
   repeat (any_goals (first| assumption| wp_step))
   refine FU (RC (R:=wants (λr s₂=>r=.none/\∃h' tk es t ks,s₂={s with heap:=h',toks:=tk}/\TS prog w h' s.heap.objs.size es t ks/\Of vals items.size ks/\(∀b o,s.heap.get? b=uA o->h'.get? b=uA o)) E) JA.init.plain F.entry_set_init (check_set_init_1 tS ?_)) λr₂ s₂ hr₂=>?_
   .obtain⟨⟨ocls,tV,odata,qk⟩,gX,gN,nl,rE⟩:=id hl
    simp only at gN rE;subst gN rE;have hol2:(s.heap.push {cls:=.type "set",dict:=uB,data:=.set #[] 0 (.fresh 0 0 led)}).get? l=uA {cls:=.type "list",dict:=tV,data:=.seq items nl,slots:=qk}:=AJ _ gX;have s1:=F.sub_list_set;have s2:=F.sub_list_frozenset;have s3:(DU "list" == DU "dict")=false:=by decide
    have d5:(s.heap.push {cls:=.type "set",dict:=uB,data:=.set #[] 0 (.fresh 0 0 led)}).IsList l items:=⟨_,hol2,rfl,nl,rfl⟩;unfold Builtin.«set.__init__» noKeywords Wl;generalize hPI:Qr=PI
    wp_walk
    subst hPI;refine Op d5 ?_;refine Au (NF ?_);have ll:l<s.heap.objs.size:=Bz gX;have h3:A.in1.in1.in1.handled=uB:=by simp[hh]
    have nI:l≠(s.heap.push {cls:=.type "set",dict:=uB,data:=.set #[] 0 (.fresh 0 0 led)}).objs.size:=by
     rw[FB];exact BU (FI ll)
    have nS:s.heap.objs.size∉[(s.heap.push {cls:=.type "set",dict:=uB,data:=.set #[] 0 (.fresh 0 0 led)}).objs.size,l]:=by
     rw[FB];simp only[BH,BG,D5,or_false,not_or];exact⟨BU (DI _),XI ll⟩
    have lows:∀j,j<items.size->(vals j).2<s.heap.objs.size:=λj hj=>by
     obtain⟨o,_,_,ho,_⟩:=hK j hj;exact Bz ho
    have i5:∀(x:Obj) b o,s.heap.get? b=uA o->((s.heap.push {cls:=.type "set",dict:=uB,data:=.set #[] 0 (.fresh 0 0 led)}).push x).get? b=uA o:=λx b o e=>AJ _ (AJ _ e);refine AAk (s:=_) ((Zp h3 _ l nI items).toS) s.heap.objs.size nS vals hv kN (λj hj z=>?_) ?_ (λs' bv t' b7 X' O' mv=>?_) (items.size-0) 0 _ #[] (.fresh 0 0 led) [] (by lia) (AY _)
     ⟨⟨_,AU _ rfl,rfl,rfl⟩,(d5.push _)⟩ (ABv ci (AJ _ gS)) (λj hj=>Hz (hK j hj) λo e=>i5 _ _ _ e) ⟨λx hx=>(by cases hx),λj hj=>uH hj vj,AF _⟩ (Moved.refl λ_=>rfl)
    .have:=lows j hj
     rw[FB] at z;simp only[BH,BG,D5,or_false] at z;rcases z with z| z
     .exact uH z (BU this)
     .exact uH z (BU (FI this))
    .show A.units+1+1+1<C0
     lia
    .obtain⟨h',g',d',tk',os'⟩:=s'
     have eg:g'=s.gens:=mv.gens;have ed:d'=s.drawn:=mv.drawn;have eo:os'=s.os:=mv.os;subst eg ed eo;show wpAny _ _ _ _ _ _;refine AC ?_;show wpAny _ _ (ret DE) _ _ _;refine AC ⟨rfl,h',tk',bv,t',b7,rfl,X',O',λb o e=>?_⟩;have hb:=Bz e;refine mv.heap b o ?_ (i5 _ b o e);rw[FB];simp only[BH,BG,D5,or_false,not_or];exact⟨BU hb,BU (FI hb)⟩
   .cases r₂ with
    | error e=>exact hr₂
    | ok fl₂ =>
     cases fl₂ with
     | ret r =>
      obtain⟨rfl,h',tk,es,t,ks,rfl,X',O',kp⟩:=hr₂
      repeat (any_goals (first| assumption| wp_step))
      exact q _ _ _ _ _ X' O' kp
     | _=>exact hr₂.elim
  | _=>exact hr.elim
end SB
namespace L2
open PySem PySem.Spec PyProof.Rows
theorem ik_ofB(I:Inv X aa σ H s)(h:SqT X.K H b (ns.map V.int)):SB.IK X.prog X.w s.heap ns b:=by
 obtain⟨ag,r,⟨o,ho,hc,n,hd⟩,_⟩:=I.tuple h;exact⟨o,ag.toArray,n,ho,hc,hd,by simpa using VD r⟩
end L2
namespace SB
open PySem PySem.W PyProof.Rows
structure RowE(prog:AL)(w:AQ)(h:Heap)(vs:List As)(ks:List (uI×Addr)):Prop where
 vals:vs=ks.map λx=>A7 x.2
 keys:∀x∈ks,IK prog w h x.1 x.2
 nd:(ks.map (·.1)).Nodup
theorem RowE.tot(R:RowE prog w h vs ks):Tot ks.length (ltK ks):=by
 have ne:∀i j,i<ks.length->j<ks.length->i≠j->(ks.getD i ([],0)).1≠(ks.getD j ([],0)).1:=λi j hi hj gv e=>by
  have r:=CO.mp R.nd;have g1:(ks.getD i ([],0)).1=(ks.map (·.1))[i]'(by simpa using hi):=by simp[AD,hi]
  have g2:(ks.getD j ([],0)).1=(ks.map (·.1))[j]'(by simpa using hj):=by simp[AD,hj]
  rw[g1,g2] at e;rcases Nat.lt_or_gt_of_ne gv with c| c
  .exact r i j _ _ c e
  .exact r j i _ _ c e.symm
 exact⟨λi j hi hj gv e=>Vv (ne i j hi hj gv) e,λi j _ _ e=>Vl e,λi j k _ _ _ e1 e2=>Wy e1 e2⟩
theorem ABp(h:ItemsAre (LN prog w) ns vs):F5 vs ns:=by
 induction h with
 | nil=>exact .nil
 | cons h1 _ ih =>
  obtain⟨t,rfl⟩:=Hb h1;exact .cons _ t ih
theorem RJ{x:uI}(hx:IK prog w s.heap x a):∃items:Array As,Ta s.heap a items/\F5 items.toList x:=by
 obtain⟨o,xs,n,g,c,d,i⟩:=hx;exact⟨xs,⟨o,g,c,n,d⟩,ABp i⟩
theorem Mw(x y:As):VS UR x y=oneLt' false x y:=rfl
theorem AGX{x y:uI}{c:Addr}{Q:uN}(hu:A.units<C0)(hx:IK prog w s.heap x a)(hy:IK prog w s.heap y c)(q:Q (HT.lexLt x y) s):wpAny (AM prog w) A (VS UR (.ref a) (.ref c)) Q E s:=by
 obtain⟨i1,t1,j1⟩:=RJ hx;obtain⟨i2,t2,j2⟩:=RJ hy;rw[Mw];exact kat_one _ _ (HT.Xh t1 t2 j1 j2 hu q)
theorem AGx{x y:uI}{c:Addr}{Q:uN}(hu:A.units<C0)(hx:IK prog w s.heap x a)(hy:IK prog w s.heap y c)(q:Q (HT.lexLt x y) s):wpAny (AM prog w) A (VS oneType' (.ref a) (.ref c)) Q E s:=by
 obtain⟨i1,t1,j1⟩:=RJ hx;obtain⟨i2,t2,j2⟩:=RJ hy;obtain⟨⟨cls,dd,data,sl⟩,ho,hc,n,hd⟩:=id t1;obtain⟨⟨kH,gT,XA,gE⟩,eC,fg,n2,eQ⟩:=id t2;simp only at hc hd fg eQ;subst hc hd fg eQ;rw[We,oneLt'_eq];refine Au (wpAny_cRoomFor hu ?_);refine Au (wpAny_callSpecialIfBound?_slot (T:="tuple") ⟨_,ho,rfl⟩ MD ?_);exact LO MD ⟨_,ho,rfl⟩ P0 (Pd _ _) (HT.IV a c i1 i2 n n2 dd gT sl gE x y j1 j2) ⟨ho,eC,Hc q⟩
theorem Og:∀(ks:List (uI×Addr)) {Q:List (Option As)->AA->Prop},(∀x∈ks,IK prog w s.heap x.1 x.2)->(∀fs:List (Option As),fs.map (·.isSome)=ks.map (λx=>!x.1.isEmpty)->Q fs s)->wpAny (AM prog w) A ((ks.map λx=>A7 x.2).mapM firstOfTuple') Q E s
 | [],_,_,h=>by rw[LI,List.mapM_nil];exact AC (h [] rfl)
 | x::ks,Q,hk,h=>by
  obtain⟨o,xs,n,ho,hc,hd,hi⟩:=hk x AG;rw[B4,List.mapM_cons];refine Au ?_;rw[kas_first_eq];refine Au (Zs ((X8 ho).andThen .now) ?_);rw[hc,uC (by first| decide| simp)];refine Au (OZ ho hd (AC ?_));refine Au (Og ks (Q:=λbs s'=>wpAny (AM prog w) A (pure (xs[0]?::bs)) Q E s') (λy hy=>hk y (AK _ hy)) λfs qU=>AC (h _ ?_));rw[B4,B4,qU]
  congr 1
  have l:=hi.length;rw[A9] at l;by_cases e:x.1=[]
  .rw[e] at l ⊢
   rw[HR (by simp at l;exact vk l)];rfl
  .have:0<xs.size:=by
    have:=JJ.mpr e;exact vP this l
   rw[Bi this];cases hx:x.1 with
   | nil=>exact uH hx e
   | cons a b=>rfl
theorem AFZ{Q:ER->AA->Prop}(hk:∀x∈ks,IK prog w s.heap x.1 x.2)(he:∃x∈ks,x.1=[])(q1:Q UR s)(q2:Q oneType' s):wpAny (AM prog w) A (keyKind' (ks.map λx=>A7 x.2).toArray) Q E s:=by
 rw[kat_kind_eq,TJ,map_eq_pure_bind];refine Au (Au (Og ks hk λfs qU=>AC ?_));have bp:¬ ((fs.toArray.all λx=>x.isSome)=true):=λh=>by
  obtain⟨x,hx,ex⟩:=he;obtain⟨i,hi,gx⟩:=List.getElem_of_mem hx;have l:fs.length=ks.length:=by simpa using congrArg Fu qU
  have z:(fs.map (·.isSome))[i]?=(ks.map (λx=>!x.1.isEmpty))[i]?:=by rw[qU]
  have iL:i<fs.length:=dl hi l;rw[AS,AS,AI hi,AI iL,gx] at z;have z':fs[i].isSome=false:=by simpa [ex] using z
  have:=EW.mp (by simpa using h) fs[i] (Fn iL);rw[z'] at this;exact uH this (by decide)
 rw[uC bp];refine wpAny_ite ?_;split
 .exact AC q1
 .rw[oneTypeOnly'_eq,TJ,map_eq_pure_bind]
  refine Au (Au (Au (kas_mapM (r:=DU "tuple") _ (λv hv Q' hq=>?_) (AC ?_))))
  .obtain⟨x,hx,rfl⟩:=A1.mp hv
   obtain⟨o,xs,n,ho,hc,hd,hi⟩:=hk x hx;refine Zs ((X8 ho).andThen .now) ?_;rw[hc];exact hq
  .have rK:∀T:As,(T==T)=true->((List.map (λ_=>T) (ks.map λx=>A7 x.2)).toArray.all λx=>x==T)=true:=λT hT=>by
    simp only[List.all_toArray,S7,EW];intro _ _;exact hT
   have h0:(List.map (λ_=>DU "tuple") (ks.map λx=>A7 x.2)).toArray[0]?=uA (DU "tuple"):=by
    obtain⟨x,hx,_⟩:=he;cases ks with
    | nil=>cases hx
    | cons a b=>simp
   rw[h0];simp only[rK (DU "tuple") (by decide),if_true];exact AC (AC q2)
def KOk(prog:AL)(w:AQ)(κ:ER):Prop:=∀(A:BV) (E:As->AA->Prop) (s:AA) (x y:uI) (a c:Addr) (Q:uN),A.units<C0->IK prog w s.heap x a->IK prog w s.heap y c->Q (HT.lexLt x y) s ->
 wpAny (AM prog w) A (VS κ (.ref a) (.ref c)) Q E s
theorem kind_any{Q:ER->AA->Prop}(R:RowE prog w s.heap vs ks)(h2:2<=ks.length)(q:∀κ,KOk prog w κ->Q κ s):wpAny (AM prog w) A (keyKind' vs.toArray) Q E s:=by
 by_cases c:∃x∈ks,x.1=[]
 .rw[R.vals]
  exact AFZ R.keys c (q _ λA E s x y a c Q hu hx hy h=>AGX hu hx hy h) (q _ λA E s x y a c Q hu hx hy h=>AGx hu hx hy h)
 .have R':Row prog w s.heap vs ks:=⟨R.vals,R.keys,λx hx e=>c ⟨x,hx,e⟩,R.nd⟩
  obtain⟨fs,kt,lf,qU⟩:=R'.tups;have lk:ks.length=vs.length:=by rw[R.vals,AB]
  exact kat_kind (T:=.type "int") kt (by lia) (λv hv=>by obtain⟨n,t,rfl⟩:=qU v hv;exact WN rfl) (by decide) (q _ λA E s x y a c Q hu hx hy h=>AGc hx hy h)
theorem Zu(R:RowE prog w h vs ks)(e:∀x∈ks,∀o,h.get? x.2=uA o->h'.get? x.2=uA o):RowE prog w h' vs ks:=⟨R.vals,λx hx=>Hz (R.keys x hx) λo=>e x hx o,R.nd⟩
theorem RowE.key(R:RowE prog w h vs ks)(hi:i<ks.length):IK prog w h (ks.getD i ([],0)).1 (ks.getD i ([],0)).2:=by
 have e:ks.getD i ([],0)=ks[i]:=by simp[AD,hi]
 rw[e];exact R.keys _ (Fn hi)
theorem RowE.rk(R:RowE prog w h vs ks)(hi:i<ks.length):rkK ks (itK ks i)=cntK ks (ks.getD i ([],0)).1:=by
 have ex:∃j,j<ks.length/\(itK ks i).1=A7 (ks.getD j ([],0)).2:=⟨i,hi,rfl⟩;unfold rkK;rw[dif_pos ex];obtain⟨hj,ej⟩:=F7 ex;have ea:(ks.getD i ([],0)).2=(ks.getD (Fm ex) ([],0)).2:=by
  have:A7 (ks.getD i ([],0)).2=A7 (ks.getD (Fm ex) ([],0)).2:=ej;injection this
 have k1:=R.key hi;have k2:=R.key hj;rw[<- ea] at k2;rw[AHT k1 k2]
theorem RowE.rk_lt(R:RowE prog w h vs ks)(hi:i<ks.length)(hj:j<ks.length):decide (rkK ks (itK ks i)<rkK ks (itK ks j))=ltK ks i j:=by
 rw[R.rk hi,R.rk hj];have mk:∀{i:Nat},i<ks.length->(ks.getD i ([],0)).1∈ks.map (·.1):=λ{i} hi=>HH (by
  have e:ks.getD i ([],0)=ks[i]:=by simp[AD,hi]
  rw[e];exact Fn hi)
 unfold ltK;cases c:HT.lexLt (ks.getD i ([],0)).1 (ks.getD j ([],0)).1 with
 | true=>exact uE (UL (mk hi) c)
 | false =>
  refine uF ?_;by_cases e:(ks.getD i ([],0)).1=(ks.getD j ([],0)).1
  .rw[e];exact Sa _
  .have:=UL (ks:=ks) (mk hj) (Vv e c)
   exact xR this
theorem Zr(hκ:KOk prog w κ)(hu:A.units<C0)(R:RowE prog w s.heap vs ks) :
  wpAny (AM prog w) A (sortRuns'.run (J8 κ (vs.toArray.zip vs.toArray) #[] 7 uB)) (λr s'=>s'=s/\∃p:Array Nat,PP ks.length p/\Up (ltK ks) p ks.length/\AR r.2=p.map (YR (vs.toArray.zip vs.toArray))/\G7 r.2=uB) E s:=by
 have lk:ks.length=vs.length:=by rw[R.vals,AB]
 have T:=R.tot;have gi:∀i,i<ks.length->YR (vs.toArray.zip vs.toArray) i=itK ks i:=λi hi=>by
  rw[kat_item rfl];unfold itK;rw[R.vals];simp[AD,hi]
 have e0:(vs.toArray.zip vs.toArray).toList=(AW ks.length).map (itK ks):=by
  have:=congrArg SA (kas_range (vs.toArray.zip vs.toArray));rw[<- this,O6,show(vs.toArray.zip vs.toArray).size=ks.length by rw[lk];simp];exact HI λi hi=>gi i (A8.mp hi)
 have C:TM.Cmp prog w A E s κ (λx=>∃i,i<ks.length/\x=itK ks i) (rkK ks):=by
  rintro x y ⟨i,hi,ex⟩ ⟨j,hj,ey⟩ st Q kd q;subst ex ey;rw[lt'_eq];refine AO (KU ?_);rw[kd];refine AO (NI (N7 (hκ _ _ _ _ _ _ _ _ hu (R.key hi) (R.key hj) ⟨rfl,?_⟩)));rw[R.rk_lt hi hj] at q;exact A2 q
 have al:TM.Al (λx=>∃i,i<ks.length/\x=itK ks i) (vs.toArray.zip vs.toArray):=λi x e=>by
  rw[<- Cf,e0,AS] at e;cases g:(AW ks.length)[i]? with
  | none=>rw[g] at e;cases e
  | some k =>
   rw[g] at e;have hk:=A8.mp (AX g);exact⟨k,hk,(AN e).symm⟩
 have di:TM.Di (rkK ks) (vs.toArray.zip vs.toArray):=by
  unfold TM.Di;rw[e0,G6];unfold LP;rw[CY];refine EO (λ{i j} hi hj ij e=>?_) HM;have br:=A8.mp hi;have bu:=A8.mp hj;have e':rkK ks (itK ks i)=rkK ks (itK ks j):=e;have z1:=R.rk_lt br bu;have z2:=R.rk_lt bu br;rw[e',uF (Sa _)] at z1;rw[e',uF (Sa _)] at z2;have:=T.or i j br bu ij z1.symm;rw[<- z2] at this;cases this
 have W:=TM.Nh C (st:=J8 κ (vs.toArray.zip vs.toArray) #[] 7 uB) (a₀:=vs.toArray.zip vs.toArray) ⟨VO _,rfl,rfl,al,di⟩ rfl
  (Q:=λ_ ah=>∃p:Array Nat,PP ks.length p/\Up (ltK ks) p ks.length/\AR ah=p.map (YR (vs.toArray.zip vs.toArray))/\G7 ah=uB) λah B up=>by
  have pm:=IE.mp B.perm;rw[e0] at pm;obtain⟨l,pl,el⟩:=perm_back pm (AW ks.length) rfl;have ll:l.length=ks.length:=by rw[pl.length_eq,CB]
  have lt:∀{k:Nat},k<ks.length->g l.toArray k<ks.length/\l[k]?=uA (g l.toArray k):=λ{k} hk=>by
   have a6:k<l.length:=dl hk ll;have e:g l.toArray k=l[k]:=by unfold g;simp[EH,a6]
   rw[e];exact⟨A8.mp (pl.mem_iff.mp (Fn a6)),AI a6⟩
  have nd:=pl.nodup_iff.mpr HM;have at_:∀{k:Nat},k<ks.length->TM.N (rkK ks) (AR ah) k=rkK ks (itK ks (g l.toArray k)):=λ{k} hk=>by
   unfold TM.N;rw[<- Cf,el,AS,(lt hk).2];rfl
  have sz:(vs.toArray.zip vs.toArray).size=ks.length:=by rw[lk];simp
  refine⟨l.toArray,⟨by simpa using ll,λk hk=>(lt hk).1,λk k' hk a6 e=>?_⟩,λx y xy hy=>?_,?_,B.failed⟩
  .have a1:=(lt hk).2
   have a2:=(lt a6).2;rw[<- e] at a2;exact(Kx (dl hk ll) nd).mp (a1.trans a2.symm)
  .have hx:x<ks.length:=uT xy hy
   have u:=up x y (AY _) (vX xy) (by rw[sz];exact hy);rw[at_ hx,at_ hy] at u;cases c:ltK ks (g l.toArray x) (g l.toArray y) with
   | true=>rfl
   | false =>
    have ne:g l.toArray x≠g l.toArray y:=λe=>by
     have a1:=(lt hx).2;have a2:=(lt hy).2;rw[<- e] at a2;have:=(Kx (dl hx ll) nd).mp (a1.trans a2.symm);exact vq xy this
    have z:=T.or _ _ (lt hx).1 (lt hy).1 ne c;rw[<- R.rk_lt (lt hy).1 (lt hx).1] at z;have:=uG z;lia
  .apply US.mp
   rw[el,O6];refine HI λi hi=>(gi i ?_).symm;exact A8.mp (pl.mem_iff.mp (by simpa using hi))
 exact EK W (λr s' h=>h) λ_ _ e=>e
theorem Wh{P:PySem.Fin->AA->Prop}(ho:s.heap.get? a=uA (E9 "list" vs.toArray n))(R:RowE prog w s.heap vs ks)(hz:vs.length<=100000)(hu:A.units<C0)
  (h:∀p:Array Nat,PP ks.length p->Up (ltK ks) p ks.length->P (.done (.ret .none)) {s with heap:=sortedHeap s.heap a vs (LL (p.toList.map λi=>vs.getD i DE))}) :
  wpAny (AM prog w) A (Builtin.«list.sort» ⟨[.ref a],[]⟩) P E s:=by
 have la:=Bz ho;have lk:ks.length=vs.length:=by rw[R.vals,AB]
 rw[list_sort_plain];refine Au (OZ ho rfl ?_);refine Au (N6 ho rfl ?_);obtain⟨e1,ho1⟩:∃e1,(s.heap.update a (DV λ_=>#[])).get? a=uA (E9 "list" #[] e1):=⟨_,get?_update_seq ho (λ_=>#[])⟩;refine Au (T5 ho1 rfl ?_);refine Au (wpAny_newTuple ?_);refine Au (N5 ?_);refine EA ?_;have hoa:(((s.heap.update a (DV λ_=>#[])).push (E9 "tuple" vs.toArray 0)).push (E9 "list" #[] 0)).get? a=uA (E9 "list" #[] e1):=AJ _ (AJ _ ho1);dsimp only;have vz:vs.toArray.size=vs.length:=by simp
 by_cases h2:vs.toArray.size<2
 .rw[uD h2,uD h2]
  refine Au (AC ?_);rw[StateT.run_pure];refine Au (AC ?_);have out:((vs.toArray.zip vs.toArray).map (·.2))=LL ((LL (AW ks.length)).toList.map λi=>vs.getD i DE):=by
   apply US.mp;rw[O6,Array.toList_zip,List.map_snd_zip (by simp),lk];apply FG;intro i;by_cases c:i<vs.length
   .simp[c]
   .simp[c]
  refine Au (T5 hoa rfl ?_);refine Au (N6 hoa rfl ?_ (hsz2:=by rw[Array.size_map,Array.size_zip,vz,Go];lia));simp only[bne_self_eq_false,B3,if_false];refine AC ?_;rw[show(AR (J8 UR (vs.toArray.zip vs.toArray) #[] 7 uB)).map (·.2)=_ from out];exact h _ (ABx _) λx y hxy hy=>uH hxy (by lia)
 .rw[uC h2,uC h2]
  have R1:RowE prog w (((s.heap.update a (DV λ_=>#[])).push (E9 "tuple" vs.toArray 0)).push (E9 "list" #[] 0)) vs ks:=Zu R λx hx o gx=>by
   have ne:x.2≠a:=λe=>by
    obtain⟨o',_,_,go',co',_⟩:=R.keys x hx;rw[e,ho] at go';cases go';have z:DU "list" = DU "tuple":=co';exact uH z (by decide)
   exact AJ _ (AJ _ ((E3 _ _ (Cb ne)).trans gx))
  refine Au (kind_any (s:={s with heap:=((s.heap.update a (DV λ_=>#[])).push (E9 "tuple" vs.toArray 0)).push (E9 "list" #[] 0)}) R1 (by lia) λκ hκ=>?_);refine Au (EK (Zr hκ hu (s:={s with heap:=((s.heap.update a (DV λ_=>#[])).push (E9 "tuple" vs.toArray 0)).push (E9 "list" #[] 0)}) R1) ?_ λ_ _ e=>e)
  .rintro⟨⟨⟩,ah⟩ s' ⟨rfl,p,P1,P2,har,hf⟩
   have hout:=kat_snds (ks:=vs) (vs:=vs) rfl har;rw[hout];refine Au (T5 hoa rfl ?_);refine Au (N6 hoa rfl ?_ (hsz2:=by rw[AT,AB,A9,P1.size,Go];lia));rw[hf];simp only[bne_self_eq_false,B3,if_false];exact AC (h p P1 P2)
section
variable{es:Array (Int×As)}{t:Da}
theorem Ub(hu:A.units+2<C0)(hh:A.handled=uB)(X:TS prog w s.heap S es t ks)(hK:∀x∈ks,IK prog w s.heap x.1 x.2)(kN:ks.length<=301)
  (q:∀(h':Heap) (tk:Nat) (D:Addr) (ko:List (uI×Addr)) (e:Nat),(∀b ob,s.heap.get? b=uA ob->h'.get? b=uA ob)->s.heap.objs.size<=D->h'.get? D=uA (E9 "list" (ko.map λx=>A7 x.2).toArray e)->ko.Perm ks->(ko.map (·.1)).Pairwise (λa b=>HT.lexLt a b=true)->Q (.ref D) {s with heap:=h',toks:=tk}) :
  wpAny (AM prog w) A (call (.builtin "sorted") [.ref S]) Q E s:=by
 obtain⟨o,ep,ho,du,hd⟩:=X.obj;have lks:ks.length=es.size:=by
  have:=congrArg Fu X.els;rw[AB,A9] at this;exact this.symm
 refine Lm kind_sorted plain_sorted entry_sorted (args_sorted1 _) ?_;unfold UM;refine Au (m:=checkCount "sorted" 1 1 _) (AC ?_);refine Au (Ru (A:=A.in1) (by simp[hh]) ho du hd X.tab X.len X.pl X.ld (vh lks kN) λh1 tk1 acc kp hsz aE=>?_);have op:=Um w S ep es;rw[X.els] at op;obtain⟨k1,p1,e1⟩:=perm_back op ks rfl;rw[e1,YO,G6] at aE;have hvs:=aE;generalize hv:acc.toList=vs at hvs;have lvs:vs.length=ks.length:=by rw[hvs,AB,p1.length_eq]
 refine Au (N5 ?_ (by rw[Go];lia));have nE:(h1.push (E9 "list" vs.toArray 0)).get? h1.objs.size=uA (E9 "list" vs.toArray 0):=AU _ rfl;have kp2:∀b ob,s.heap.get? b=uA ob->(h1.push (E9 "list" vs.toArray 0)).get? b=uA ob:=λb ob e=>AJ _ (kp b ob e);have R:RowE prog w (h1.push (E9 "list" vs.toArray 0)) vs k1:=⟨hvs,λx hx=>Hz (hK x (p1.mem_iff.mp hx)) λob e=>kp2 _ ob e,(Nw (p1.map (·.1))).mpr X.nd⟩;refine Au (EA (D1 V5 ⟨_,nE,rfl⟩ U5 (Wh (s:={s with heap:=h1.push (E9 "list" vs.toArray 0),toks:=tk1}) nE R (by lia) (v6 hu) λp P1 P2=>⟨_,rfl,?_⟩) (V6 _)));refine AC ⟨_,rfl,?_⟩;obtain⟨e,he⟩:=sortedHeap_at (out:=LL (p.toList.map λi=>vs.getD i DE)) nE;have lk1:=p1.length_eq;have eo:(p.toList.map λi=>vs.getD i DE)=(p.toList.map λi=>k1.getD i ([],0)).map λx=>A7 x.2:=by
  rw[G6];refine HI λi hi=>?_;have br:=A8.mp ((Qg P1).mem_iff.mp hi);rw[hvs];simp[AD,br]
 rw[eo] at he ⊢;have pk:(p.toList.map λi=>k1.getD i ([],0)).Perm k1:=by
  have z:=SB.Jq (l:=k1) (Qg P1);rw[SB.JQ ([],0) λi hi=>A8.mp ((Qg P1).mem_iff.mp hi)] at z;exact z
 refine q _ tk1 h1.objs.size _ e (λb ob eb=>?_) hsz he (pk.trans p1) ?_
 .have hb:=Bz (kp b ob eb)
  rw[sortedHeap_old (BU hb) (by rw[FB];exact FI hb)];exact kp2 b ob eb
 .rw[G6]
  refine CO.mpr λi j hi hj gv=>?_;have br:i<p.size:=by simpa using hi
  have bu:j<p.size:=by simpa using hj
  have z:=P2 i j gv (by rw[<- P1.size];exact bu);unfold ltK g at z;simpa [EH,br,bu] using z
end
end SB
namespace L2
open PySem PySem.Spec PyProof.Rows
def AAg(K:Ap)(te:TE):TE:=λσ H Q=>te σ H λv H1=>∃a xs rs,v=.ref a/\SqL K H1 a xs/\BI (rPair K H1) rs xs/\(∀ms:uJ,ms.Nodup->(∀m∈ms,m∈rs)->ms.length<=300) /\
 ∀l ys ms,H1 l=none->ms.Pairwise (λa b=>HT.lexLt a b=true)->(∀r,r∈ms↔r∈rs)->BI (rPair K H1) ms ys->BI (λm y=>∃i:Nat,rs[i]?=uA m/\xs[i]?=uA y) ms ys->Q (.ref l) (upd H1 l (.lst ys))
theorem Uv(hc:X.calm=true)(hu:X.A.units+7<C0)(hg:Gl X "sorted")(hm:X.mg "sorted" = uB)(l9:Gl X "set")(hm2:X.mg "set" = uB)(he:PE X e te)
  (hv:IR "sorted" = uA (.builtin "sorted"):=by exact IY) (hv2:IR "set" = uA (.type "set"):=by decide+kernel)
  (s1:autoParam (CI [e] X.env=(false,eval e X.env)::CI [] X.env) zA0._auto_1)
  (s2:autoParam (CI [.Call (.Name "set" p2) [e] [] kP] X.env=(false,eval (.Call (.Name "set" p2) [e] [] kP) X.env)::CI [] X.env) zA0._auto_1) :
  PE X (.Call (.Name "sorted" p1) [.Call (.Name "set" p2) [e] [] kP] [] pos) (AAg X.K te):=by
 intro aa s σ H Q I h;refine F4 (Fb I hg hm hv ?_ (by decide) (by decide));refine MS ?_ s2 rfl;rw[s2];refine J1 ?_;refine F4 (Fb I l9 hm2 hv2 ?_ (by decide) (by decide));refine Ee ?_ s1 rfl;rw[s1];refine J1 (thn (he aa s σ H _ I h) λu s1 hq=>?_);obtain⟨x,H1,I1,r1,q1⟩:=hq;refine LY ?_;obtain⟨a,xs,rs,rfl,ha,pr,kN,q⟩:=q1;cases r1;obtain⟨ag,r,pl,_⟩:=I1.list ha;have lx:=r.length;have lr:=AV pr;have hl:=pl.isList;have at_:∀i:Nat,i<ag.length->∃b ns,ag[i]?=uA (.ref b)/\xs[i]?=uA (.ref b)/\rs[i]?=uA ns/\rPair X.K H1 ns (.ref b):=λi hi=>by
  have hx:i<xs.length:=dl hi lx;obtain⟨ns,kC,rp⟩:=Paired.get pr (AI hx);obtain⟨b,eb,hb⟩:=CG rp;obtain⟨u,lw,ru⟩:=r.get (AI hx);rw[eb] at ru rp;cases ru;exact⟨b,ns,lw,by rw[AI hx,eb],kC,rp⟩
 have pick:∃vals:Nat->uI×Addr,∀i:Nat,i<ag.length->ag[i]?=uA (.ref (vals i).2)/\rs[i]?=uA (vals i).1/\rPair X.K H1 (vals i).1 (.ref (vals i).2)/\xs[i]?=uA (.ref (vals i).2):=by
  refine⟨λi=>if h:i<ag.length then(Fm (F7 (at_ i h)),Fm (at_ i h)) else([],0),λi hi=>?_⟩;have z:=F7 (F7 (at_ i hi));dsimp only;rw[dif_pos hi];exact⟨z.1,z.2.2.1,z.2.2.2,z.2.1⟩
 obtain⟨vals,b9⟩:=pick;have hsz:ag.toArray.size=ag.length:=by simp
 have few:∀ks:List (uI×Addr),(∀x∈ks,∃j,j<ag.length/\x=vals j)->(ks.map (·.1)).Nodup->ks.length<=300:=λks hs hn=>by
  have:=kN (ks.map (·.1)) hn λm hm=>by
   obtain⟨x,hx,rfl⟩:=A1.mp hm;obtain⟨j,hj,rfl⟩:=hs x hx;exact AX (b9 j hj).2.1
  rwa [AB] at this
 refine SB.AFS (items:=ag.toArray) (vals:=vals) (I1.ok.hd hc) (by lia) hl (λi v hv=>?_) (λj hj=>?_) (by rw[hsz];exact few) λh' tk es t ks T O kp=>?_
 .have hi:i<ag.length:=by
   have:=(C7.mp hv).1;rw[hsz] at this;exact this
  have z:=(b9 i hi).1;have kQ:ag[i]?=uA v:=by simpa using hv
  rw[kQ] at z;exact AN z
 .rw[hsz] at hj
  obtain⟨b,eb,hb⟩:=CG (b9 j hj).2.2.1;cases eb;exact ik_ofB I1 hb
 refine LY ?_;rw[hsz] at O;have hK:∀x∈ks,SB.IK X.prog X.w h' x.1 x.2:=λx hx=>by
  obtain⟨j,hj,rfl⟩:=O.sub x hx;obtain⟨b,eb,hb⟩:=CG (b9 j hj).2.2.1;cases eb;exact SB.Hz (ik_ofB I1 hb) λo e=>kp _ o e
 have inrs:∀j,j<ag.length->(vals j).1∈rs:=λj hj=>AX (b9 j hj).2.1;have hSz:s1.heap.objs.size<=h'.objs.size:=by
  obtain⟨o,_,ho,_⟩:=T.obj;exact DB (Bz ho)
 refine SB.Ub (s:={s1 with heap:=h',toks:=tk}) (by lia) (I1.ok.hd hc) T hK (OG (few ks O.sub T.nd)) λh2 tk2 D ko e kp2 hD he pk so=>?_;have hD':=BY hSz hD;have hn:=I1.hok.fresh hD';have lko:ko.length<=301:=by rw[pk.length_eq];exact OG (few ks O.sub T.nd)
 have kov:∀x∈ko,∃j,j<ag.length/\x=vals j:=λx hx=>O.sub x (pk.mem_iff.mp hx);have vl:∀l:List (uI×Addr),Vals (l.map λx=>V.ref x.2) (l.map λx=>A7 x.2):=λl=>by
  induction l with
  | nil=>exact .nil
  | cons x r ih=>exact .cons rfl ih
 have pv:∀l:List (uI×Addr),(∀x∈l,∃j,j<ag.length/\x=vals j)->BI (rPair X.K H1) (l.map (·.1)) (l.map λx=>V.ref x.2):=λl=>by
  induction l with
  | nil=>exact λ_=>.nil
  | cons x r ih =>
   intro hh;obtain⟨j,hj,rfl⟩:=hh x AG;exact .cons (b9 j hj).2.2.1 (ih λy hy=>hh y (AK _ hy))
 have pw:∀l:List (uI×Addr),(∀x∈l,∃j,j<ag.length/\x=vals j)->BI (λm y=>∃i:Nat,rs[i]?=uA m/\xs[i]?=uA y) (l.map (·.1)) (l.map λx=>V.ref x.2):=λl=>by
  induction l with
  | nil=>exact λ_=>.nil
  | cons x r ih =>
   intro hh;obtain⟨j,hj,rfl⟩:=hh x AG;exact .cons ⟨j,(b9 j hj).2.1,(b9 j hj).2.2.2⟩ (ih λy hy=>hh y (AK _ hy))
 refine⟨.ref D,_,I1.laid (o:=.lst (ko.map λx=>V.ref x.2)) (a:=D) (t':=tk2) (λb o eb=>kp2 b o (kp b o eb)) hD' ⟨?_,ko.map (λx=>A7 x.2),e,vl ko,he⟩,rfl,q D _ (ko.map (·.1)) hn so (λrr=>?_) (pv ko kov) (pw ko kov)⟩
 .rw[AB]
  exact small (by lia)
 .constructor
  .intro hr
   obtain⟨x,hx,rfl⟩:=A1.mp hr;obtain⟨j,hj,rfl⟩:=kov x hx;exact inrs j hj
  .intro hr
   obtain⟨j,hj⟩:=F6.mp hr;have hjl:j<ag.length:=by
    have:=(AH.mp hj).1;lia
   have z:=(b9 j hjl).2.1;rw[hj] at z;cases z;exact(pk.map (·.1)).mem_iff.mpr (O.sup j hjl)
end L2
namespace K32s
open PySem L2 G
def YQ(K:Ap)(C:Addr):Sp:=λvs H Q _=>∃(l:Addr) (n top:Nat) (rows:List Row),vs=[.int n,.ref l,.int top]/\RowsAt K H l rows/\Ok n rows/\n<=12/\rows.length<=4100/\FewB rows top/\Knot rows top /\
 ∀(p:Addr) (ae:List Row) (hd:Nat) (H':Hp),Same H H'->SvAt K C H' p n ae hd->Canon n ae hd->(∀s,led ae hd s=led rows top s)->(ae.length<=4000/\ae.length<=rows.length/\∀t,(ae.filter λr=>decide (r.1=t)).length<=300)->Q (.ref p) H'
noncomputable def pl01:List (Key×V):=mergeK [] [(F3 (0:Int),V.int 0),(F3 (1:Int),V.int 1)]
theorem ADM:PlD pl01 λk=>if k=0 then uA 0 else if k=1 then uA 1 else uB:=by
 intro k;show valV (putK (putK ([]:List (Key×V)) (F3 (0:Int)) (V.int 0)) (F3 (1:Int)) (V.int 1)) (F3 (k:Int))=_;rw[Ey,Ey];by_cases k1:k=1
 .subst k1;rfl
 by_cases k0:k=0
 .subst k0;rfl
 rw[uC (λz=>k1 (by injection z with z;lia)),uC (λz=>k0 (by injection z with z;lia))];dsimp only;rw[uC k0,uC k1];rfl
theorem AFz:pl01.length<=2+4100*0:=by
 show(putK (putK ([]:List (Key×V)) (F3 (0:Int)) (V.int 0)) (F3 (1:Int)) (V.int 1)).length<=2+4100*0;exact BY (Ck _ _ _) (Nat.succ_le_succ (Ck _ _ _))
def LayR(rows:List Row)(pl:Nat->uX)(H:Hp)(k:Nat)(v:V):Prop:=∃q b,v=.ref q/\H q=uA (.tup [.int k,.ref b])/\H b=uA (.tup (r3 (rowIn rows pl k)))
theorem LayR.keeps{rows:List Row}{k:Nat}(e:∀a xs,H a=uA (.tup xs)->H' a=uA (.tup xs))(h:LayR rows pl H k v):LayR rows pl H' k v :=
 by obtain⟨q,b,h1,h2,h3⟩:=h;exact⟨q,b,h1,e _ _ h2,e _ _ h3⟩
def RowR(H:Hp)(r:Row)(v:V):Prop:=∃b,v=.ref b/\H b=uA (.tup (r3 r))
theorem RowR.keeps{r:Row}(e:∀a xs,H a=uA (.tup xs)->H' a=uA (.tup xs))(h:RowR H r v):RowR H' r v :=
 by obtain⟨b,h1,h2⟩:=h;exact⟨b,h1,e _ _ h2⟩
noncomputable def sel(rows:List Row)(pl:Nat->uX)(ly:uL)(j:Nat):List Row:=((ly.take j).map (rowIn rows pl)).filter λr=>decide (r.2.2≠0)
theorem Rt{rows:List Row}{k:Nat}(h:ly[j]?=uA k):sel rows pl ly (j+1)=sel rows pl ly j++if(rowIn rows pl k).2.2≠0 then [rowIn rows pl k] else []:=by
 unfold sel;rw[Ex,h,BM,CL];by_cases c:(rowIn rows pl k).2.2≠0
 .simp[c]
 .simp[c]
theorem YS(rows:List Row)(pl:Nat->uX)(ly:uL)(j:Nat):(sel rows pl ly j).length<=ly.length:=by
 unfold sel;refine BY (Do _ _) ?_;rw[AB,B0];lia
theorem GQ{rows:List Row}{r:Row}:r∈sel rows pl ly ly.length↔∃k∈ly,r=rowIn rows pl k/\r.2.2≠0:=by
 unfold sel;rw[CM,BQ,A1];constructor
 .rintro⟨⟨k,hk,rfl⟩,h⟩
  exact⟨k,hk,rfl,uG h⟩
 .rintro⟨k,hk,rfl,h⟩
  exact⟨⟨k,hk,rfl⟩,uE h⟩
noncomputable def placeOf(rows:List Row)(pl:Nat->uX)(ae:List Row)(k:Nat):Nat:=(numOf 2 ae (rowIn rows pl k)).getD (rowIn rows pl k).2.1
theorem XD{γ:Type}{F:β->γ->Prop}{f:α->β}:∀{l:List α}{m:List γ},BI (λa b=>F (f a) b) l m->BI F (l.map f) m:=by
 intro l m h
 induction h with
 | nil=>exact .nil
 | cons h t ih=>exact .cons h ih
theorem AFN{rows new:List Row}{t:Nat}(h:(new.map r3i).Pairwise (λa b=>HT.lexLt a b=true))(hw:∀r,r∈new->∃k,k∈rc/\tieOf rows k=t/\r=rowIn rows pl k/\r.2.2≠0):new.Pairwise RowLt:=by
 have h2:new.Pairwise (λa b=>HT.lexLt (r3i a) (r3i b)=true):=CY.mp h;have tie:∀r∈new,r.1=t:=λr hr=>by
  obtain⟨k,_,h,e,_⟩:=hw r hr;rw[e];exact h
 refine EO (λ{a b} ha hb z=>?_) h2;have ea:=tie a ha;have eb:=tie b hb;obtain⟨a1,a2,a3⟩:=a;obtain⟨b1,b2,b3⟩:=b;dsimp only at ea eb;subst ea;subst eb;unfold r3i at z;dsimp only at z;rw[HT.Cm,uD rfl,HT.Cm] at z;refine .inr ⟨rfl,?_⟩;dsimp only;by_cases c:(a2:Int)=b2
 .rw[uD c,HT.Cm] at z
  by_cases d:(a3:Int)=b3
  .rw[uD d] at z
   cases z
  .rw[uC d] at z
   have:=uG z;exact .inr ⟨uM c,xx this⟩
 .rw[uC c] at z
  have:=uG z;exact .inl (xx this)
theorem El:FnScope ["n","rows","top","reached","numbers","places","tie","layer","row","knot"] zl24 (Ah MJ):=fscp (by decide+kernel)
theorem ACX(F:Fun K "least_graph" "least_graph" MJ f fd)(T:Txt K mg C)(M:Mk K C fS)
  (GR:Cal P w K mg base 1 fR qW "reached_knots" zl23 (Yi K))
  (GI:Cal P w K mg base 1 fI ku "row_in_places" zl7 (AHa K))
  (GS:FnOk P w K mg base CX0 1 fS cK zl6 (Jo K C)) (bS:Binds K cK zl6 []) :
  FnOk P w K mg base CX0 3 f fd zl24 (YQ K C):=by
 refine F.ok El (λvs H Q E h=>?_) (λa7 A outer s H vs Q E hr h=>?_)
 .obtain⟨l,n,top,rows,rfl,_⟩:=h
  rfl
 obtain⟨l,n,top,rows,rfl,hL,ok,n12,r72,fw,kt,q⟩:=h;have bm:Room 1 _:=hr.mono (by decide);refine⟨_,Ad (Ak (i:=3) El.nd (BP GR bm rfl (Aa (pv 1) (Aa (pv 2) Ac))))
  (Ad (Ak (i:=4) El.nd ABi)
  (Ad (Ak (i:=5) El.nd (Yp (Lj Ag Ag (Lj Ag Ag Yz)) rfl rfl (by intro z;cases z) (by decide)))
  (Ad (DW C5 rfl (Pk rfl T.range (Aa (Az Fd (pv 0) Ag) (Aa (YL RX Ag) (Aa (YL RX Ag) Ac)))) (BX (i:=6) El.nd)
   (Ad (JM (i:=7) (Ah MJ) ["knot"] ["places","rows","tie"] [5,1,6] El.nd rfl (K8 rfl) rfl rfl (by decide+kernel) ⟨⟨rfl,by decide+kernel⟩,⟨rfl,by decide+kernel⟩,⟨rfl,by decide+kernel⟩,trivial⟩ (Bt (pv 3))
    (λ_ _ _=>BK (i:=0))
    (λ_ _ _=>CK (Am DR (Av (QX (K:=K) rfl) (Av (QX (K:=K) rfl) (pv 2) (Az Fd (pv 0) Ag)) Ag) (pv 3)))
    (λ_ _ _=>Cq (Aa (pv 0) (Aa (BP GI bm rfl (Aa (pv 1) (Aa (Av (QX (K:=K) rfl) (pv 2) (Az Fd (pv 0) Ag)) Ac))) Ac))))
   (Ad (DW C5 rfl (Bt (Uv rfl (Br hr) rfl T.sorted rfl T.set
     (Bq (Ah MJ) ["knot","row"] [] [] rfl rfl (by decide+kernel) trivial (Bt (pv 7))
      (λ_ _ _=>Hj (K:=K) (n:=2) rfl rfl (Bd (BK (i:=0)) (Bd (BK (i:=1)) Dp)))
      (λ_ _ _=>CK (Am JZ (Av (YC (K:=K) rfl) (pv 1) Ag) Ag))
      (λ_ _ _=>pv 1)))) (BX (i:=8) El.nd)
    (Ai (Km (Br hr) (pv 4) (pv 8) (Az Cp (Ax Ua rfl T.len Cn (Aa (pv 4) Ac)) Ag) rfl)))
   (Ai (DW C5 rfl (Bt (pv 7)) (Hj (K:=K) (n:=2) rfl rfl (Bd (BX (i:=9) El.nd) (Bd (BX (i:=8) El.nd) Dp)))
    (Ai (Km (Br hr) (pv 5) (pv 9) (ADj (Br hr) (pv 4) (pv 8) (Av BW (pv 8) Ag) ⟨rfl,rfl,rfl,rfl⟩) rfl)))))))
  (Ai (Ao (Kr M GS hr rfl T.mgC bS .nil pass0 (Aa (pv 0) (Aa (Bb (Qh rfl) rfl T.list E6 (Aa (pv 4) Ac)) (Aa (Qn (Br hr) (pv 5) (pv 2) (λ_ _=>rfl)) Ac))))))))),?_⟩
 refine⟨_,rfl,_,rfl,l,n,top,rows,rfl,hL,ok,r72,kt,λR rc H1 s1 nR eR cl tr rl0 par=>?_⟩;have rl:∀t j,(lay rows t rc j).length<=4100:=λt j=>BY (rl0 t j) (BY (Do ..) r72);refine λN hN=>?_;have nN:H N=uB:=s1.free hN;have s2:=s1.trans (u8 hN (.dT []));refine λD hD=>⟨Ab,[(.inl (0:Int),.int 0),(.inl (1:Int),.int 1)],rfl,(by show 2<=15;decide),?_⟩;have nD:H D=uB:=s2.free hD;have RN:R≠N:=Ae eR hN;have RD:R≠D:=Ae (show(upd H1 N (.dT [])) R=uA (.lst (iN rc)) by rw[Af RN];exact eR) hD;have ND:N≠D:=Ae (show(upd H1 N (.dT [])) N=uA (.dT []) from Ab) hD;refine⟨_,rfl,_,_,rfl,rfl,1,rfl,1,rfl,(n:Int)-1,-1,rfl,⟨by lia,by lia,by lia,by lia⟩,?_⟩;refine SJ (lo:=(n:Int)-1) (n:=((n:Int)-1 - -1).toNat) (λi σ H2=>∃(ae:List Row) (af:List (Key×V)) (pl:Nat->uX) (o6 o7 o8 o9:Option V),σ=[uA (.int n),uA (.ref l),uA (.int top),uA (.ref R),uA (.ref N),uA (.ref D),o6,o7,o8,o9]/\Same H H2 /\
   H2 R=uA (.lst (iN rc))/\H2 N=uA (.dT (numKV 2 ae))/\H2 D=uA (.dK af)/\PlD af pl/\Kept2 n (n-i) rows rc ae pl/\ae.length<=300*i/\af.length<=2+4100*i/\∀t,(ae.filter λr=>decide (r.1=t)).length<=300)
  ⟨[],_,λk=>if k=0 then uA 0 else if k=1 then uA 1 else uB,uB,uB,uB,uB,rfl,λb o e=>?_,?_,?_,Ab,?_,?_,by simp,?_,λt=>AY _⟩ ?_ ?_
 .rw[Af (Ae e nD),Af (Ae e nD)]
  exact s2 b o e
 .rw[Af RD,Af RD,Af RN]
  exact eR
 .rw[Af ND,Af ND,Ab]
  rfl
 .exact ADM
 .exact WX λk hk=>(cl.low ok hk).1
 .exact AFz
 .rintro i σ H2 hi ⟨ae,af,pl,o6,o7,o8,o9,rfl,sm,qq,eN2,ke,pd,kp,nl,kl,cn⟩
  obtain⟨t,et,tn,tn',tlt⟩:∃t:Nat,(n:Int)-1-i=t/\n-i=t+1/\n-(i+1)=t/\t<n:=⟨n-1-i,by lia,by lia,wJ,by lia⟩;rw[et];rw[tn] at kp;have oQ:=hL.same sm;refine⟨_,rfl,R,rfl,⟨_,uy qq⟩,λY hY=>?_⟩;have nY:H Y=uB:=sm.free hY;refine Bu (K:=K) (a:=R) (xs:=iN rc) (λj τ H3=>∃(kv:Option V) (ys:List V),τ=[kv,uA (.ref D),uA (.ref l),uA (.int t)]/\Same H2 H3/\H3 Y=uA (.lst ys)/\BI (LayR rows pl H3) (lay rows t rc j) ys)
   ⟨uB,[],rfl,u8 hY _,Ab,.nil⟩ (by rintro j τ H3 _ ⟨_,_,_,s3,_⟩;exact s3.seq (uy qq)) ?_ ?_
  .rintro j x τ H3 hx ⟨kv,ys,rfl,s3,eY,py⟩
   obtain⟨k,hk,rfl⟩:∃k:Nat,rc[j]?=uA k/\x=.int (k:Int):=by
    unfold iN at hx;rw[AS] at hx;cases g:rc[j]? with
    | none=>rw[g] at hx;cases hx
    | some k=>rw[g] at hx;cases hx;exact⟨k,rfl,rfl⟩
   have km:=AX hk;obtain⟨xs,p,hS,ha,hp⟩:=Rm (oQ.same s3) (cl.knot k km) (cl.two k km);refine⟨_,rfl,_,rfl,_,_,rfl,rfl,ixA hS ha (ixA hp at0 ⟨_,rfl,rfl,_,rfl,?_⟩)⟩;refine ite2 (λc=>?_) (λc=>?_)
   .have c':tieOf rows k=t:=by
     have:=uG c;injection this with this
     exact My this
    obtain⟨a,b,pa,pb,re,_⟩:=kp.base.row cl ok tlt km c';have hG:valV af (F3 (((rows.getD (k-2) (0,0,0)).2.1:Nat):Int))=uA (.int (a:Int)):=by
     have:=pd (outOf rows k);rw[pa] at this;exact this
    have hy':valV af (F3 (((rows.getD (k-2) (0,0,0)).2.2:Nat):Int))=uA (.int (b:Int)):=by
     have:=pd (intoOf rows k);rw[pb] at this;exact this
    refine⟨_,rfl,_,rfl,_,rfl,_,rfl,_,_,rfl,rfl,ixA hS ha ⟨D,p,rows.getD (k-2) (0,0,0),a,b,af,rfl,s3 _ _ ke,⟨p,rfl,hp⟩,hG,hy',λu hu=>?_⟩⟩;refine⟨(by show 2<=sizeLine;decide),λv hv=>?_⟩;have er:[V.int ((rows.getD (k-2) (0,0,0)).1:Nat),V.int (a:Int),V.int (b:Int)]=r3 (rowIn rows pl k):=by
     rw[re,<- c'];rfl
    rw[er];rw[er] at hv;have su:=u8 hu (.tup (r3 (rowIn rows pl k)));have sv:=u8 hv (.tup [.int (k:Int),.ref u]);have t8:=sv _ _ (su _ _ eY);have ll:=rl t j;have ly:ys.length<=4100:=by rw[<- AV py];exact ll
    have kt:∀a xs,(upd (upd H3 u (.tup (r3 (rowIn rows pl k)))) v (.tup [.int (k:Int),.ref u])) a=uA (.tup xs)->(upd (upd (upd H3 u (.tup (r3 (rowIn rows pl k)))) v (.tup [.int (k:Int),.ref u])) Y (.lst (ys++[.ref v]))) a=uA (.tup xs):=λa xs e=>by
     rw[Af (DQ e t8 (by intro z;cases z))];exact e
    refine⟨_,t8,smallN (wK ly),_,_,rfl,λb o e=>?_,Ab,?_⟩
    .rw[Af (Ae e hY)]
     exact sv _ _ (su _ _ (s3 b o e))
    .rw[Va hk,uD c']
     refine u4 (u7 (λa b r=>(r.keeps λa xs e=>sv _ _ (su _ _ e)).keeps kt) py) (u5 ⟨v,u,rfl,kt _ _ Ab,kt _ _ (sv _ _ Ab)⟩)
   .have c':¬ tieOf rows k=t:=λe=>c (uE (by show V.int ((tieOf rows k:Nat):Int)=V.int (t:Int);rw[e]))
    refine⟨_,_,rfl,s3,eY,?_⟩;rw[Va hk,uC c',Co];exact py
  .rintro τ H3 ⟨kv,ys,rfl,s3,eY,py⟩
   have rcl:(iN rc).length=rc.length:=AB ..;rw[rcl] at py;have ll:=rl t rc.length;have ly:ys.length<=4100:=by rw[<- AV py];exact ll
   refine⟨_,rfl,Y,rfl,⟨_,uy eY⟩,λZ hZ=>?_⟩;refine Bu (K:=K) (a:=Y) (xs:=ys) (λj τ H4=>∃(o1 o2:Option V) (zs:List V),τ=[o1,o2]/\Same H3 H4/\H4 Z=uA (.lst zs)/\BI (RowR H4) (sel rows pl (lay rows t rc rc.length) j) zs)
    ⟨uB,uB,[],rfl,u8 hZ _,Ab,.nil⟩ (by rintro j τ H4 _ ⟨_,_,_,_,s4,_⟩;exact s4.seq (uy eY)) ?_ ?_
   .rintro j x τ H4 hx ⟨o1,o2,zs,rfl,s4,eZ,pz⟩
    obtain⟨k,hk,u,b,rfl,hu,hb⟩:=Paired.get py hx;have hu4:=s4 _ _ hu;have hb4:=s4 _ _ hb;refine⟨u,_,rfl,uz hu4,rfl,_,_,rfl,_,_,rfl,rfl,?_⟩;refine⟨_,rfl,b,_,_,_,rfl,rfl,uz hb4,at2,rfl,_,rfl,?_⟩;have zl:zs.length<=4100:=by rw[<- AV pz];exact BY (YS _ _ _ _) ll
    refine ite2 (λc=>?_) (λc=>?_)
    .have c':(rowIn rows pl k).2.2≠0:=λe=>by
      rw[e] at c;exact uH c (by decide)
     refine⟨_,rfl,_,eZ,smallN (wK zl),_,_,_,rfl,λb o e=>?_,Ab,?_⟩
     .rw[Af (Ae e hZ)]
      exact s4 b o e
     .rw[Rt hk,uD c']
      have kz:∀a xs,H4 a=uA (.tup xs)->(upd H4 Z (.lst (zs++[.ref b]))) a=uA (.tup xs):=λa xs e=>by rw[Af (DQ e eZ (by intro z;cases z))];exact e
      exact u4 (u7 (λa b r=>r.keeps kz) pz) (u5 ⟨b,rfl,kz _ _ hb4⟩)
    .have c':(rowIn rows pl k).2.2=0:=by
      rcases S3 (rowIn rows pl k).2.2 with e| e
      .exact e
      .exact uH (by rw[uF (λz=>by injection z with z;lia)];rfl) c
     refine⟨_,_,_,rfl,s4,eZ,?_⟩;rw[Rt hk,uC (λz=>z c'),Co];exact pz
   .rintro τ H4 ⟨o1,o2,zs,rfl,s4,eZ,pz⟩
    rw[<- AV py] at pz;have zl:(sel rows pl (lay rows t rc rc.length) (lay rows t rc rc.length).length).length<=4100:=BY (YS _ _ _ _) ll;refine⟨Z,zs,(sel rows pl (lay rows t rc rc.length) (lay rows t rc rc.length).length).map r3i,rfl,uy eZ,XD (u7 (λr v ⟨b,e,hb⟩=>by rw[e];exact Fl (ns:=r3i r) hb) pz),λms nd hm=>?_,λS nX ms hS so mem pr pw=>?_⟩
    .obtain⟨new,rfl⟩:=Jh ms λm cw=>by
      obtain⟨r',_,e⟩:=A1.mp (hm m cw);exact⟨r',e.symm⟩
     rw[AB];refine fw.sel kp cl ok tlt par new ((CY.mp nd).imp λh e=>h (by rw[e])) λr hr=>?_;obtain⟨r',h1,h2⟩:=A1.mp (hm _ (HH hr));rw[Kc h2] at h1;obtain⟨k,h1,h2,h3⟩:=GQ.mp h1;obtain⟨h4,h5⟩:=JH.mp h1;exact⟨k,h4,h5,h2,h3⟩
    obtain⟨new,rfl⟩:=Jh ms λm hm=>by
     obtain⟨r',_,e⟩:=A1.mp ((mem m).mp hm);exact⟨r',e.symm⟩
    have nd:=AAX so;have uh:∀r∈new,r∈sel rows pl (lay rows t rc rc.length) (lay rows t rc rc.length).length:=λr hr=>by
     obtain⟨r',h1,h2⟩:=A1.mp ((mem (r3i r)).mp (HH hr));rw[<- Kc h2];exact h1
    have hw:∀r,r∈new->∃k,k∈rc/\tieOf rows k=t/\r=rowIn rows pl k/\r.2.2≠0:=λr hr=>by
     obtain⟨k,h1,h2,h3⟩:=GQ.mp (uh r hr);obtain⟨h4,h5⟩:=JH.mp h1;exact⟨k,h4,h5,h2,h3⟩
    have hw2:∀k∈rc,tieOf rows k=t->(rowIn rows pl k).2.2≠0->rowIn rows pl k∈new:=λk hk hkt w0=>by
     have h0:r3i (rowIn rows pl k)∈new.map r3i:=(mem _).mpr (HH (GQ.mpr ⟨k,JH.mpr ⟨hk,hkt⟩,rfl,w0⟩));obtain⟨r',h1,h2⟩:=A1.mp h0;rw[<- Kc h2];exact h1
    have newl:new.length<=300:=fw.sel kp cl ok tlt par new nd hw;have ly':nX.length=new.length:=by rw[<- AV pr,AB]
    have sS:=u8 hS (.lst nX);have oz:=sS _ _ (s4 _ _ (s3 _ _ eN2));have tw:=sS _ _ (s4 _ _ (s3 _ _ ke));have ig:=sS _ _ (s4 _ _ (s3 _ _ qq));have eY4:=sS _ _ (s4 _ _ eY);have SN:S≠N:=DQ (show(upd H4 S (.lst nX)) S=uA (.lst nX) from Ab) oz (by intro z;cases z);refine⟨S,rfl,⟨_,uy Ab⟩,?_⟩;refine Eh (K:=K) (a:=S) (xs:=nX) (λj σ H5=>∃o8:Option V,σ=[uA (.int n),uA (.ref l),uA (.int top),uA (.ref R),uA (.ref N),uA (.ref D),uA (.int t),uA (.ref Y),o8,o9]/\(∀b o,b≠N->(upd H4 S (.lst nX)) b=uA o->H5 b=uA o) /\
      H5 N=uA (.dT (numKV 2 (ae++new.take j)))) ⟨o8,rfl,λb o _ e=>e,by rw[Q3,Co];exact oz⟩ (by rintro j σ H5 _ ⟨_,_,k5,_⟩;exact uy (k5 _ _ SN Ab)) ?_ ?_
    .rintro j x σ H5 hx ⟨o8,rfl,k5,eN5⟩
     obtain⟨m,hm,i',hi1,iL⟩:=Paired.get pw hx;obtain⟨r,hr,rfl⟩:∃r,new[j]?=uA r/\m=r3i r:=by
      rw[AS] at hm;cases g:new[j]? with
      | none=>rw[g] at hm;cases hm
      | some r=>rw[g] at hm;cases hm;exact⟨r,rfl,rfl⟩
     obtain⟨r',hr',b,rfl,hb⟩:=Paired.get pz iL;have er:r'=r:=by
      rw[AS,hr'] at hi1;exact Kc (AN hi1)
     subst er;have bN:b≠N:=DQ (sS _ _ hb) oz (by intro z;cases z);have hb5:=k5 _ _ bN (sS _ _ hb);have rn:r'∉ae++new.take j:=λhm=>by
      rcases Ct.mp hm with hm| hm
      .have:=kp.base.ge r' hm
       obtain⟨k,_,h5,h2,_⟩:=hw r' (AX hr);rw[h2] at this;have e:(rowIn rows pl k).1=tieOf rows k:=rfl;lia
      .obtain⟨j',bu⟩:=F6.mp hm
       rw[List.getElem?_take] at bu;split at bu
       .have:=(Kx (AH.mp bu).1 nd).mp (bu.trans hr.symm)
        lia
       .cases bu
     have nl2:(ae++new.take j).length<=300*13:=by
      rw[AZ,B0];lia
     refine⟨_,rfl,N,_,rfl,eN5,_,_,rfl,rfl,_,rfl,_,rfl,N,_,rfl,.inr ⟨_,ik3 r',b,eN5,rfl,hb5,by rw[Jt];exact smallN (by lia),rfl⟩,?_⟩;refine⟨_,rfl,λb o hb e=>by rw[Af hb];exact k5 b o hb e,?_⟩;rw[Ab,ZX rn,Ex,hr];rw[CU];rfl
    .rintro σ H5 ⟨o8,rfl,k5,eN5⟩
     rw[ly',CM] at eN5;have DN:D≠N:=DQ tw oz (by intro z;cases z);have RN4:R≠N:=DQ ig oz (by intro z;cases z);have YN:Y≠N:=DQ eY4 oz (by intro z;cases z);have ir:=k5 _ _ DN tw;have g6:=k5 _ _ RN4 ig;have eY5:=k5 _ _ YN eY4;have YD:Y≠D:=DQ eY5 ir (by intro z;cases z);refine⟨_,rfl,Y,rfl,⟨_,uy eY5⟩,?_⟩;refine Eh (K:=K) (a:=Y) (xs:=ys) (λj σ H6=>∃(o8 o9:Option V) (bh:List (Key×V)),σ=[uA (.int n),uA (.ref l),uA (.int top),uA (.ref R),uA (.ref N),uA (.ref D),uA (.int t),uA (.ref Y),o8,o9]/\(∀b o,b≠D->H5 b=uA o->H6 b=uA o) /\
       H6 D=uA (.dK bh)/\PlD bh (plOf pl (placeOf rows pl (ae++new)) ((lay rows t rc rc.length).take j))/\bh.length<=af.length+j) ⟨o8,o9,af,rfl,λb o _ e=>e,ir,?_,u9⟩ (by rintro j σ H6 _ ⟨_,_,_,_,k6,_⟩;exact uy (k6 _ _ YD eY5)) ?_ ?_
     .intro k
      rw[pd k];unfold plOf;rw[uC (by simp)]
     .rintro j x σ H6 hx ⟨o8,o9,bh,rfl,k6,ls,pd6,kl6⟩
      obtain⟨k,hk,u,b,rfl,hu,hb⟩:=Paired.get py hx;have up:∀a xs,H3 a=uA (.tup xs)->H6 a=uA (.tup xs):=λa xs e=>by
       have e4:=sS _ _ (s4 _ _ e);have e5:=k5 _ _ (DQ e4 oz (by intro z;cases z)) e4;exact k6 _ _ (DQ e5 ir (by intro z;cases z)) e5
      have eN6:=k6 _ _ (Cb DN) eN5;have jl:j<ys.length:=(AH.mp hx).1;refine⟨u,_,rfl,uz (up _ _ hu),rfl,_,_,rfl,_,_,rfl,rfl,?_⟩;refine⟨_,rfl,N,rfl,.inr ⟨_,.inl eN6⟩,_,rfl,_,rfl,b,_,_,_,rfl,rfl,uz (up _ _ hb),at1,_,ux (k:=ik3 (rowIn rows pl k)) eN6 (up _ _ hb),?_⟩;refine⟨_,rfl,_,rfl,D,_,rfl,.inl ⟨bh,F3 (k:Int),ls,rfl,smallN (by lia),rfl⟩,?_⟩;have ev:(valV (numKV 2 (ae++new)) (ik3 (rowIn rows pl k))).getD (V.int ((rowIn rows pl k).2.1:Nat))=V.int ((placeOf rows pl (ae++new) k:Nat):Int):=by
       rw[Jc];unfold placeOf;cases numOf 2 (ae++new) (rowIn rows pl k)<;>rfl
      rw[ev];refine⟨_,_,_,rfl,λb o hb e=>by rw[Af hb];exact k6 b o hb e,Ab,?_,by have:=Ck bh (F3 (k:Int)) (V.int ((placeOf rows pl (ae++new) k:Nat):Int));lia⟩;rw[Ex,hk];exact PlD.put pd6
     .rintro σ H6 ⟨o8,o9,bh,rfl,k6,ls,pd6,kl6⟩
      rw[<- AV py,CM] at pd6;refine⟨ae++new,bh,_,_,_,_,_,rfl,λb o e=>?_,k6 _ _ (DQ g6 ir (by intro z;cases z)) g6,k6 _ _ (Cb DN) eN5,ls,pd6,?_,by rw[AZ];lia,by lia,λt1=>?_⟩
      .have e4:=sS _ _ (s4 _ _ (s3 _ _ (sm b o e)))
       exact k6 _ _ (Ae e nD) (k5 _ _ (Ae e nN) e4)
      .rw[tn']
       refine kp.step cl ok tlt hw nd hw2 (AFN so hw) (λk hk=>?_) (λk hk ht=>?_)
       .unfold plOf
        rw[uC (λz=>by
         obtain⟨z1,z2⟩:=JH.mp z;rcases hk with hk| hk
         .exact hk z1
         .exact hk z2)]
       .refine⟨placeOf rows pl (ae++new) k,by unfold plOf;rw[uD (JH.mpr ⟨hk,ht⟩)],?_⟩
        unfold placeOf;cases g:numOf 2 (ae++new) (rowIn rows pl k) with
        | some m =>
         obtain⟨j,h1,h2⟩:=Mz _ _ _ _ g;exact .inl ⟨j,h1,by show m=j+2;lia⟩
        | none=>exact .inr ⟨Mt _ _ _ g,rfl⟩
      .rw[CL,AZ]
       by_cases c:t1=t
       .rw[Mn.mpr λr hr z=>by
         have:=kp.base.ge r hr;have:=uG z;lia]
        have:=Do (λr:Row=>decide (r.1=t1)) new;simp only[J2];lia
       .rw[Mn (l:=new)|>.mpr λr hr z=>by
         obtain⟨k,_,h5,h2,_⟩:=hw r hr;have:=uG z;rw[h2] at this;have e:(rowIn rows pl k).1=tieOf rows k:=rfl;lia]
        exact cn t1
 .rintro σ H2 ⟨ae,af,pl,o6,o7,o8,o9,rfl,sm,qq,eN2,ke,pd,kp,nl,kl,cn⟩
  have e0:n-((n:Int)-1 - -1).toNat=0:=by lia
  rw[e0] at kp;have ht:∃p:Nat,pl top=uA p:=by
   rcases tr with h| h
   .have:top=0\/top=1:=wf h
    rcases this with rfl| rfl
    .exact⟨0,kp.base.z⟩
    .exact⟨1,kp.base.o⟩
   .obtain⟨p,hp,_⟩:=kp.base.has top h (AY _)
    exact⟨p,hp⟩
  obtain⟨hd,ehd⟩:=ht;refine⟨_,rfl,_,rfl,N,_,rfl,eN2,λA0 ys hA kL=>?_⟩;have sA:=u8 hA (.lst ys);refine⟨_,rfl,_,rfl,D,.int hd,rfl,?_,?_⟩
  .have:=DGet.k (k:=.inl (top:Int)) (sA _ _ ke)
   rw[pd top,ehd] at this;exact this
  .intro x dx hx hdx ne
   have hx2:(upd (upd H2 A0 (.lst ys)) dx (.own x)) x=uB:=by rw[Af (Cb ne)];exact hx
   have s4:=(u8 hdx (.own x)).trans (u8 hx2 (.ins C dx []));refine⟨x,dx,A0,n,hd,ys,ae,rfl,Ab,s4.seq (uy Ab),u7 (λa b r=>Cu _ _ _ _ s4.ts (Cu _ _ _ _ sA.ts r)) (ZQ kL),λH' hs sv=>⟨rfl,q x ae hd H' (λb o e=>?_) sv (kp.canon cl ok tr ehd par).1 (kp.canon cl ok tr ehd par).2 ⟨by lia,ABG kp cl,cn⟩⟩⟩;have e1:=s4 _ _ (sA _ _ (sm b o e));refine hs b o e1 λz=>?_;rw[z] at e;have:=sA _ _ (sm _ o e);rw[hx] at this;cases this
theorem tsX(e:∀b o,b≠R->H b=uA o->H' b=uA o)(hR:H R=uA (.lst xs)):TSm H H':=λb u hb t=>e b u (λz=>by
 subst z;rw[hR] at hb;cases hb;obtain⟨ys,e| ⟨o,e⟩⟩:=t
 .cases e
 .cases e) hb
theorem take_snoc{l:List α}{x:α}(h:l[i]?=uA x):l.take (i+1)=l.take i++[x]:=by rw[Ex,h];rfl
theorem DK:∀ns:uI,(ns.map V.int).all flatV=true
 | []=>rfl
 | _::r=>DK r
theorem ZM(z:Int)(j:Addr)(h:Int){m:Str}(h1:¬ m = "head")(h2:¬ m = "rows")(h3:¬ m = "amount"):(flds z j h).lookup m=uB:=by
 unfold flds;rw[Aj,uC h1,Aj,uC h2,Aj,uC h3]
 all_goals rfl
theorem ABM(hK:X.K=K):OpR X (G1 .Add) (rAddT K):=by subst hK;exact Yl
theorem AEP{rows:List Row}(o:Ok n rows)(j:Nat):Ok n (rows.take j):=λi q e=>by
 have il:=(AH.mp e).1;have ij:i<j:=by rw[B0] at il;exact v9 il
 obtain⟨h1,h2,h3⟩:=o i q (by rw[G3 ij] at e;exact e);have low:∀l,Low rows q.1 (i+2) l->Low (rows.take j) q.1 (i+2) l:=λl ⟨a,b⟩=>⟨a,b.imp id λ⟨u,e,z⟩=>⟨u,by rw[G3 (by lia)];exact e,z⟩⟩;exact⟨h1,low _ h2,low _ h3⟩
theorem Qt{rows:List Row}{k:Nat}(I:InOrder n rows k L):L.length<=2 ^ n:=by
 have h:(L.map (num n)).Pairwise (· < ·):=by rw[CY];exact I.ord
 have z:=ST.CJ (l₁:=L.map (num n)) (l₂:=AW (2 ^ n)) (h.imp λ{a b} h=>BU h) λx hx=>by
  obtain⟨s,hs,rfl⟩:=A1.mp hx;obtain⟨w1,w2⟩:=I.way s hs;have:=Vk (n:=n) (t:=0) w1 λx hx=>⟨AY _,(w2 x hx).2⟩;exact A8.mpr this
 rw[AB,CB] at z;exact z
theorem KR{s:uL}(h:s.Pairwise (· < ·))(hs:∀x∈s,x<n):s.length<=n:=by
 have z:=ST.CJ (l₁:=s) (l₂:=AW n) (h.imp λ{a b} h=>BU h) λx hx=>A8.mpr (hs x hx);rw[CB] at z;exact z
theorem pow12(h:n<=12):2 ^ n<=4096:=IL (by decide) h
def rTies(K:Ap)(H:Hp)(s:uL)(v:V):Prop:=∃p,v=.ref p/\H p=uA (.tup ((up s).map V.int))
theorem Ht(t:TSm H H')(h:BI (rTies K H) ss ys):BI (rTies K H') ss ys:=u7 (by rintro _ _ ⟨p,e,hp⟩;exact⟨p,e,t p _ hp ⟨_,.inl rfl⟩⟩) h
def rSets(K:Ap)(H0:Hp)(S:Addr)(H:Hp)(ss:List uL)(v:V):Prop:=∃p ys,v=.ref p/\H0 p=uB/\p≠S/\H p=uA (.lst ys)/\BI (rTies K H) ss ys
theorem Ov{H0:Hp}(e:∀b o,b≠S->H b=uA o->H' b=uA o)(hS:H S=uA (.lst xs))(h:rSets K H0 S H ss v):rSets K H0 S H' ss v:=by
 obtain⟨p,ys,rfl,h0,ne,hp,pr⟩:=h;exact⟨p,ys,rfl,h0,ne,e _ _ ne hp,Ht (tsX e hS) pr⟩
def WQ(K:Ap)(C:Addr):Sp:=λvs H Q _=>∃(p:Addr) (n hd:Nat) (rows:List Row),vs=[.ref p]/\SvAt K C H p n rows hd/\Ok n rows/\Knot rows hd/\n<=12/\rows.length<=4000 /\
 ∀(L:Addr) (ys:List V) (H':Hp),Same H H'->H L=none->H' L=uA (.lst ys)->BI (rTies K H') (setsOf rows hd) ys->Q (.ref L) H'
theorem Wv:FnScope ["sieve","sets","row"] ["sieve"] (Ah YG):=fscp (by decide+kernel)
theorem AFa(F:Fun K "sets_of" "sets_of" YG f fd)(T:Txt K mg C)
  (GK:FnOk P w K mg base CX0 1 fK oo zl3 (Qp K C)) (bK:Binds K oo zl3 []) (mK:Meth K C "knots" fK)
  (GT:FnOk P w K mg base CX0 1 fT cE zl3 (ADR K C)) (bT:Binds K cE zl3 []) (mT:Meth K C "top" fT) :
  FnOk P w K mg base CX0 2 f fd ["sieve"] (WQ K C):=by
 refine F.ok Wv (λvs H Q E h=>?_) (λa7 A outer s H vs Q E hr h=>?_)
 .obtain⟨p,n,hd,rows,rfl,_⟩:=h
  rfl
 obtain⟨p,n,hd,rows,rfl,hV,ok,kn,n12,r9,q⟩:=h;have bm:Room 1 _:=hr.mono (by decide);refine⟨_,Ad (Ak (i:=1) Wv.nd (Bm (Aa (Bm Ac) (Aa (Bm (Aa (Cq Ac) Ac)) Ac))))
  (Ad (DW C5 rfl (Bt (CW (pv 0) T.cl mK GK bm bK .nil pass0)) (BX (i:=2) Wv.nd)
   (Ai (Cw (Hf C2 D7 D8 DP (pv 1) (Aa (Az Ys (Av BL (pv 1) (Av BW (pv 2) Ag))
    (Bq (Ah YG) ["some"] ["row"] [2] rfl rfl (by decide+kernel) ⟨⟨rfl,by decide+kernel⟩,trivial⟩ (Bt (Av BL (pv 1) (Av BW (pv 2) Ag)))
     (λ_ _ _=>BK (i:=0)) (λ_ _ _=>DY)
     (λ_ _ _=>Az (ABM (K:=K) rfl) (Cq (Aa (Av (YC (K:=K) rfl) (pv 1) Ag) Ac)) (pv 0)))) Ac)))))
  (Ai (Ao (Av BL (pv 1) (CW (pv 0) T.cl mT GT bm bT .nil pass0))))),?_⟩
 obtain⟨dx,jj,hp,_⟩:=id hV;refine⟨AY _,λL0 ky=>⟨AY _,λT0 hT0=>⟨(by show 1<=sizeLine;decide),λL1 hL1=>⟨(by show 2<=sizeLine;decide),λS hS=>?_⟩⟩⟩⟩;have sA:=u8 ky (.lst []);have sB:=u8 hT0 (.tup []);have sC:=u8 hL1 (.lst [.ref T0]);have sD:=u8 hS (.lst [.ref L0,.ref L1]);have s0:=sA.trans (sB.trans (sC.trans sD));have hSn:H S=uB:=by
  rcases h:H S with _| o
  .rfl
  .rw[(sA.trans (sB.trans sC)) _ _ h] at hS
   cases hS
 have n1:H L1=uB:=by
  rcases h:H L1 with _| o
  .rfl
  .rw[(sA.trans sB) _ _ h] at hL1
   cases hL1
 have e0:=(sB.trans (sC.trans sD)) _ _ (Ab (H:=H) (a:=L0) (o:=.lst []));have eT:=(sC.trans sD) _ _ (Ab (H:=upd H L0 (.lst [])) (a:=T0) (o:=.tup []));have e1:=sD _ _ (Ab (H:=upd (upd H L0 (.lst [])) T0 (.tup [])) (a:=L1) (o:=.lst [.ref T0]));have eS:(upd (upd (upd (upd H L0 (.lst [])) T0 (.tup [])) L1 (.lst [.ref T0])) S (.lst [.ref L0,.ref L1])) S=uA (.lst [.ref L0,.ref L1]):=Ab;have neS0:=Ae ((sB.trans sC) _ _ (Ab (H:=H) (a:=L0) (o:=.lst []))) hS;have neS1:=Ae (Ab (H:=upd (upd H L0 (.lst [])) T0 (.tup [])) (a:=L1) (o:=.lst [.ref T0])) hS;generalize upd (upd (upd (upd H L0 (.lst [])) T0 (.tup [])) L1 (.lst [.ref T0])) S (.lst [.ref L0,.ref L1])=H1 at s0 e0 eT e1 eS;refine⟨_,rfl,p,dx,_,rfl,s0 _ _ hp,rfl,p,n,hd,rows,rfl,hV.same s0,λl ys H2 s2 hl el px=>?_⟩;have lS:l≠S:=λe=>by
  rw[e,eS] at hl;cases hl
 have lx:=AV px;refine⟨l,rfl,⟨_,uy el⟩,?_⟩;refine Eh (K:=K) (a:=l) (xs:=ys) (λi σ H3=>∃(o:Option V) (xs:List V),σ=[uA (.ref p),uA (.ref S),o]/\(∀b u,b≠S->H2 b=uA u->H3 b=uA u)/\H3 S=uA (.lst xs)/\BI (rSets K H S H3) (setsUp (rows.take i)) xs)
  ⟨uB,_,rfl,λb u _ e=>e,s2 _ _ eS,?_⟩ (by rintro i σ H3 _ ⟨_,_,_,sm,_,_⟩;exact uy (sm _ _ lS el)) ?_ ?_
 .exact .cons ⟨L0,[],rfl,ky,neS0,s2 _ _ e0,.nil⟩ (.cons ⟨L1,[.ref T0],rfl,n1,neS1,s2 _ _ e1,u5 ⟨T0,rfl,s2 _ _ eT⟩⟩ .nil)
 .rintro i x σ H3 hx ⟨o,xs,rfl,sm,eS3,pS⟩
  have il:i<rows.length:=by rw[lx];exact(AH.mp hx).1
  obtain⟨r,hr',b,rfl,hb⟩:=Paired.get px hx;have rh:=(tsX sm (s2 _ _ eS)).seq hb;have okt:=AEP ok i;have lt:(rows.take i).length=i:=by rw[B0];exact x5 il
  obtain⟨t1,lo1,lo2⟩:=ok i r hr';have kno:Knot (rows.take i) r.2.1:=by
   have:=lo1.1;show r.2.1<_;rw[lt];exact this
  have kni:Knot (rows.take i) r.2.2:=by
   have:=lo2.1;show r.2.2<_;rw[lt];exact this
  have IO:=HN _ _ rfl okt _ kno;have II:=HN _ _ rfl okt _ kni;have lO:=Qt IO;have lI:=Qt II;have p12:=pow12 n12;have lxs:=AV pS;rw[Dq,lt] at lxs;have at_:∀k,Knot (rows.take i) k->∃v,xs[k]?=uA v/\rSets K H S H3 (setsOf (rows.take i) k) v:=λk hk=>by
   have kl:k<(setsUp (rows.take i)).length:=by rw[Dq];exact hk
   obtain⟨v,h1,h2⟩:=uw pS (AI kl);refine⟨v,h1,?_⟩;unfold setsOf;rw[AD,AI kl];exact h2
  obtain⟨_,hvo,Lo,yo,rfl,o0,oS,eo,po⟩:=at_ _ kno;obtain⟨_,sN,Li,yi,rfl,i0,iS,ei,pi_⟩:=at_ _ kni;have lyo:=AV po;have lyi:=AV pi_;refine⟨_,rfl,.inl ⟨rfl,_,uy eS3⟩,_,rfl,_,rfl,b,_,_,_,rfl,rfl,rh,at1,S,_,_,_,rfl,rfl,uy eS3,Bg hvo,?_⟩;refine⟨_,rfl,_,rfl,b,_,_,_,rfl,rfl,rh,at2,S,_,_,_,rfl,rfl,uy eS3,Bg sN,Li,rfl,⟨_,uy ei⟩,λD hD=>?_⟩;refine Bu (K:=K) (a:=Li) (xs:=yi) (λj τ H4=>∃(o:Option V) (zs:List V),τ=[o,uA (.ref b)]/\Same H3 H4/\H4 D=uA (.lst zs)/\BI (rTies K H4) (((setsOf (rows.take i) r.2.2).take j).map (r.1::·)) zs) ⟨uB,[],rfl,u8 hD _,Ab,.nil⟩ (by rintro j τ H4 _ ⟨_,_,_,s3,_⟩;exact s3.seq (uy ei)) ?_ ?_
  .rintro j y τ H4 hy ⟨o,zs,rfl,s4,eD,pz⟩
   obtain⟨u,hu,ru⟩:=Paired.get pi_ hy;have jl:=(AH.mp hu).1;obtain⟨w1,w2⟩:=II.way u (AX hu);have ul:=KR w1 λx hx=>(w2 x hx).2;obtain⟨c,rfl,hc0⟩:=ru;have hc:SqT K H4 c ((up u).map V.int):=uz (s4 _ _ hc0);have hb4:=s4.ts.seq rh;have lz:=AV pz;rw[AB,B0] at lz;refine⟨_,rfl,b,_,_,_,rfl,rfl,hb4,at0,(by show 1<=sizeLine;decide),λT1 eJ=>?_⟩;have s5:=u8 eJ (.tup [.int (r.1:Int)]);have hc5:=s5.ts.seq hc;have eT1:(upd H4 T1 (.tup [.int (r.1:Int)])) T1=uA (.tup [.int (r.1:Int)]):=Ab;have fin:∀(c2:Addr) (H6:Hp),Same H4 H6->H6 c2=uA (.tup ((up (r.1::u)).map V.int))->∃ys,H6 D=uA (.lst ys)/\ys.length<sizeLine/\∃(o:Option V) (zs:List V),[uA (V.ref c),uA (V.ref b)]=[o,uA (V.ref b)]/\Same H3 (upd H6 D (.lst (ys++[.ref c2])))/\(upd H6 D (.lst (ys++[.ref c2]))) D=uA (.lst zs)/\BI (rTies K (upd H6 D (.lst (ys++[.ref c2])))) (((setsOf (rows.take i) r.2.2).take (j+1)).map (r.1::·)) zs:=λc2 H6 s6 h6=>by
    have ls:=s6 _ _ eD;have tl:=u6 (o:=.lst (zs++[.ref c2])) ls;refine⟨zs,ls,EB (show zs.length<=4096 by lia) (by decide),_,_,rfl,λb' o' e'=>?_,Ab,?_⟩
    .rw[Af (Ae e' hD)]
     exact s6 _ _ (s4 b' o' e')
    .rw[take_snoc hu,BM]
     exact u4 (Ht tl (Ht s6.ts pz)) (u5 (⟨c2,rfl,tl _ _ h6 ⟨_,.inl rfl⟩⟩))
   refine⟨_,rfl,T1,c,_,_,rfl,rfl,uz eT1,hc5,BY (show _<=100000 by rw[AB];unfold up;rw[AB];show 1+_<=100000;lia) (by decide),λz=>(by cases z),λ_ z=>?_,λ_ z T2 rB=>?_⟩
   .have u0:u=[]:=by
     cases u with
     | nil=>rfl
     | cons a t=>cases z
    subst u0;exact fin T1 _ s5 eT1
   .exact fin T2 _ (s5.trans (u8 rB _)) Ab
  .rintro τ H4 ⟨o,zs,rfl,s4,eD,pz⟩
   have lz:=AV pz;rw[<- lyi,CM] at pz lz;rw[AB] at lz;refine⟨Lo,D,_,_,rfl,rfl,uy (s4 _ _ eo),uy eD,BY (show _<=8192 by lia) (by decide),λN hN=>?_⟩;have s5:=u8 hN (.lst (yo++zs));have s6:=s4.trans s5;have qO:=s6 _ _ eS3;have neN:N≠S:=λe=>by
    rw[e,s4 _ _ eS3] at hN;cases hN
   have hN0:H N=uB:=by
    rcases h:H N with _| u
    .rfl
    .have h2:=s2 _ _ (s0 _ _ h)
     rw[s4 _ _ (sm _ _ neN h2)] at hN;cases hN
   refine⟨S,xs,_,rfl,rfl,qO,EB (show xs.length<=100000 by lia) (by decide),?_⟩;have k7:∀b u,b≠S->upd H4 N (.lst (yo++zs)) b=uA u->upd (upd H4 N (.lst (yo++zs))) S (.lst (xs++[.ref N])) b=uA u:=λb u ne e=>by rw[Af ne];exact e
   refine⟨_,_,rfl,λb u ne e=>k7 _ _ ne (s6 _ _ (sm b u ne e)),Ab,?_⟩;rw[take_snoc hr',Gi];unfold addRow;refine u4 (u7 (λa v h=>Ov k7 qO (Ov (λb u _ e=>s6 b u e) eS3 h)) pS) (u5 ⟨N,_,rfl,hN0,neN,k7 _ _ neN Ab,?_⟩);have t7:=tsX k7 qO;exact Ht t7 (Ht s5.ts (u4 (Ht s4.ts po) pz))
 .rintro σ H3 ⟨o,xs,rfl,sm,eS3,pS⟩
  have tr:rows.take ys.length=rows:=by rw[<- lx,CM]
  rw[tr] at pS;have hV3:SvAt K C H3 p n rows hd:=by
   refine SvAt.same hV λb u e=>sm b u (Ae e hSn) (s2 _ _ (s0 b u e))
  have sH:Same H H3:=λb u e=>sm b u (Ae e hSn) (s2 _ _ (s0 b u e));refine⟨_,rfl,_,rfl,p,dx,_,rfl,sH _ _ hp,rfl,p,n,hd,rows,rfl,hV3,?_⟩;have kl:hd<(setsUp rows).length:=by rw[Dq];exact kn
  obtain⟨v,h1,L,zs,rfl,L0',LS,eL,pL⟩:=uw pS (AI kl);refine⟨S,_,_,_,rfl,rfl,uy eS3,Bg h1,q L zs H3 sH L0' eL ?_⟩;unfold setsOf;rw[AD,AI kl];exact pL
end K32s
namespace G
abbrev Fs:=Nat->uX
def SymF(f:Fs):Prop:=∀x y,f x=uA y->f y=uA x
def stayF(f:Fs)(p:Nat):Prop:=f p=uB\/f p=uA p
noncomputable def tieF(f:Fs)(a b i j:Nat):Fs:=λx=>if x=j then uA i else if x=i then uA j else if x=a\/x=b then uB else f x
def acc(z:Nat):Fs->List (Nat×Nat)->Prop
 | _,[]=>False
 | f,e::E=>∃i j,f e.1=uA i/\f e.2=uA j/\((i=e.2/\E=[]/\∀p,p<z->p≠e.1->p≠e.2->stayF f p)\/(i≠e.2/\acc z (tieF f e.1 e.2 i j) E))
section
variable{f:Fs}{a b c d k l:Nat}
theorem SymF.tie(h:SymF f)(ha:f a=uA i)(hb:f b=uA j)(ab:a≠b)(ib:i≠b):SymF (tieF f a b i j):=by
 intro x y e;have h1:=h _ _ ha;have h2:=h _ _ hb;have h3:=h x y;unfold tieF at *
 grind (splits:=60)
theorem Rr(h:SymF f)(ha:f a=uA i)(hb:f b=uA j)(ab:a≠b)(ib:i≠b)(hc:tieF f a b i j c=uA k):∃k',f c=uA k':=by
 have h1:=h _ _ ha;have h2:=h _ _ hb;unfold tieF at hc
 grind (splits:=60)
theorem ABy(h:SymF f)(ha:f a=uA i)(hb:f b=uA j)(hc:f c=uA k)(hd:f d=uA l)(ab:a≠b)(cd:c≠d)(ib:i≠b)(kd:k≠d){j':Nat}
  (h1:tieF f a b i j c=uA k') (h2:tieF f a b i j d=uA l') (h3:tieF f c d k l a=uA i') (h4:tieF f c d k l b=uA j') :
  (k'=d↔i'=b)/\(k'≠d->tieF (tieF f a b i j) c d k' l'=tieF (tieF f c d k l) a b i' j'):=by
 have e1:=h _ _ ha;have e2:=h _ _ hb;have e3:=h _ _ hc;have e4:=h _ _ hd;constructor
 .unfold tieF at *
  grind (splits:=60)
 .intro n
  funext x
  unfold tieF at *
  grind (splits:=60)
theorem ACZ(h:SymF f)(ha:f a=uA i)(hb:f b=uA j)(hc:f c=uA k)(hd:f d=uA l)(ab:a≠b)(cd:c≠d)(ib:i≠b)(kd:k≠d)
  (h1:tieF f a b i j c=uA k') (h2:tieF f a b i j d=uA l'):∃i' j',tieF f c d k l a=uA i'/\tieF f c d k l b=uA j':=by
 have e1:=h _ _ ha;have e2:=h _ _ hb;have e3:=h _ _ hc;have e4:=h _ _ hd;unfold tieF at *
 grind (splits:=60)
theorem ABZ(h:SymF f)(ha:f a=uA i)(hb:f b=uA j)(hc:f c=uA d)(ab:a≠b)(cd:c≠d)(ib:i≠b)
  (h1:tieF f a b i j c=uA k') (h2:tieF f a b i j d=uA l'):k'=d/\i≠c/\i≠d/\¬ stayF (tieF f a b i j) i:=by
 have e1:=h _ _ ha;have e2:=h _ _ hb;have e3:=h _ _ hc;unfold stayF tieF at *
 grind (splits:=60)
theorem ACa(h:SymF f)(ha:f a=uA i)(hb:f b=uA j)(hc:f c=uA k)(hd:f d=uA l)(ab:a≠b)(cd:c≠d)(ib:i≠b)(kd:k≠d)
  (h1:tieF f a b i j c=uA d) (h2:tieF f a b i j d=uA l') (h3:tieF f c d k l a=uA b) (h4:tieF f c d k l b=uA i') {p:Nat} (pa:p≠a) (pb:p≠b)
  (hs:p≠c->p≠d->stayF (tieF f a b i j) p):stayF (tieF f c d k l) p:=by
 have e1:=h _ _ ha;have e2:=h _ _ hb;have e3:=h _ _ hc;have e4:=h _ _ hd;unfold stayF tieF at *
 grind (splits:=60)
def RngF(z:Nat)(f:Fs):Prop:=∀x y,f x=uA y->x<z
theorem RngF.tie(r:RngF z f)(h:SymF f)(ha:f a=uA i)(hb:f b=uA j):RngF z (tieF f a b i j):=by
 intro x y e;have h1:=r _ _ (h _ _ ha);have h2:=r _ _ (h _ _ hb);have h3:=r x y;unfold tieF at *
 grind
theorem acc_swap(h:SymF f)(r:RngF z f)(ab:a≠b)(cd:c≠d){E:List (Nat×Nat)}:acc z f ((a,b)::(c,d)::E)->acc z f ((c,d)::(a,b)::E):=by
 rintro⟨i,j,ha,hb,⟨_,e,_⟩| ⟨ib,k',l',h1,h2,hh⟩⟩
 .cases e
 obtain⟨k,hc⟩:=Rr h ha hb ab ib h1;obtain⟨l,hd⟩:=Rr h ha hb ab ib h2;have kd:k≠d:=by
  intro e;subst e;obtain⟨e1,n1,n2,n3⟩:=ABZ h ha hb hc ab cd ib h1 h2;rcases hh with⟨_,_,hs⟩| ⟨ne,_⟩
  .exact n3 (hs i (r _ _ (h _ _ ha)) n1 n2)
  .exact ne e1
 obtain⟨i',j',h3,h4⟩:=ACZ h ha hb hc hd ab cd ib kd h1 h2;obtain⟨tN,eq1⟩:=ABy h ha hb hc hd ab cd ib kd h1 h2 h3 h4;refine⟨k,l,hc,hd,.inr ⟨kd,i',j',h3,h4,?_⟩⟩;rcases hh with⟨e,eE,hs⟩| ⟨ne,ac⟩
 .have e':=tN.mp e
  refine .inl ⟨e',eE,λp pz pa pb=>?_⟩;rw[show k'=d from e] at h1;rw[show i'=b from e'] at h3;exact ACa h ha hb hc hd ab cd ib kd h1 h2 h3 h4 pa pb λpc pd=>hs p pz pc pd
 .refine .inr ⟨λe=>ne (tN.mpr e),?_⟩
  rw[<- eq1 ne];exact ac
theorem Fp{E:List (Nat×Nat)}(p:E.Perm E'):∀{f:Fs},SymF f->RngF z f->(∀e∈E,e.1≠e.2)->acc z f E->acc z f E':=by
 induction p with
 | nil=>intro f _ _ _ h;exact h
 | cons x p ih =>
  rintro f h r ne ⟨i,j,ha,hb,⟨e1,e2,hs⟩| ⟨n1,ac⟩⟩
  .refine⟨i,j,ha,hb,.inl ⟨e1,?_,hs⟩⟩
   subst e2;exact List.nil_perm.mp p
  .have nx:=ne x (AG ..)
   exact⟨i,j,ha,hb,.inr ⟨n1,ih (h.tie ha hb nx n1) (r.tie h ha hb) (λe he=>ne e (AK _ he)) ac⟩⟩
 | swap x y l =>
  intro f h r ne;exact acc_swap h r (ne y (AG ..)) (ne x (AK _ (AG ..)))
 | trans p q rF sR =>
  intro f h r ne ac;exact sR h r (λe he=>ne e (p.mem_iff.mpr he)) (rF h r ne ac)
theorem Fy(h:SymF f)(ab:a≠b){E:List (Nat×Nat)}(ac:acc z f ((a,b)::E)):acc z f ((b,a)::E):=by
 obtain⟨i,j,ha,hb,⟨e1,e2,hs⟩| ⟨n1,ac⟩⟩:=ac
 .have e:j=a:=by
   have:=h _ _ ha;rw[show i=b from e1,hb] at this;exact AN this
  exact⟨j,i,hb,ha,.inl ⟨e,e2,λp pz pa pb=>hs p pz pb pa⟩⟩
 .refine⟨j,i,hb,ha,.inr ⟨λe=>n1 ?_,?_⟩⟩
  .have:=h _ _ hb
   rw[show j=a from e,ha] at this;exact AN this
  .have e:tieF f b a j i=tieF f a b i j:=by
    have e1:=h _ _ ha;have e2:=h _ _ hb
    funext x
    unfold tieF
    grind (splits:=60)
   rw[e];exact ac
theorem acc_open:∀{E:List (Nat×Nat)}{f:Fs},SymF f->RngF z f->(∀e∈E,e.1≠e.2)->∀{p:Nat},(∀e∈E,e.1≠p/\e.2≠p)->¬ stayF f p->¬ acc z f E
 | [],_,_,_,_,_,_,_=>id
 | e::E,f,h,r,ne,p,np,op=>by
  rintro⟨i,j,ha,hb,⟨e1,e2,hs⟩| ⟨n1,ac⟩⟩
  .obtain⟨n1,n2⟩:=np e (AG ..)
   have pz:p<z:=by
    unfold stayF at op;cases hp:f p with
    | none=>exact uH (.inl hp) op
    | some q=>exact r _ _ hp
   exact op (hs p pz (Cb n1) (Cb n2))
  .have nx:=ne e (AG ..)
   obtain⟨n3,n4⟩:=np e (AG ..);refine acc_open (h.tie ha hb nx n1) (r.tie h ha hb) (λx hx=>ne x (AK _ hx)) (λx hx=>np x (AK _ hx)) ?_ ac;have e1:=h _ _ ha;have e2:=h _ _ hb;unfold stayF tieF at *
   grind (splits:=60)
end
noncomputable def oI(o:uX):Option Int:=o.map λn=>(n:Int)
section
variable{P:Nat->Prop}{st:StO}{f:Fs}
theorem getD4{st:StO}{a b x:Nat}{v w:Option Int}(ha:a<st.length)(hb:b<st.length)(hi:i<st.length)(hj:j<st.length):((((st.set a uB).set b uB).set i v).set j w).getD x uB=if x=j then w else if x=i then v else if x=a\/x=b then uB else st.getD x uB:=by
 by_cases c1:x=j
 .rw[uD c1,c1,Du,uD (by simp only[ET];exact hj)]
 rw[uC c1,Dt _ _ _ _ c1];by_cases c2:x=i
 .rw[uD c2,c2,Du,uD (by simp only[ET];exact hi)]
 rw[uC c2,Dt _ _ _ _ c2];by_cases c3:x=b
 .rw[uD (.inr c3),c3,Du]
  split<;>rfl
 rw[Dt _ _ _ _ c3];by_cases c4:x=a
 .rw[uD (.inl c4),c4,Du]
  split<;>rfl
 rw[Dt _ _ _ _ c4,uC λe=>e.elim c4 c3]
end
section
variable{ea eb L:Nat->Nat}
theorem above{t d x:Nat}{xs:uL}(pw:(x::xs).Pairwise (· < ·))(h:∀y∈x::xs,t<=y/\y<t+(d+1))(c:¬ x=t):∀y∈x::xs,t+1<=y/\y<t+1+d:=λy hy=>by
 have h1:=h x (AG ..);have h2:=h y hy;rcases BH.mp hy with e| e
 ·lia
 .have:=(Dx.mp pw).1 y e
  lia
end
noncomputable def degE(E:List (Nat×Nat))(p:Nat):Nat:=(E.filter λe=>decide (e.1=p\/e.2=p)).length
theorem Dj(e:Nat×Nat)(E:List (Nat×Nat))(p:Nat):degE (e::E) p=(if e.1=p\/e.2=p then 1 else 0)+degE E p:=by
 unfold degE;rw[HL];by_cases c:e.1=p\/e.2=p
 .rw[uD (uE c),uD c,C9];exact x6
 .rw[uC (by simpa using c),uC c];lia
theorem AAL{E:List (Nat×Nat)}(h:E.Perm E')(p:Nat):degE E p=degE E' p:=(h.filter _).length_eq
def DegOk(f:Fs)(E:List (Nat×Nat))(p:Nat):Prop:=(f p=none->degE E p=0)/\(f p=uA p->degE E p=0\/degE E p=2)/\∀q,f p=uA q->q≠p->degE E p=1
theorem Ho{z:Nat}:∀{E:List (Nat×Nat)}{f:Fs},SymF f->(∀e∈E,e.1≠e.2)->acc z f E->∀p,p<z->DegOk f E p
 | [],_,_,_,h,_,_=>h.elim
 | e::E,f,h,ne,⟨i,j,ha,hb,hh⟩,p,pz=>by
  have nx:=ne e (AG ..);have h1:=h _ _ ha;have h2:=h _ _ hb;unfold DegOk;rw[Dj];rcases hh with⟨e1,e2,hs⟩| ⟨n1,ac⟩
  .have d0:degE E p=0:=by rw[e2];rfl
   have st:=hs p pz;unfold stayF at st;rw[d0];refine⟨λhn=>?_,λhp=>?_,λq hq nq=>?_⟩
   .rw[uC]
    rintro(c| c)
    .rw[<- c,ha] at hn;cases hn
    .rw[<- c,hb] at hn;cases hn
   .left
    rw[uC];rintro(c| c)
    .rw[<- c,ha] at hp
     exact nx ((AN hp).symm.trans e1)
    .rw[<- c,hb] at hp
     have:j=e.2:=AN hp;rw[e1,hb,this] at h1;exact nx (AN h1).symm
   .rw[uD]
    apply CA;intro c;rcases st (λe=>c (.inl e.symm)) (λe=>c (.inr e.symm)) with s| s
    .rw[hq] at s;cases s
    .rw[hq] at s;exact nq (AN s)
  .obtain⟨d1,d2,d3⟩:=Ho (h.tie ha hb nx n1) (λx hx=>ne x (AK _ hx)) ac p pz
   have ji:j≠e.1:=λc=>n1 (by rw[c,ha] at h2;exact AN h2);have ij:i≠j:=λc=>nx (by rw[c,h2] at h1;exact(AN h1).symm);have ex:tieF f e.1 e.2 i j p=if p=j then uA i else if p=i then uA j else if p=e.1\/p=e.2 then uB else f p:=rfl
   have h3:=d3 i;have h4:=d3 j;unfold tieF at d1 d2 d3 h3 h4;refine⟨λhn=>?_,λhp=>?_,λq hq nq=>?_⟩<;>grind
theorem Qx{z h0:Nat}:∀{E:List (Nat×Nat)}{f g:Fs},SymF f->SymF g->(∀e∈E,e.1≠h0/\e.2≠h0/\e.1≠e.2)->(∀x,x≠h0->f x=g x)->stayF f h0->stayF g h0->acc z f E->acc z g E
 | [],_,_,_,_,_,_,_,_,h=>h.elim
 | e::E,f,g,sf,sg,ne,eq,tf,tg,⟨i,j,ha,hb,hh⟩=>by
  obtain⟨n1,n2,n3⟩:=ne e (AG ..);have h1:=sf _ _ ha;have h2:=sf _ _ hb;have ga:g e.1=uA i:=by rw[<- eq _ n1];exact ha
  have gb:g e.2=uA j:=by rw[<- eq _ n2];exact hb
  have ih:i≠h0:=λc=>by
   rw[c] at h1;rcases tf with t| t
   .rw[h1] at t;cases t
   .rw[h1] at t;exact n1 (AN t)
  have jh:j≠h0:=λc=>by
   rw[c] at h2;rcases tf with t| t
   .rw[h2] at t;cases t
   .rw[h2] at t;exact n2 (AN t)
  refine⟨i,j,ga,gb,?_⟩;rcases hh with⟨e1,e2,hs⟩| ⟨m1,ac⟩
  .refine .inl ⟨e1,e2,λp pz pa pb=>?_⟩
   by_cases c:p=h0
   .rw[c];exact tg
   .have:=hs p pz pa pb
    unfold stayF at this ⊢;rw[<- eq p c];exact this
  .refine .inr ⟨m1,Qx (sf.tie ha hb n3 m1) (sg.tie ga gb n3 m1) (λx hx=>ne x (AK _ hx)) (λx hx=>?_) ?_ ?_ ac⟩
   .unfold tieF
    rw[eq x hx]
   .unfold stayF tieF
    rw[uC (Cb jh),uC (Cb ih),uC (λc=>c.elim (λc=>n1 c.symm) (λc=>n2 c.symm))];exact tf
   .unfold stayF tieF
    rw[uC (Cb jh),uC (Cb ih),uC (λc=>c.elim (λc=>n1 c.symm) (λc=>n2 c.symm))];exact tg
def idZ(z:Nat):Fs:=λp=>if p<z then uA p else uB
theorem Bx{p:Nat}(h:p<z):idZ z p=uA p:=uD h
set_option tactic.hygienic true in
theorem ACb{p q:Nat}(h:idZ z p=uA q):p<z/\q=p:=by
 unfold idZ at h;split at h
 .rename_i c
  exact⟨c,(AN h).symm⟩
 .cases h
theorem idZ_sym(z:Nat):SymF (idZ z):=λx y h=>by
 obtain⟨h1,h2⟩:=ACb h;rw[h2];exact Bx h1
theorem Dw(z:Nat):RngF z (idZ z):=λx y h=>(ACb h).1
theorem Hq{f:Fs}{a b:Nat}(ha:f a=uA i)(hb:f b=uA j)(ib:i≠b){E:List (Nat×Nat)}:acc z f ((a,b)::E)↔acc z (tieF f a b i j) E:=by
 constructor
 .rintro⟨i',j',h1,h2,⟨e,_⟩| ⟨_,h⟩⟩
  .cases ha.symm.trans h1
   exact uH e ib
  .cases ha.symm.trans h1
   cases hb.symm.trans h2;exact h
 .exact λh=>⟨i,j,ha,hb,.inr ⟨ib,h⟩⟩
section
variable{h e x:Nat}
theorem Te(hz:h<z)(ez:e<z)(he:h≠e){E:List (Nat×Nat)}:acc z (idZ z) ((h,e)::(h,e)::E)↔E=[]:=by
 rw[Hq (Bx hz) (Bx ez) he];have f1:tieF (idZ z) h e h e h=uA e:=by unfold tieF;rw[uC he,uD rfl]
 have f2:tieF (idZ z) h e h e e=uA h:=by unfold tieF;rw[uD rfl]
 constructor
 .rintro⟨i,j,h1,h2,⟨_,e2,_⟩| ⟨n,_⟩⟩
  .exact e2
  .cases f1.symm.trans h1
   exact uH rfl n
 .intro e2
  refine⟨e,h,f1,f2,.inl ⟨rfl,e2,λp pz pa pb=>?_⟩⟩;unfold stayF tieF;rw[uC pb,uC pa,uC (λc=>c.elim pa pb),Bx pz];exact .inr rfl
theorem acc_step(hz:h<z)(ez:e<z)(xz:x<z)(he:h≠e)(hx:h≠x)(xe:x≠e){E:List (Nat×Nat)}(nr:∀r∈E,r.1≠h/\r.2≠h/\r.1≠r.2):acc z (idZ z) ((h,e)::(h,x)::E)↔acc z (idZ z) ((x,e)::E):=by
 rw[Hq (Bx hz) (Bx ez) he,Hq (Bx xz) (Bx ez) xe];have f1:tieF (idZ z) h e h e h=uA e:=by unfold tieF;rw[uC he,uD rfl]
 have f2:tieF (idZ z) h e h e x=uA x:=by unfold tieF;rw[uC xe,uC (Cb hx),uC (λc=>c.elim (Cb hx) xe),Bx xz]
 rw[Hq f1 f2 (Cb xe)];have s1:=(idZ_sym z).tie (Bx hz) (Bx ez) he he;have s2:=s1.tie f1 f2 hx (Cb xe);have s3:=(idZ_sym z).tie (Bx xz) (Bx ez) xe xe;have eq:∀p,p≠h->tieF (tieF (idZ z) h e h e) h x e x p=tieF (idZ z) x e x e p:=λp ph=>by
  unfold tieF
  grind
 have t1:stayF (tieF (tieF (idZ z) h e h e) h x e x) h:=by
  left;unfold tieF;rw[uC hx,uC he,uD (.inl rfl)]
 have t2:stayF (tieF (idZ z) x e x e) h:=by
  right;unfold tieF;rw[uC he,uC hx,uC (λc=>c.elim hx he),Bx hz]
 exact⟨Qx s2 s3 nr eq t1 t2,Qx s3 s2 nr (λp ph=>(eq p ph).symm) t2 t1⟩
end
noncomputable def wlk(ea eb:Nat->Nat)(e:Nat):Nat->Nat->uL->Bool
 | 0,h,left=>decide (h=e)&&decide (left=[])
 | n+1,h,left=>match left.filter λk=>decide (ea k=h\/eb k=h) with
  | [k]=>if h=e then false else wlk ea eb e n (ea k+eb k-h) (left.erase k)
  | _=>false
theorem Tq{z:Nat}{ea eb:Nat->Nat}{e:Nat}(ez:e<z):∀(n h:Nat) (left:uL),left.length=n->left.Nodup->(∀k∈left,ea k<z/\eb k<z/\ea k≠eb k)->h<z->(h≠e->(wlk ea eb e n h left=true↔acc z (idZ z) ((h,e)::left.map λk=>(ea k,eb k))))/\(h=e->(wlk ea eb e n h left=true↔left=[]))
 | 0,h,left,ln,nd,ok,hz=>by
  have l0:left=[]:=Cs.mp ln;subst l0;refine⟨λhe=>⟨λw=>?_,λa=>?_⟩,λhe=>⟨λ_=>rfl,λ_=>by unfold wlk;rw[uE he];rfl⟩⟩
  .unfold wlk at w
   rw[uF he] at w;cases w
  .exact((Hq (Bx hz) (Bx ez) he).mp a).elim
 | n+1,h,left,ln,nd,ok,hz=>by
  have lne:left≠[]:=λc=>by rw[c] at ln;cases ln
  constructor
  .intro he
   have ed:∀r∈(h,e)::left.map (λk=>(ea k,eb k)),r.1≠r.2:=λr hr=>by
    rcases BH.mp hr with rfl| hr
    .exact he
    .obtain⟨k,hk,rfl⟩:=A1.mp hr
     exact(ok k hk).2.2
   have cnt:(left.filter λk=>decide (ea k=h\/eb k=h)).length=degE (left.map λk=>(ea k,eb k)) h:=by
    unfold degE;rw[J6,AB];rfl
   have one:acc z (idZ z) ((h,e)::left.map λk=>(ea k,eb k))->(left.filter λk=>decide (ea k=h\/eb k=h)).length=1:=λa=>by
    obtain⟨_,d2,_⟩:=Ho (idZ_sym z) ed a h hz;have:=d2 (Bx hz);rw[Dj,uD (.inl rfl)] at this;lia
   unfold wlk;cases es:left.filter λk=>decide (ea k=h\/eb k=h) with
   | nil =>
    rw[es] at one;exact⟨λw=>(by cases w),λa=>(by have:=one a;cases this)⟩
   | cons k ks =>
    cases ks with
    | cons k2 ks =>
     rw[es] at one;exact⟨λw=>(by cases w),λa=>(by have:=one a;simp at this)⟩
    | nil =>
     show(if h=e then false else wlk ea eb e n (ea k+eb k-h) (left.erase k))=true↔_;rw[uC he];have hm:k∈left.filter λk=>decide (ea k=h\/eb k=h):=by rw[es];exact AG ..
     obtain⟨kl,kh⟩:=BQ.mp hm;have kh:=uG kh;obtain⟨az,bz,ab⟩:=ok k kl;have pm:(left.map λk=>(ea k,eb k)).Perm ((ea k,eb k)::(left.erase k).map λk=>(ea k,eb k)):=(IM kl).map _;have ar:∀u∈left.erase k,ea u≠h/\eb u≠h:=λu hu=>by
      have ul:=DA hu;have un:u≠k:=λc=>by rw[c] at hu;exact(List.Nodup.not_mem_erase nd) hu
      constructor
      .intro c
       have:u∈left.filter λk=>decide (ea k=h\/eb k=h):=BQ.mpr ⟨ul,uE (.inl c)⟩;rw[es] at this;exact un (BG.mp this)
      .intro c
       have:u∈left.filter λk=>decide (ea k=h\/eb k=h):=BQ.mpr ⟨ul,uE (.inr c)⟩;rw[es] at this;exact un (BG.mp this)
     have le:(left.erase k).length=n:=by rw[EN kl,ln];rfl
     have m3:∀u∈left.erase k,ea u<z/\eb u<z/\ea u≠eb u:=λu hu=>ok u (DA hu);have main:∀x,x<z->x≠h->((ea k,eb k)=(h,x)\/(ea k,eb k)=(x,h))->(wlk ea eb e n x (left.erase k)=true↔acc z (idZ z) ((h,e)::left.map λk=>(ea k,eb k))):=λx xz xh hk=>by
      have ih:=Tq ez n x (left.erase k) le (nd.erase k) m3 xz;have p1:((h,e)::left.map λk=>(ea k,eb k)).Perm ((ea k,eb k)::(h,e)::(left.erase k).map λk=>(ea k,eb k)):=(pm.cons _).trans (LV ..);have fl:acc z (idZ z) ((ea k,eb k)::(h,e)::(left.erase k).map λk=>(ea k,eb k))↔acc z (idZ z) ((h,x)::(h,e)::(left.erase k).map λk=>(ea k,eb k)):=by
       rcases hk with c| c
       .rw[c]
       .rw[c]
        exact⟨Fy (idZ_sym z) xh,Fy (idZ_sym z) (Cb xh)⟩
      have ed1:∀r∈(ea k,eb k)::(h,e)::(left.erase k).map (λk=>(ea k,eb k)),r.1≠r.2:=λr hr=>ed r (p1.mem_iff.mpr hr);have tot:acc z (idZ z) ((h,e)::left.map λk=>(ea k,eb k))↔acc z (idZ z) ((h,e)::(h,x)::(left.erase k).map λk=>(ea k,eb k)):=by
       refine(Iff.intro (Fp p1 (idZ_sym z) (Dw z) ed) (Fp p1.symm (idZ_sym z) (Dw z) ed1)).trans (fl.trans ?_);exact⟨acc_swap (idZ_sym z) (Dw z) (Cb xh) he,acc_swap (idZ_sym z) (Dw z) he (Cb xh)⟩
      rw[tot];by_cases xe:x=e
      .subst xe
       rw[ih.2 rfl,Te hz xz (Cb xh)];exact⟨λc=>by rw[c];rfl,λc=>DM.mp c⟩
      .rw[ih.1 xe]
       exact(acc_step hz ez xz he (Cb xh) xe λr hr=>by
        obtain⟨u,hu,rfl⟩:=A1.mp hr;exact⟨(ar u hu).1,(ar u hu).2,(m3 u hu).2.2⟩).symm
     rcases kh with c| c
     .have ex:ea k+eb k-h=eb k:=zB c
      rw[ex];exact main (eb k) bz (λd=>ab (c.trans d.symm)) (.inl (by rw[c]))
     .have ex:ea k+eb k-h=ea k:=zC c
      rw[ex];exact main (ea k) az (λd=>ab (d.trans c.symm)) (.inr (by rw[c]))
  .intro he
   refine⟨λw=>?_,λc=>uH c lne⟩;unfold wlk at w;split at w
   .rw[uD he] at w
    cases w
   .cases w
section
variable{ea eb:Nat->Nat}
abbrev edl(ea eb:Nat->Nat)(s:uL):List (Nat×Nat):=s.map λk=>(ea k,eb k)
def ConT(ea eb:Nat->Nat)(h:Nat)(s:uL):Prop:=∀S:Nat->Prop,S h->(∀k∈s,(S (ea k)↔S (eb k)))->∀k∈s,S (ea k)
structure WayD(z:Nat)(ea eb:Nat->Nat)(h e:Nat)(s:uL):Prop where
 dh:degE (edl ea eb s) h=1
 de:degE (edl ea eb s) e=1
 other:∀p,p<z->p≠h->p≠e->degE (edl ea eb s) p=0\/degE (edl ea eb s) p=2
theorem AEv{p:Nat}{s:uL}(h:degE (edl ea eb s) p≠0):∃k∈s,ea k=p\/eb k=p:=by
 unfold degE at h;obtain⟨r,hr⟩:=List.exists_mem_of_length_pos (Nat.pos_of_ne_zero h);obtain⟨h1,h2⟩:=BQ.mp hr;obtain⟨k,hk,rfl⟩:=A1.mp h1;exact⟨k,hk,uG h2⟩
theorem Td{p:Nat}{s:uL}(h:degE (edl ea eb s) p=0):∀k∈s,ea k≠p/\eb k≠p:=λk hk=>by
 unfold degE at h;have z:=Cs.mp h;have nm:(ea k,eb k)∉(edl ea eb s).filter λe=>decide (e.1=p\/e.2=p):=by rw[z];exact D5
 have hm:(ea k,eb k)∈edl ea eb s:=A1.mpr ⟨k,hk,rfl⟩;exact⟨λc=>nm (BQ.mpr ⟨hm,uE (.inl c)⟩),λc=>nm (BQ.mpr ⟨hm,uE (.inr c)⟩)⟩
theorem Ob{s:uL}{k:Nat}(hk:k∈s)(p:Nat):degE (edl ea eb s) p=(if ea k=p\/eb k=p then 1 else 0)+degE (edl ea eb (s.erase k)) p:=by
 rw[AAL ((IM hk).map (λk=>(ea k,eb k))) p];exact Dj ..
theorem AAm{h e k x:Nat}{s:uL}(hz:h<z)(ez:e<z)(he:h≠e)(ok:∀k∈s,ea k<z/\eb k<z/\ea k≠eb k)(hk:k∈s)(xh:x≠h)(ek:(ea k,eb k)=(h,x)\/(ea k,eb k)=(x,h)):acc z (idZ z) ((h,e)::edl ea eb s)↔acc z (idZ z) ((h,e)::(h,x)::edl ea eb (s.erase k)):=by
 have pm:(edl ea eb s).Perm ((ea k,eb k)::edl ea eb (s.erase k)):=(IM hk).map _;have ed:∀r∈(h,e)::edl ea eb s,r.1≠r.2:=λr hr=>by
  rcases BH.mp hr with rfl| hr
  .exact he
  .obtain⟨k,hk,rfl⟩:=A1.mp hr
   exact(ok k hk).2.2
 have p1:((h,e)::edl ea eb s).Perm ((ea k,eb k)::(h,e)::edl ea eb (s.erase k)):=(pm.cons _).trans (LV ..);have fl:acc z (idZ z) ((ea k,eb k)::(h,e)::edl ea eb (s.erase k))↔acc z (idZ z) ((h,x)::(h,e)::edl ea eb (s.erase k)):=by
  rcases ek with c| c
  .rw[c]
  .rw[c]
   exact⟨Fy (idZ_sym z) xh,Fy (idZ_sym z) (Cb xh)⟩
 have ed1:∀r∈(ea k,eb k)::(h,e)::edl ea eb (s.erase k),r.1≠r.2:=λr hr=>ed r (p1.mem_iff.mpr hr);refine(Iff.intro (Fp p1 (idZ_sym z) (Dw z) ed) (Fp p1.symm (idZ_sym z) (Dw z) ed1)).trans (fl.trans ?_);exact⟨acc_swap (idZ_sym z) (Dw z) (Cb xh) he,acc_swap (idZ_sym z) (Dw z) he (Cb xh)⟩
theorem Ye{e:Nat}(ez:e<z):∀(n h:Nat) (s:uL),s.length=n->s.Nodup->(∀k∈s,ea k<z/\eb k<z/\ea k≠eb k)->h<z->h≠e->(acc z (idZ z) ((h,e)::edl ea eb s)↔WayD z ea eb h e s/\ConT ea eb h s)
 | 0,h,s,ln,nd,ok,hz,he=>by
  have l0:s=[]:=Cs.mp ln;subst l0;exact⟨λa=>((Hq (Bx hz) (Bx ez) he).mp a).elim,λ⟨w,_⟩=>by have:=w.dh;cases this⟩
 | n+1,h,s,ln,nd,ok,hz,he=>by
  have ed:∀r∈(h,e)::edl ea eb s,r.1≠r.2:=λr hr=>by
   rcases BH.mp hr with rfl| hr
   .exact he
   .obtain⟨k,hk,rfl⟩:=A1.mp hr
    exact(ok k hk).2.2
  have deg:acc z (idZ z) ((h,e)::edl ea eb s)->WayD z ea eb h e s:=λa=>by
   have d:∀p,p<z->degE ((h,e)::edl ea eb s) p=0\/degE ((h,e)::edl ea eb s) p=2:=λp pz=>(Ho (idZ_sym z) ed a p pz).2.1 (Bx pz);refine⟨?_,?_,λp pz ph pe=>?_⟩
   .have:=d h hz;rw[Dj,uD (.inl rfl)] at this;exact zE this
   .have:=d e ez;rw[Dj,uD (.inr rfl)] at this;exact zE this
   .have:=d p pz;rw[Dj,uC (λc=>c.elim (λc=>ph c.symm) (λc=>pe c.symm))] at this;lia
  have main:WayD z ea eb h e s->(acc z (idZ z) ((h,e)::edl ea eb s)↔ConT ea eb h s):=λw=>by
   obtain⟨k,hk,kh⟩:=AEv (show degE (edl ea eb s) h≠0 by rw[w.dh];decide);obtain⟨az,bz,ab⟩:=ok k hk;obtain⟨x,xz,xh,ek⟩:∃x,x<z/\x≠h/\((ea k,eb k)=(h,x)\/(ea k,eb k)=(x,h)):=by
    rcases kh with c| c
    .exact⟨eb k,bz,λd=>ab (c.trans d.symm),.inl (by rw[c])⟩
    .exact⟨ea k,az,λd=>ab (d.trans c.symm),.inr (by rw[c])⟩
   have two:∀p,(ea k=p\/eb k=p)↔(p=h\/p=x):=λp=>by
    rcases ek with c| c
    .injection c with c1 c2;rw[c1,c2];exact⟨λd=>d.elim (λd=>.inl d.symm) (λd=>.inr d.symm),λd=>d.elim (λd=>.inl d.symm) (λd=>.inr d.symm)⟩
    .injection c with c1 c2;rw[c1,c2];exact⟨λd=>d.elim (λd=>.inr d.symm) (λd=>.inl d.symm),λd=>d.elim (λd=>.inr d.symm) (λd=>.inl d.symm)⟩
   have uj:∀p,degE (edl ea eb s) p=(if p=h\/p=x then 1 else 0)+degE (edl ea eb (s.erase k)) p:=λp=>by
    rw[Ob hk p];by_cases c:p=h\/p=x
    .rw[uD c,uD ((two p).mpr c)]
    .rw[uC c,uC λd=>c ((two p).mp d)]
   have m3:∀u∈s.erase k,ea u<z/\eb u<z/\ea u≠eb u:=λu hu=>ok u (DA hu);have le:(s.erase k).length=n:=by rw[EN hk,ln];rfl
   have dh0:degE (edl ea eb (s.erase k)) h=0:=by have:=uj h;rw[w.dh,uD (.inl rfl)] at this;exact zF this
   have nh:=Td dh0;have split:∀{u:Nat},u∈s->u=k\/u∈s.erase k:=λ{u} hu=>by
    by_cases c:u=k
    .exact .inl c
    .exact .inr ((G5 c).mpr hu)
   rw[AAm hz ez he ok hk xh ek];by_cases xe:x=e
   .subst xe
    rw[Te hz xz (Cb xh)];have de0:degE (edl ea eb (s.erase k)) x=0:=by have:=uj x;rw[w.de,uD (.inr rfl)] at this;exact zF this
    have nx:=Td de0;constructor
    .intro c S sh cl u hu
     have c':=DM.mp c;rcases split hu with rfl| hu
     .rcases ek with c| c
      .injection c with c1 _;rw[c1];exact sh
      .injection c with c1 c2
       exact(cl u hk).mpr (by rw[c2];exact sh)
     .rw[c'] at hu;cases hu
    .intro jb
     have all:=jb (λp=>p=h\/p=x) (.inl rfl) λu hu=>by
      rcases split hu with rfl| hu
      .exact⟨λ_=>(two _).mp (.inr rfl),λ_=>(two _).mp (.inl rfl)⟩
      .obtain⟨h1,h2⟩:=nh u hu
       obtain⟨h3,h4⟩:=nx u hu;exact⟨λd=>(d.elim h1 h3).elim,λd=>(d.elim h2 h4).elim⟩
     rw[DM];apply List.eq_nil_iff_forall_not_mem.mpr;intro u hu;exact(all u (DA hu)).elim (nh u hu).1 (nx u hu).1
   .have nr:∀r∈edl ea eb (s.erase k),r.1≠h/\r.2≠h/\r.1≠r.2:=λr hr=>by
     obtain⟨u,hu,rfl⟩:=A1.mp hr;exact⟨(nh u hu).1,(nh u hu).2,(m3 u hu).2.2⟩
    rw[acc_step hz ez xz he (Cb xh) xe nr,Ye ez n x (s.erase k) le (nd.erase k) m3 xz xe];have wd:WayD z ea eb x e (s.erase k):=by
     refine⟨?_,?_,λp pz px pe=>?_⟩
     .have h1:=uj x;rw[uD (.inr rfl)] at h1
      have:=w.other x xz xh xe;exact xu this h1
     .have h1:=uj e;rw[w.de,uC (λc=>c.elim (λc=>he c.symm) (λc=>xe c.symm))] at h1
      lia
     .by_cases ph:p=h
      .rw[ph];exact .inl dh0
      .have h1:=uj p;rw[uC (λc=>c.elim ph px)] at h1
       have:=w.other p pz ph pe;lia
    constructor
    .rintro⟨_,jb⟩ S sh cl u hu
     have sx:S x:=by
      rcases ek with c| c
      .injection c with c1 c2
       have:=(cl k hk).mp (by rw[c1];exact sh)
       rwa [c2] at this
      .injection c with c1 c2
       have:=(cl k hk).mpr (by rw[c2];exact sh)
       rwa [c1] at this
     rcases split hu with rfl| hu
     .rcases ek with c| c
      .injection c with c1 _;rw[c1];exact sh
      .injection c with c1 _;rw[c1];exact sx
     .exact jb S sx (λv hv=>cl v (DA hv)) u hu
    .intro jb
     refine⟨wd,λS sx cl u hu=>?_⟩;have:=jb (λp=>p=h\/S p) (.inl rfl) (λv hv=>by
      rcases split hv with rfl| hv
      .rcases ek with c| c
       .injection c with c1 c2;rw[c1,c2];exact⟨λ_=>.inr sx,λ_=>.inl rfl⟩
       .injection c with c1 c2;rw[c1,c2];exact⟨λ_=>.inl rfl,λ_=>.inr sx⟩
      .obtain⟨h1,h2⟩:=nh v hv
       exact⟨λd=>.inr ((cl v hv).mp (d.resolve_left h1)),λd=>.inr ((cl v hv).mpr (d.resolve_left h2))⟩) u (DA hu)
     exact this.resolve_left (nh u hu).1
  exact⟨λa=>⟨deg a,(main (deg a)).mp a⟩,by rintro⟨w,c⟩;exact(main w).mpr c⟩
end
def sumN(g:Nat->Nat):Nat->Nat
 | 0=>0
 | z+1=>sumN g z+g z
theorem LC{g h k:Nat->Nat}:∀{z:Nat},(∀p,p<z->k p=g p+h p)->sumN k z=sumN g z+sumN h z
 | 0,_=>rfl
 | z+1,e=>by
  unfold sumN;rw[LC λp hp=>e p (FI hp),e z (DI z)];lia
theorem Tj{a c:Nat}:∀{z:Nat},z<=a->sumN (λp=>if a=p then c else 0) z=0
 | 0,_=>rfl
 | z+1,h=>by
  unfold sumN;rw[Tj (vc h),uC (by lia)]
theorem Mi{a c:Nat}:∀{z:Nat},a<z->sumN (λp=>if a=p then c else 0) z=c
 | 0,h=>uH h (J0 _)
 | z+1,h=>by
  unfold sumN;by_cases e:a=z
  .rw[uD e,Tj (vk e),G0]
  .rw[uC e,Mi (vR h e),M4]
theorem QC:∀(z:Nat),sumN (λ_=>0) z=0
 | 0=>rfl
 | z+1=>QC z
theorem Uz{g:Nat->Nat}:∀{z:Nat},(∀p,p<z->g p=2)->sumN g z=2*z
 | 0,_=>rfl
 | z+1,h=>by
  unfold sumN;rw[Uz λp hp=>h p (FI hp),h z (DI z)];lia
theorem YZ{g:Nat->Nat}:∀{z:Nat},(∀p,p<z->g p<=2)->sumN g z<=2*z/\(sumN g z=2*z->∀p,p<z->g p=2)
 | 0,_=>⟨AF _,λ_ p hp=>uH hp (J0 _)⟩
 | z+1,h=>by
  have h1:=h z (DI z);obtain⟨i1,i2⟩:=YZ (z:=z) λp hp=>h p (FI hp);unfold sumN;refine⟨by lia,λe p hp=>?_⟩;by_cases c:p=z
  .subst c;lia
  .exact i2 (by lia) p (vR hp c)
open Classical in
theorem Qi{z:Nat}{S:Nat->Prop}:∀{E:List (Nat×Nat)},(∀e∈E,e.1<z/\e.2<z/\e.1≠e.2/\(S e.1↔S e.2))->sumN (λp=>if S p then degE E p else 0) z=2*(E.filter λe=>decide (S e.1)).length
 | [],_=>by
  show sumN (λp=>if S p then 0 else 0) z=0;rw[show(λp=>if S p then 0 else 0)=λ_=>0 from funext λp=>by split<;>rfl];exact QC z
 | e::E,h=>by
  obtain⟨az,bz,ab,cl⟩:=h e (AG ..);have ih:=Qi (E:=E) λr hr=>h r (AK _ hr);have s1:sumN (λp=>(if e.1=p then(if S e.1 then 1 else 0) else 0)+(if e.2=p then(if S e.1 then 1 else 0) else 0)) z=(if S e.1 then 1 else 0)+(if S e.1 then 1 else 0):=by
   rw[LC (g:=λp=>if e.1=p then(if S e.1 then 1 else 0) else 0) (h:=λp=>if e.2=p then(if S e.1 then 1 else 0) else 0) λp _=>rfl,Mi az,Mi bz]
  rw[LC (g:=λp=>(if e.1=p then(if S e.1 then 1 else 0) else 0)+(if e.2=p then(if S e.1 then 1 else 0) else 0)) (h:=λp=>if S p then degE E p else 0) λp _=>?_,s1,ih]
  .by_cases c:S e.1
   .rw[uD c,De (p:=λe:Nat×Nat=>decide (S e.1)) (uE c),C9]
    lia
   .rw[uC c,C3 (p:=λe:Nat×Nat=>decide (S e.1)) (by rw[decide_eq_true_iff];exact c)]
    lia
  .have dg:=Dj e E p
   by_cases c1:e.1=p
   .have c2:¬ e.2=p:=λc2=>ab (c1.trans c2.symm)
    rw[uD (.inl c1)] at dg;rw[uD c1,uC c2,c1,dg];by_cases c:S p
    .rw[uD c,uD c,uD c]
    .rw[uC c,uC c,uC c]
   .by_cases c2:e.2=p
    .rw[uD (.inr c2)] at dg
     rw[c2] at cl;rw[uC c1,uD c2,dg];by_cases c:S p
     .rw[uD c,uD (cl.mpr c),uD c]
     .rw[uC c,uC λd=>c (cl.mp d),uC c]
    .rw[uC λc=>c.elim c1 c2] at dg
     rw[uC c1,uC c2,dg];by_cases c:S p
     .rw[uD c,uD c]
     .rw[uC c,uC c]
section
variable{ea eb:Nat->Nat}{s:uL}
theorem Lg(ok:∀k∈s,ea k<z/\eb k<z/\ea k≠eb k):∀e∈edl ea eb s,e.1≠e.2:=λe he=>by
 obtain⟨k,hk,rfl⟩:=A1.mp he;exact(ok k hk).2.2
theorem AEW{h e:Nat}(hz:h<z)(he:h≠e)(ok:∀k∈s,ea k<z/\eb k<z/\ea k≠eb k)(w:WayD z ea eb h e s){S:Nat->Prop}(sh:S h)(cl:∀k∈s,(S (ea k)↔S (eb k))):S e:=by
 apply CA;intro ne;have sm:=Qi (S:=S) (E:=edl ea eb s) λe he=>by
  obtain⟨k,hk,rfl⟩:=A1.mp he;obtain⟨h1,h2,h3⟩:=ok k hk;exact⟨h1,h2,h3,cl k hk⟩
 have ev:∀y:Nat,y<=z->(sumN (λp=>@ite _ (S p) (FE _) (degE (edl ea eb s) p) 0) y)%2=if h<y then 1 else 0:=by
  intro y
  induction y with
  | zero=>intro _;rfl
  | succ y ih =>
   intro hy;have i:=ih (vc hy);show(sumN (λp=>@ite _ (S p) (FE _) (degE (edl ea eb s) p) 0) y+@ite _ (S y) (FE _) (degE (edl ea eb s) y) 0)%2=_;generalize sumN (λp=>@ite _ (S p) (FE _) (degE (edl ea eb s) p) 0) y=m at i ⊢;by_cases c:y=h
   .rw[c] at i ⊢
    rw[uC (EX h)] at i;rw[uD sh,w.dh,uD (DI h)];lia
   .have lt:(if h<y+1 then 1 else 0)=if h<y then 1 else 0:=by
     by_cases d:h<y
     .rw[uD d,uD (vb d)]
     .rw[uC d,uC (by lia)]
    rw[lt,<- i];by_cases sy:S y
    .rw[uD sy]
     have:=w.other y (wS hy) c (λd=>ne (d ▸ sy));lia
    .rw[uC sy,M4]
 have:=ev z (AF z);rw[uD hz,sm] at this;lia
theorem ABn(nd:s.Nodup)(ok:∀k∈s,ea k<z/\eb k<z/\ea k≠eb k)(hk:k0∈s):acc z (idZ z) (edl ea eb s)↔(∀p,p<z->degE (edl ea eb s) p=0\/degE (edl ea eb s) p=2)/\ConT ea eb (ea k0) s:=by
 obtain⟨hz,xz,hx⟩:=ok k0 hk;have pm:(edl ea eb s).Perm ((ea k0,eb k0)::edl ea eb (s.erase k0)):=(IM hk).map _;have m3:∀u∈s.erase k0,ea u<z/\eb u<z/\ea u≠eb u:=λu hu=>ok u (DA hu);have ed:=Lg ok;have ed':∀r∈(ea k0,eb k0)::edl ea eb (s.erase k0),r.1≠r.2:=λr hr=>ed r (pm.mem_iff.mpr hr);have a1:acc z (idZ z) (edl ea eb s)↔acc z (idZ z) ((ea k0,eb k0)::edl ea eb (s.erase k0)):=⟨Fp pm (idZ_sym z) (Dw z) ed,Fp pm.symm (idZ_sym z) (Dw z) ed'⟩;rw[a1,Ye xz _ (ea k0) (s.erase k0) rfl (nd.erase k0) m3 hz hx];have dg:=λp=>Ob (ea:=ea) (eb:=eb) hk p;have split:∀{u:Nat},u∈s->u=k0\/u∈s.erase k0:=λ{u} hu=>by
  by_cases c:u=k0
  .exact .inl c
  .exact .inr ((G5 c).mpr hu)
 constructor
 .rintro⟨w,jb⟩
  refine⟨λp pz=>?_,λS sh cl u hu=>?_⟩
  .have d:=dg p
   by_cases c1:ea k0=p
   .rw[uD (.inl c1),<- c1,w.dh] at d
    rw[<- c1];exact zy d
   .by_cases c2:eb k0=p
    .rw[uD (.inr c2),<- c2,w.de] at d
     rw[<- c2];exact zy d
    .rw[uC λc=>c.elim c1 c2,G0] at d
     rw[d];exact w.other p pz (Cb c1) (Cb c2)
  .rcases split hu with rfl| hu
   .exact sh
   .exact jb S sh (λv hv=>cl v (DA hv)) u hu
 .rintro⟨d2,jb⟩
  have w:WayD z ea eb (ea k0) (eb k0) (s.erase k0):=by
   refine⟨?_,?_,λp pz p1 p2=>?_⟩
   .have d:=dg (ea k0);rw[uD (.inl rfl)] at d
    have:=d2 _ hz;exact xu this d
   .have d:=dg (eb k0);rw[uD (.inr rfl)] at d
    have:=d2 _ xz;exact xu this d
   .have d:=dg p;rw[uC λc=>c.elim (λc=>p1 c.symm) (λc=>p2 c.symm),G0] at d
    rw[<- d];exact d2 p pz
  refine⟨w,λS sh cl u hu=>?_⟩;have sx:=AEW hz hx m3 w sh cl;refine jb S sh (λv hv=>?_) u (DA hu);rcases split hv with rfl| hv
  .exact⟨λ_=>sx,λ_=>sh⟩
  .exact cl v hv
theorem KQ(ok:∀k∈s,ea k<z/\eb k<z/\ea k≠eb k)(d2:∀p,p<z->degE (edl ea eb s) p=0\/degE (edl ea eb s) p=2):(∀p,p<z->degE (edl ea eb s) p=2)↔s.length=z:=by
 have sm:=Qi (z:=z) (S:=λ_=>True) (E:=edl ea eb s) λe he=>by
  obtain⟨k,hk,rfl⟩:=A1.mp he;obtain⟨h1,h2,h3⟩:=ok k hk;exact⟨h1,h2,h3,Iff.rfl⟩
 simp only[if_true,decide_true] at sm;rw[List.filter_eq_self.mpr λ_ _=>rfl,AB] at sm;constructor
 .intro h
  rw[Uz h] at sm;lia
 .intro e
  exact(YZ λp hp=>(d2 p hp).elim (λh=>by lia) λh=>vB h).2 (by rw[sm,e])
end
noncomputable def stayR(rd:Bool)(st:StO)(p:Nat):Bool:=decide (st.getD p uB=uB\/(rd=false/\st.getD p uB=uA (p:Int)))
noncomputable def passR1(rd:Bool)(st:StO)(p:Nat):Option StO:=if st=[] then uA st else if stayR rd st p=true then uA (st.set p uB) else uB
noncomputable def passR(rd:Bool):StO->uL->Option StO
 | st,[]=>uA st
 | st,p::ps=>(passR1 rd st p).bind λs=>passR rd s ps
noncomputable def JT(rd:Bool)(st:StO)(a b:Nat):Option StO:=if((AW st.length).filter λp=>decide (p≠a/\p≠b)).all (stayR rd st)=true then uA [] else uB
noncomputable def takeR(rd:Bool)(st:StO)(a b:Nat):Option StO :=
 if st=[]\/st.getD a uB=uB\/st.getD b uB=uB then uB
 else if st.getD a uB=uA (b:Int) then JT rd st a b else uA (tiedS st a b)
def stayG(rd:Bool)(f:Fs)(p:Nat):Prop:=f p=uB\/(rd=false/\f p=uA p)
def accR(rd:Bool)(z:Nat):Fs->List (Nat×Nat)->Prop
 | _,[]=>False
 | f,e::E=>∃i j,f e.1=uA i/\f e.2=uA j/\((i=e.2/\E=[]/\∀p,p<z->p≠e.1->p≠e.2->stayG rd f p)\/(i≠e.2/\accR rd z (tieF f e.1 e.2 i j) E))
theorem YX{f:Fs}{p:Nat}:stayG false f p↔stayF f p:=by unfold stayG stayF;simp
theorem Im{z:Nat}:∀{E:List (Nat×Nat)}{f:Fs},accR false z f E↔acc z f E
 | [],f=>Iff.rfl
 | e::E,f=>by
  unfold accR acc;simp only[YX,Im (E:=E)]
theorem Qs{z:Nat}:∀{E:List (Nat×Nat)}{f:Fs},SymF f->(∀e∈E,e.1≠e.2)->(accR true z f E↔acc z f E/\∀p,p<z->f p=uA p->degE E p≠0)
 | [],f,_,_=>⟨λh=>h.elim,λh=>h.1.elim⟩
 | e::E,f,sy,ed=>by
  have ab:=ed e (AG ..);have dc:=λp=>Dj e E p;have dp:∀p,e.1=p\/e.2=p->degE (e::E) p≠0:=λp h=>by rw[dc,uD h];lia
  have dn:∀p,¬ (e.1=p\/e.2=p)->degE (e::E) p=degE E p:=λp h=>by rw[dc,uC h,G0]
  constructor
  .rintro⟨i,j,h1,h2,⟨h3,rfl,h4⟩| ⟨h3,h4⟩⟩
   .refine⟨⟨i,j,h1,h2,.inl ⟨h3,rfl,λp pz n1 n2=>.inl ((h4 p pz n1 n2).resolve_right λh=>O7 h.1)⟩⟩,λp pz hp=>?_⟩
    by_cases c:e.1=p\/e.2=p
    .exact dp p c
    .rcases h4 p pz (λd=>c (.inl d.symm)) (λd=>c (.inr d.symm)) with h| h
     .rw[hp] at h;cases h
     .exact O7 h.1
   .obtain⟨g1,g2⟩:=(Qs (sy.tie h1 h2 ab h3) λr hr=>ed r (AK _ hr)).mp h4
    refine⟨⟨i,j,h1,h2,.inr ⟨h3,g1⟩⟩,λp pz hp=>?_⟩;by_cases c:e.1=p\/e.2=p
    .exact dp p c
    .rw[dn p c]
     refine g2 p pz ?_;have n1:p≠j:=λd=>c (.inr (by have:=sy _ _ h2;rw[<- d,hp] at this;exact(AN this).symm));have n2:p≠i:=λd=>c (.inl (by have:=sy _ _ h1;rw[<- d,hp] at this;exact(AN this).symm));unfold tieF;rw[uC n1,uC n2,uC λd=>c (d.elim (λd=>.inl d.symm) λd=>.inr d.symm)];exact hp
  .rintro⟨⟨i,j,h1,h2,⟨h3,rfl,h4⟩| ⟨h3,h4⟩⟩,tc⟩
   .refine⟨i,j,h1,h2,.inl ⟨h3,rfl,λp pz n1 n2=>(h4 p pz n1 n2).elim .inl λh=>?_⟩⟩
    refine uH (dn p λc=>c.elim (λd=>n1 d.symm) λd=>n2 d.symm) λd=>tc p pz h (by rw[d];rfl)
   .refine⟨i,j,h1,h2,.inr ⟨h3,(Qs (sy.tie h1 h2 ab h3) λr hr=>ed r (AK _ hr)).mpr ⟨h4,λp pz hp=>?_⟩⟩⟩
    have ne:∀{x:Nat},f e.1=uA x->f e.2=uA x->False:=λ{x} e1 e2=>by
     have a1:=sy _ _ e1;have a2:=sy _ _ e2;rw[a1] at a2;exact ab (AN a2)
    unfold tieF at hp;by_cases c1:p=j
    .rw[uD c1] at hp
     have:=AN hp;exact(ne h1 (by rw[h2,this,c1])).elim
    .rw[uC c1] at hp
     by_cases c2:p=i
     .rw[uD c2] at hp
      have:=AN hp;exact uH this.symm c1
     .rw[uC c2] at hp
      by_cases c3:p=e.1\/p=e.2
      .rw[uD c3] at hp;cases hp
      .rw[uC c3] at hp
       have:=tc p pz hp
       rwa [dn p λc=>c3 (c.elim (λd=>.inl d.symm) λd=>.inr d.symm)] at this
theorem AAu{E:List (Nat×Nat)}{f:Fs}(sy:SymF f)(rg:RngF z f)(ed:∀e∈E,e.1≠e.2){p:Nat}(hp:∀e∈E,e.1≠p/\e.2≠p)(ns:¬ stayG rd f p):¬ accR rd z f E:=λh=>by
 cases rd with
 | false=>exact acc_open sy rg ed hp (λc=>ns (YX.mpr c)) (Im.mp h)
 | true =>
  obtain⟨h1,h2⟩:=(Qs sy ed).mp h;have d0:degE E p=0:=by
   unfold degE;rw[Cs,Mn];intro e he;rw[decide_eq_true_iff];exact λc=>c.elim (hp e he).1 (hp e he).2
  by_cases c:f p=uA p
  .exact h2 p (rg _ _ c) c d0
  .exact acc_open sy rg ed hp (λd=>d.elim (λd=>ns (.inl d)) c) h1
theorem Ji{ea eb:Nat->Nat}{s:uL}(ok:∀k∈s,ea k<z/\eb k<z/\ea k≠eb k):accR true z (idZ z) (edl ea eb s)↔acc z (idZ z) (edl ea eb s)/\s.length=z:=by
 rw[Qs (idZ_sym z) (Lg ok)];refine and_congr_right λa=>?_;have d2:∀p,p<z->degE (edl ea eb s) p=0\/degE (edl ea eb s) p=2:=λp pz=>(Ho (idZ_sym z) (Lg ok) a p pz).2.1 (Bx pz);rw[<- KQ ok d2];exact⟨λh p pz=>(d2 p pz).resolve_left (h p pz (Bx pz)),λh p pz _=>by rw[h p pz];decide⟩
structure RlR(rd:Bool)(z:Nat)(P:Nat->Prop)(st:StO)(f:Fs):Prop where
 len:st.length=z
 at_:∀x,x<z->¬ P x->st.getD x uB=oI (f x)
 ps:∀x,x<z->P x->st.getD x uB=uB/\stayG rd f x
 sym:SymF f
 rng:RngF z f
section
variable{P:Nat->Prop}{st:StO}{f:Fs}
theorem RlR.congr{P':Nat->Prop}(h:RlR rd z P st f)(e:∀x,x<z->(P x↔P' x)):RlR rd z P' st f:=⟨h.len,λx hx n=>h.at_ x hx λp=>n ((e x hx).mp p),λx hx p=>h.ps x hx ((e x hx).mpr p),h.sym,h.rng⟩
theorem RlR.stay(h:RlR rd z P st f){x:Nat}(hx:x<z):stayR rd st x=true↔stayG rd f x:=by
 unfold stayR;rw[decide_eq_true_iff];by_cases p:P x
 .obtain⟨h1,h2⟩:=h.ps x hx p
  exact⟨λ_=>h2,λ_=>.inl h1⟩
 .rw[h.at_ x hx p]
  unfold stayG oI;cases f x with
  | none=>simp
  | some y =>
   simp;intro _;lia
theorem RlR.ne(h:RlR rd z P st f){x:Nat}(hx:x<z):¬ st=[]:=λe=>by
 have:=h.len;rw[e] at this;exact uH hx (by rw[<- this];exact J0 _)
theorem RlR.pass(h:RlR rd z P st f){p:Nat}(hp:p<z):(passR1 rd st p=uB/\¬ stayG rd f p)\/(∃ah,passR1 rd st p=uA ah/\RlR rd z (λq=>P q\/q=p) ah f):=by
 unfold passR1;rw[uC (h.ne hp)];by_cases c:stayR rd st p=true
 .rw[uD c]
  refine .inr ⟨_,rfl,by rw[ET];exact h.len,λx hx n=>?_,λx hx pp=>?_,h.sym,h.rng⟩
  .rw[Dt _ _ _ _ λe=>n (.inr e)]
   exact h.at_ x hx λq=>n (.inl q)
  .by_cases e:x=p
   .subst e
    rw[Du,uD (by rw[h.len];exact hx)];exact⟨rfl,(h.stay hx).mp c⟩
   .rw[Dt _ _ _ _ e]
    exact h.ps x hx (pp.resolve_right e)
 .rw[uC c]
  exact .inl ⟨rfl,λs=>c ((h.stay hp).mpr s)⟩
theorem RlR.passes:∀(ps:uL) {P:Nat->Prop}{st:StO},RlR rd z P st f->(∀p∈ps,p<z)->(passR rd st ps=uB/\∃p∈ps,¬ stayG rd f p)\/(∃ah,passR rd st ps=uA ah/\RlR rd z (λq=>P q\/q∈ps) ah f)
 | [],P,st,h,_=>.inr ⟨st,rfl,h.congr λx _=>⟨.inl,λe=>e.resolve_right D5⟩⟩
 | p::ps,P,st,h,hp=>by
  show((passR1 rd st p).bind (λs=>passR rd s ps)=uB/\_)\/(∃ah,(passR1 rd st p).bind (λs=>passR rd s ps)=uA ah/\_);rcases h.pass (hp p (AG ..)) with⟨e,n⟩| ⟨s1,e,h1⟩
  .rw[e]
   exact .inl ⟨rfl,p,AG ..,n⟩
  .rw[e]
   rcases RlR.passes ps h1 λq hq=>hp q (AK _ hq) with⟨e2,q,hq,n⟩| ⟨s2,e2,h2⟩
   .exact .inl ⟨e2,q,AK _ hq,n⟩
   .refine .inr ⟨s2,e2,h2.congr λx _=>?_⟩
    rw[BH];exact or_assoc
theorem RlR.tie(h:RlR rd z P st f){a b:Nat}(az:a<z)(bz:b<z)(na:¬ P a)(nb:¬ P b)(ab:a≠b)(ha:f a=uA i)(hb:f b=uA j)(ib:i≠b):RlR rd z P (tiedS st a b) (tieF f a b i j):=by
 have iz:=h.rng _ _ (h.sym _ _ ha);have jz:=h.rng _ _ (h.sym _ _ hb);have e1:st.getD a uB=uA (i:Int):=by rw[h.at_ a az na,ha];rfl
 have e2:st.getD b uB=uA (j:Int):=by rw[h.at_ b bz nb,hb];rfl
 have et:tiedS st a b=(((st.set a uB).set b uB).set i (uA (j:Int))).set j (uA (i:Int)):=by
  unfold tiedS;rw[e1,e2];rfl
 have np:∀{x y:Nat},¬ P x->f x=uA y->¬ P y:=λ{x y} n e p=>by
  rcases (h.ps y (h.rng _ _ (h.sym _ _ e)) p).2 with s| ⟨_,s⟩
  .rw[h.sym _ _ e] at s;cases s
  .rw[h.sym _ _ e] at s
   exact n (AN s ▸ p)
 have ni:=np na ha;have nj:=np nb hb;have l:=h.len;refine⟨by rw[et];simp only[ET];exact l,λx hx n=>?_,λx hx p=>?_,h.sym.tie ha hb ab ib,h.rng.tie h.sym ha hb⟩
 .rw[et,getD4 (dl az l) (dl bz l) (dl iz l) (dl jz l)]
  unfold tieF;rw[h.at_ x hx n];split
  .rfl
  .split
   .rfl
   .split<;>rfl
 .have x1:x≠j:=λe=>nj (e ▸ p)
  have x2:x≠i:=λe=>ni (e ▸ p);have x3:x≠a:=λe=>na (e ▸ p);have x4:x≠b:=λe=>nb (e ▸ p);obtain⟨h1,h2⟩:=h.ps x hx p;rw[et,getD4 (dl az l) (dl bz l) (dl iz l) (dl jz l),uC x1,uC x2,uC (λe=>e.elim x3 x4)];refine⟨h1,?_⟩;unfold stayG tieF;rw[uC x1,uC x2,uC (λe=>e.elim x3 x4)];exact h2
end
section
variable{ea eb L:Nat->Nat}
noncomputable abbrev semR(rd:Bool)(z:Nat)(ea eb L:Nat->Nat):Nat->Nat->Option StO->uL->Bool:=semO (λ_ s=>uA s) (λt s=>takeR rd s (ea t) (eb t)) (λt s=>passR rd s ((AW z).filter λp=>decide (L p=t))) (λs=>decide (s=[]))
theorem Jk:∀ps:uL,passR rd [] ps=uA []
 | []=>rfl
 | _::ps=>Jk ps
theorem Hr(d t:Nat)(s:uL):semR rd z ea eb L d t uB s=false:=by cases d<;>rfl
theorem Jg:∀(d t:Nat) (sl:uL),sl.Pairwise (· < ·)->(∀x∈sl,t<=x/\x<t+d)->(semR rd z ea eb L d t (uA []) sl=true↔sl=[])
 | 0,t,sl,pw,h=>by
  have e:sl=[]:=by
   cases sl with
   | nil=>rfl
   | cons x xs=>have:=h x (AG ..);lia
  subst e;simp[semR,semO,Jk]
 | d+1,t,sl,pw,h=>by
  have e:semR rd z ea eb L (d+1) t (uA []) sl=stepO (λ_ s=>uA s) (λt s=>takeR rd s (ea t) (eb t)) t (semR rd z ea eb L d (t+1)) [] sl:=by simp[semR,semO,Jk]
  rw[e];cases sl with
  | nil=>exact Jg d (t+1) [] .nil λx hx=>by cases hx
  | cons x xs =>
   have hx:=h x (AG ..);show(if x<t then false else if x=t then semR rd z ea eb L d (t+1) (takeR rd [] (ea t) (eb t)) xs else semR rd z ea eb L d (t+1) (uA []) (x::xs))=true↔_;rw[uC (zt hx)];by_cases c:x=t
   .rw[uD c,show takeR rd [] (ea t) (eb t)=uB from uD (.inl rfl),Hr]
    exact⟨λh=>(by cases h),λh=>(by cases h)⟩
   .rw[uC c]
    exact Jg d (t+1) (x::xs) pw (above pw h c)
theorem Tz(z1:1<=z)(hz:∀x,x<n->ea x<z/\eb x<z/\ea x≠eb x/\x<L (ea x)/\x<L (eb x)):∀(d t:Nat) (st:StO) (f:Fs) (sl:uL),t+d=n->RlR rd z (λp=>L p<t) st f->sl.Pairwise (· < ·)->(∀x∈sl,t<=x/\x<t+d) ->
  (semR rd z ea eb L d t (uA st) sl=true↔accR rd z f (sl.map λx=>(ea x,eb x))):=by
 intro d
 induction d with
 | zero =>
  intro t st f sl e R pw hs;have sn:sl=[]:=by
   cases sl with
   | nil=>rfl
   | cons x xs=>have:=hs x AG;lia
  subst sn;refine⟨λh=>?_,λh=>h.elim⟩;rcases R.passes ((AW z).filter λp=>decide (L p=t)) (λp hp=>A8.mp (BQ.mp hp).1) with⟨e1,_⟩| ⟨s',e1,R'⟩
  .simp[semR,semO,e1] at h
  .simp only[semR,semO,e1,F0,decide_eq_true_iff] at h
   exact uH h.1 (R'.ne z1)
 | succ d ih =>
  intro t st f sl e R pw hs;have edge:∀x∈sl.map (λx=>(ea x,eb x)),x.1≠x.2:=λx hx=>by
   obtain⟨y,hy,rfl⟩:=A1.mp hx;exact(hz y (by have:=hs y hy;exact zu e this)).2.2.1
  rcases R.passes ((AW z).filter λp=>decide (L p=t)) (λp hp=>A8.mp (BQ.mp hp).1) with⟨e1,p,hp,np⟩| ⟨s',e1,R0⟩
  .have lp:=uG (BQ.mp hp).2
   refine⟨λh=>by simp[semR,semO,e1] at h,λh=>?_⟩;refine uH h (AAu R.sym R.rng edge (λx hx=>?_) np);obtain⟨y,hy,rfl⟩:=A1.mp hx;obtain⟨h1,h2,h3,h4,h5⟩:=hz y (by have:=hs y hy;exact zu e this);have:=hs y hy;exact⟨λc=>by rw[show ea y=p from c] at h4;exact zv h4 lp this,λc=>by rw[show eb y=p from c] at h5;exact zv h5 lp this⟩
  have R':RlR rd z (λp=>L p<t+1) s' f:=R0.congr λx hx=>by
   rw[BQ,A8,decide_eq_true_iff];lia
  have e2:semR rd z ea eb L (d+1) t (uA st) sl=stepO (λ_ s=>uA s) (λt s=>takeR rd s (ea t) (eb t)) t (semR rd z ea eb L d (t+1)) s' sl:=by simp only[semR,semO,e1]
  rw[e2];cases sl with
  | nil=>exact ih (t+1) s' f [] (wB e) R' .nil λx hx=>by cases hx
  | cons x xs =>
   have hx:=hs x (AG ..);show(if x<t then false else if x=t then semR rd z ea eb L d (t+1) (takeR rd s' (ea t) (eb t)) xs else semR rd z ea eb L d (t+1) (uA s') (x::xs))=true↔_;rw[uC (zt hx)];by_cases c:x=t
   .subst c
    rw[uD rfl];obtain⟨az,bz,ab,la,lb⟩:=hz x (xw e);have pw':=(Dx.mp pw).2;have om:∀y∈xs,x+1<=y/\y<x+1+d:=λy hy=>by
     have h1:=(Dx.mp pw).1 y hy;have h2:=hs y (AK _ hy);lia
    have ga:=R'.at_ _ az (wz la);have gb:=R'.at_ _ bz (wz lb);show _↔∃i j,f (ea x)=uA i/\f (eb x)=uA j/\_;unfold takeR;cases fa:f (ea x) with
    | none =>
     rw[fa] at ga;rw[uD (.inr (.inl ga)),Hr];exact⟨λh=>(by cases h),λ⟨i,j,h,_⟩=>(by cases h)⟩
    | some i =>
     cases fb:f (eb x) with
     | none =>
      rw[fb] at gb;rw[uD (.inr (.inr gb)),Hr];exact⟨λh=>(by cases h),λ⟨i,j,_,h,_⟩=>(by cases h)⟩
     | some j =>
      rw[fa] at ga;rw[fb] at gb;have n0:¬ (s'=[]\/s'.getD (ea x) uB=uB\/s'.getD (eb x) uB=uB):=by
       rintro(h| h| h)
       .exact R'.ne z1 h
       .rw[ga] at h;cases h
       .rw[gb] at h;cases h
      rw[uC n0,ga];by_cases cl:i=eb x
      .rw[uD (show oI (uA i)=uA (eb x:Int) by rw[cl];rfl)]
       have all:((AW s'.length).filter λp=>decide (p≠ea x/\p≠eb x)).all (stayR rd s')=true↔∀p,p<z->p≠ea x->p≠eb x->stayG rd f p:=by
        rw[EW,R'.len];constructor
        .intro h p pz n1 n2
         exact(R'.stay pz).mp (h p (BQ.mpr ⟨A8.mpr pz,uE ⟨n1,n2⟩⟩))
        .intro h p hp
         obtain⟨h1,h2⟩:=BQ.mp hp;have pz:=A8.mp h1;obtain⟨n1,n2⟩:=uG h2;exact(R'.stay pz).mpr (h p pz n1 n2)
       unfold JT;by_cases ca:((AW s'.length).filter λp=>decide (p≠ea x/\p≠eb x)).all (stayR rd s')=true
       .rw[uD ca,Jg d (x+1) xs pw' om]
        refine⟨λh=>⟨i,j,rfl,rfl,.inl ⟨cl,by rw[h];rfl,all.mp ca⟩⟩,?_⟩;rintro⟨i',j',h1,h2,⟨_,h3,_⟩| ⟨h3,_⟩⟩
        .exact DM.mp h3
        .exact uH (AN h1 ▸ cl) h3
       .rw[uC ca,Hr]
        refine⟨λh=>(by cases h),?_⟩;rintro⟨i',j',h1,h2,⟨_,_,h3⟩| ⟨h3,_⟩⟩
        .exact uH (all.mpr h3) ca
        .exact uH (AN h1 ▸ cl) h3
      .rw[uC (λh=>cl (by unfold oI at h;simp at h;exact uM h))]
       have RT:=R'.tie az bz (wz la) (wz lb) ab fa fb cl;rw[ih (x+1) _ _ xs (wB e) RT pw' om];refine⟨λh=>⟨i,j,rfl,rfl,.inr ⟨cl,h⟩⟩,?_⟩;rintro⟨i',j',h1,h2,⟨h3,_⟩| ⟨_,h3⟩⟩
       .exact uH (AN h1 ▸ h3) cl
       .cases h1
        cases h2;exact h3
   .rw[uC c]
    exact ih (t+1) s' f (x::xs) (wB e) R' pw λy hy=>by have:=above pw hs c y hy;exact this
end
end G
namespace K32
open PySem L2 G
structure Gro(K:Ap)(mg:Str->Option As)(Gc:Addr):Prop where
 cl:Cls K Gc
 mgG:mg "Growth" = uA (.ref Gc)
 nW:NoAttr K Gc "web"
 nU:NoAttr K Gc "rule"
 nA:NoAttr K Gc "amount"
 nB:NoAttr K Gc "behind"
 nR:NoAttr K Gc "rows"
 nK:NoAttr K Gc "known"
noncomputable def gf(W r:Addr)(n:Int)(Bh R D:Addr):List (Str×V):=putF "known" (.ref D) (putF "rows" (.ref R) (putF "behind" (.ref Bh) (putF "amount" (.int n) (putF "rule" (.ref r) (putF "web" (.ref W) [])))))
section
variable (W r Bh R D:Addr)(n:Int)
theorem LK:(gf W r n Bh R D).lookup ("known" : Str)=uA (.ref D):=by unfold gf;rw[Aj,uD rfl]
theorem RV:(gf W r n Bh R D).lookup ("rows" : Str)=uA (.ref R):=by unfold gf;rw[Aj,uC (by decide+kernel),Aj,uD rfl]
theorem Zg:(gf W r n Bh R D).lookup ("behind" : Str)=uA (.ref Bh):=by unfold gf;rw[Aj,uC (by decide+kernel),Aj,uC (by decide+kernel),Aj,uD rfl]
theorem PX:(gf W r n Bh R D).lookup ("amount" : Str)=uA (.int n):=by unfold gf;rw[Aj,uC (by decide+kernel),Aj,uC (by decide+kernel),Aj,uC (by decide+kernel),Aj,uD rfl]
theorem KZ:(gf W r n Bh R D).lookup ("rule" : Str)=uA (.ref r):=by unfold gf;rw[Aj,uC (by decide+kernel),Aj,uC (by decide+kernel),Aj,uC (by decide+kernel),Aj,uC (by decide+kernel),Aj,uD rfl]
theorem RK:(gf W r n Bh R D).lookup ("web" : Str)=uA (.ref W):=by unfold gf;rw[Aj,uC (by decide+kernel),Aj,uC (by decide+kernel),Aj,uC (by decide+kernel),Aj,uC (by decide+kernel),Aj,uC (by decide+kernel),Aj,uD rfl]
theorem AIP{m:Str}(h1:¬ m = "known")(h2:¬ m = "rows")(h3:¬ m = "behind")(h4:¬ m = "amount")(h5:¬ m = "rule")(h6:¬ m = "web"):(gf W r n Bh R D).lookup m=uB:=by
 unfold gf;rw[Aj,uC h1,Aj,uC h2,Aj,uC h3,Aj,uC h4,Aj,uC h5,Aj,uC h6]
 all_goals rfl
end
structure Wr where
 ps:StO->Nat->Option StO
 tk:StO->Nat->Nat->Option StO
 fu:StO->Bool
 pre:StO->Nat->Nat->Prop
 vld:Nat->StO->Prop
 fl:List (Str×V)
 nP:fl.lookup ("passed" : Str)=uB
 nL:fl.lookup ("left" : Str)=uB
 nT:fl.lookup ("taken" : Str)=uB
 nU:fl.lookup ("fulfilled" : Str)=uB
 nB:fl.lookup ("begun" : Str)=uB
noncomputable def passU(u:Wr):StO->uL->Option StO
 | st,[]=>uA st
 | st,p::ps=>(u.ps st p).bind λs=>passU u s ps
theorem Ol(u:Wr):∀(ps qs:uL) (st:StO),passU u st (ps++qs)=(passU u st ps).bind λs=>passU u s qs
 | [],qs,st=>rfl
 | p::ps,qs,st=>by
  show(u.ps st p).bind _=((u.ps st p).bind _).bind _;cases u.ps st p with
  | none=>rfl
  | some s=>exact Ol u ps qs s
structure Gr(u:Wr)(K:Ap)(C Dc Gc:Addr)(g W r Bh R D:Addr)(z:Nat)(bs:uJ)(H:Hp):Prop where
 ins:∃dx,H g=uA (.ins Gc dx (gf W r bs.length Bh R D))
 web:WebAt K C H W z bs
 rul:∃dx,H r=uA (.ins Dc dx u.fl)
 beh:∃ys,H Bh=uA (.lst ys)/\Bh≠R/\BI (λt v=>∃l,v=.ref l/\l≠R/\H l=uA (.lst (nI (behP bs z t)))) (AW (bs.length+1)) ys
section
variable{u:Wr}{Dc g W r Bh:Addr}{bs:uJ}{φ:Heap->Prop}
theorem tsRD(e:∀b o,b≠R->b≠D->H b=uA o->H' b=uA o)(hR:H R=uA (.lst xs))(hD:H D=uA (.ext φ)):TSm H H':=λb u hb t=>by
 have ne:∀{x:Addr}{o:HO},H x=uA o->(∀ys,o≠.tup ys)->(∀q ys,o≠.frz q (.tup ys))->b≠x:=λ{x o} hx h1 h2 zz=>by
  rw[zz,hx] at hb;cases hb;obtain⟨ys,e| ⟨q,e⟩⟩:=t
  .exact h1 ys e
  .exact h2 q ys e
 exact e b u (ne hR (by intro _ z;cases z) (by intro _ _ z;cases z)) (ne hD (by intro _ z;cases z) (by intro _ _ z;cases z)) hb
theorem Gr.keep(h:Gr u K C Dc Gc g W r Bh R D z bs H)(e:∀b o,b≠R->b≠D->H b=uA o->H' b=uA o)(hR:H R=uA (.lst xs))(hD:H D=uA (.ext φ)):Gr u K C Dc Gc g W r Bh R D z bs H':=by
 have ts:=tsRD e hR hD;have ni:∀{x c dx:Addr}{fs:List (Str×V)},H x=uA (.ins c dx fs)->H' x=uA (.ins c dx fs):=λ{x c dx fs} hx=>e _ _ (DQ hx hR (by intro z;cases z)) (DQ hx hD (by intro z;cases z)) hx;have nl:∀{x:Addr}{l:List V},x≠R->H x=uA (.lst l)->H' x=uA (.lst l):=λ{x l} hn hx=>e _ _ hn (DQ hx hD (by intro z;cases z)) hx;obtain⟨d1,i1⟩:=h.ins;obtain⟨d2,j,i2,i3⟩:=h.web;obtain⟨d3,i4⟩:=h.rul;obtain⟨ys,b1,b2,b3⟩:=h.beh;exact⟨⟨d1,ni i1⟩,⟨d2,j,ni i2,Aq (Aq Aw) _ _ _ _ ts i3⟩,⟨d3,ni i4⟩,⟨ys,nl b2 b1,b2,u7 (by rintro t v ⟨l,c1,c2,c3⟩;exact⟨l,c1,c2,nl c2 c3⟩) b3⟩⟩
theorem Gr.same(h:Gr u K C Dc Gc g W r Bh R D z bs H)(e:Same H H'):Gr u K C Dc Gc g W r Bh R D z bs H':=by
 obtain⟨d1,i1⟩:=h.ins;obtain⟨d3,i4⟩:=h.rul;obtain⟨ys,b1,b2,b3⟩:=h.beh;exact⟨⟨d1,e _ _ i1⟩,h.web.same e,⟨d3,e _ _ i4⟩,⟨ys,e _ _ b1,b2,u7 (by rintro t v ⟨l,c1,c2,c3⟩;exact⟨l,c1,c2,e _ _ c3⟩) b3⟩⟩
end
def StAt(K:Ap)(H:Hp)(b:Addr)(st:StO):Prop:=SqT K H b (st.map oV)
def RS(u:Wr)(K:Ap)(z:Nat)(H:Hp)(v:V):Option StO->Prop
 | none=>v=.non
 | some st=>∃b,v=.ref b/\StAt K H b st/\u.vld z st
def Sy(u:Wr)(K:Ap)(D:Addr):Sp:=λvs H Q _=>∃(p:V) (b dx a:Addr) (q z:Nat) (st:StO),vs=[.ref a,p,.ref b,.int q]/\H a=uA (.ins D dx u.fl)/\StAt K H b st/\u.vld z st/\q<z/\z<=10 /\
 ∀(v':V) (H':Hp),Same H H'->RS u K z H' v' (u.ps st q)->Q v' H'
def Xb(u:Wr)(K:Ap)(C Dc Gc:Addr):Sp:=λvs H Q _=>∃(g W r Bh R D:Addr) (z t:Nat) (bs:uJ) (v:V) (o:Option StO),vs=[.ref g,.int t,v]/\Gr u K C Dc Gc g W r Bh R D z bs H/\z<=10/\t<=bs.length/\RS u K z H v o /\
 ∀(v':V) (H':Hp),Same H H'->RS u K z H' v' (o.bind λr=>passU u r (behP bs z t))->Q v' H'
section
variable{u:Wr}
theorem Qu:FnScope ["self","number","reached","state","point"] zl25 (Ah ABu):=fscp (by decide+kernel)
theorem Yg(F:Fun K "past_points" "Growth.past_points" ABu f fd)(cD:Cls K D)(O:Gro K mg Gc)(GP:FnOk P w K mg base CX0 3 fP g5 zl12 (Sy u K D))(bP:Binds K g5 zl12 [])(mP:Meth K D "passed" fP) :
  FnOk P w K mg base CX0 4 f fd zl25 (Xb u K C D Gc):=by
 refine F.ok Qu (λvs H Q E h=>?_) (λa7 A outer s H vs Q E hr h=>?_)
 .obtain⟨g,W,r,Bh,R,Dk,z,t,bs,v,o,rfl,_⟩:=h
  rfl
 obtain⟨g,W,r,Bh,R,Dk,z,t,bs,v,o,rfl,gr,z10,tb,rs,q⟩:=h;refine⟨_,Ad (Ak (i:=3) Qu.nd (pv 2))
  (Ad (DW C5 rfl (Bt (Av BL (Bw (pv 0) rfl) (pv 1))) (BX (i:=4) Qu.nd)
   (Ai (Bl (Ia (ADz (pv 3))) (Ai (Ak (i:=3) Qu.nd (CN (Bw (pv 0) rfl) cD mP GP hr bP .nil pass0 (Aa (Bw (pv 0) rfl) (Aa (pv 3) (Aa (pv 4) Ac)))))) BJ)))
  (Ai (Ao (pv 3)))),?_⟩
 obtain⟨dg,hg⟩:=gr.ins;obtain⟨dr,dv⟩:=gr.rul;obtain⟨ys,hB,_,pB⟩:=gr.beh;have lB:=AV pB;rw[CB] at lB;have tl:t<ys.length:=by lia
 obtain⟨t',ht',l,el,_,hl⟩:=Paired.get pB (AI tl);have et:t'=t:=by
  have:=(AH.mp ht').2;rw[List.getElem_range] at this;exact this.symm
 subst et;have sJ:atI ys (t':Int)=uA (.ref l):=by
  rw[<- el];exact Bg (AI tl)
 refine⟨_,rfl,?_⟩;refine⟨_,rfl,g,Gc,dg,_,_,rfl,hg,O.cl,O.nB,Zg _ _ _ _ _ _,_,rfl,Bh,ys,_,_,rfl,rfl,uy hB,sJ,l,rfl,⟨_,uy hl⟩,?_⟩;refine Eh (K:=K) (a:=l) (xs:=nI (behP bs z t')) (λi σ H2=>∃(v':V) (o4:Option V),σ=[uA (.ref g),uA (.int t'),uA v,uA v',o4]/\Same H H2/\RS u K z H2 v' (o.bind λr=>passU u r ((behP bs z t').take i)))
  ⟨v,uB,rfl,u3 _,by
   have e:(o.bind λr=>passU u r ((behP bs z t').take 0))=o:=by cases o<;>rfl
   rw[e];exact rs⟩ (by rintro i σ H2 _ ⟨_,_,_,s2,_⟩;exact s2.seq (uy hl)) ?_ ?_
 .rintro i x σ H2 hx ⟨v',o4,rfl,s2,rs2⟩
  obtain⟨pt,hp,rfl⟩:=Rb hx;have pz:=A8.mp (BQ.mp (AX hp)).1;have step:(o.bind λr=>passU u r ((behP bs z t').take (i+1)))=(o.bind λr=>passU u r ((behP bs z t').take i)).bind λs=>u.ps s pt:=by
   cases o with
   | none=>rfl
   | some r =>
    rw[Ex,hp];show passU u r (_++[pt])=_;rw[Ol u]
    congr 1
    funext s
    show(u.ps s pt).bind (λs=>uA s)=_;cases u.ps s pt<;>rfl
  cases e:(o.bind λr=>passU u r ((behP bs z t').take i)) with
  | none =>
   rw[e] at rs2 step;cases rs2;refine⟨_,rfl,_,rfl,iteF ⟨.non,_,rfl,s2,?_⟩⟩;rw[step];exact rfl
  | some st =>
   rw[e] at rs2 step;obtain⟨b,rfl,hb,sl⟩:=rs2;refine⟨_,rfl,_,rfl,iteT ?_⟩;refine⟨_,rfl,g,Gc,dg,_,_,rfl,s2 _ _ hg,O.cl,O.nU,KZ _ _ _ _ _ _,r,dr,_,rfl,s2 _ _ dv,u.nP,_,rfl,g,Gc,dg,_,_,rfl,s2 _ _ hg,O.cl,O.nW,RK _ _ _ _ _ _,_,rfl,_,rfl,.ref W,b,dr,r,pt,z,st,rfl,s2 _ _ dv,hb,sl,pz,z10,λv3 H3 s3 rs3=>?_⟩;refine⟨_,_,rfl,s2.trans s3,?_⟩;rw[step];exact rs3
 .rintro σ H2 ⟨v',o4,rfl,s2,rs2⟩
  rw[Cy,CM] at rs2;exact⟨_,rfl,q v' H2 s2 rs2⟩
end
def ea(bs:uJ)(t:Nat):Nat:=((bs.getD t []).getD 0 0).toNat
def eb(bs:uJ)(t:Nat):Nat:=((bs.getD t []).getD 1 0).toNat
def OkB(z:Nat)(bs:uJ):Prop:=∀t∈bs,∃x y:Nat,t=[(x:Int),(y:Int)]/\x<z/\y<z
def lefU(_:Nat)(st:StO):Option StO:=uA st
def takU(u:Wr)(bs:uJ)(t:Nat)(st:StO):Option StO:=u.tk st (ea bs t) (eb bs t)
noncomputable abbrev semC(u:Wr)(bs:uJ)(z d t:Nat):Option StO->uL->Bool:=semO lefU (takU u bs) (λt r=>passU u r (behP bs z t)) u.fu d t
def Good(u:Wr)(bs:uJ)(z:Nat)(G:Nat->Option StO->Prop):Prop:=∀(t:Nat) (o:Option StO) (st:StO),t<bs.length->G t o->(o.bind λr=>passU u r (behP bs z t))=uA st->u.pre st (ea bs t) (eb bs t)/\G (t+1) (uA st)/\G (t+1) (takU u bs t st)
abbrev keyC(t:Nat)(st:StO):OKey:=(uA (t:Int),st)
theorem Tt{t:Nat}{st ah:StO}(h:keyC t st=keyC t' ah):t=t'/\st=ah:=by
 injection h with h1 h2
 injection h1 with h1
 exact⟨uM h1,h2⟩
def Known(u:Wr)(bs:uJ)(z:Nat)(rows:List Row)(af:List (OKey×V)):Prop:=∀(t:Nat) (st:StO) (v:V),valV af (keyC t st)=uA v->∃k:Nat,v=.int k/\t<bs.length/\Lead rows t k (stepO lefU (takU u bs) t (semC u bs z (bs.length-1-t) (t+1)) st)
theorem Known.app{u:Wr}{bs:uJ}{rows more:List Row}{af:List (OKey×V)}(o:Ok bs.length rows)(h:Known u bs z rows af):Known u bs z (rows++more) af:=λt st v hv=>let ⟨k,e,tl,ld⟩:=h t st v hv;⟨k,e,tl,ld.app o⟩
theorem Vs{x:Addr}{t:Nat}{st:StO}(hx:H x=uA (.tup [.int (t:Int),.ref b]))(hb:StAt K H b st):OAt K H (keyC t st) x:=⟨b,hx,hb⟩
structure Rw(u:Wr)(P:AL)(w:AQ)(K:Ap)(R D:Addr)(bs:uJ)(z:Nat)(H:Hp)(rows:List Row)(af:List (OKey×V)):Prop where
 at_:∃xs,H R=uA (.lst xs)/\BI (K32s.rRow K H) rows xs
 dn:DO K P w H D af
 ok:Ok bs.length rows
 kn:Known u bs z rows af
 len:af.length<=rows.length
def Old(t:Nat)(af bh:List (OKey×V)):Prop:=∀(t':Nat) (st:StO),t'<t->valV bh (keyC t' st)=valV af (keyC t' st)
theorem ABS{u:Wr}{bs:uJ}{d t:Nat}{o:Option StO}(h:(o.bind λr=>passU u r (behP bs z t))=uB)(s:uL):semC u bs z d t o s=false:=by
 cases o with
 | none=>cases d<;>rfl
 | some r =>
  have h':passU u r (behP bs z t)=uB:=h;cases d with
  | zero=>show(match passU u r (behP bs z t) with| none=>false| some st=>_)=false;rw[h']
  | succ d=>show(match passU u r (behP bs z t) with| none=>false| some st=>_)=false;rw[h']
theorem Yq{u:Wr}{bs:uJ}{t:Nat}{o:Option StO}{st:StO}(h:(o.bind λr=>passU u r (behP bs z t))=uA st)(s:uL):semC u bs z 0 t o s=(u.fu st&&decide (s=[])):=by
 cases o with
 | none=>cases h
 | some r =>
  have h':passU u r (behP bs z t)=uA st:=h;show(match passU u r (behP bs z t) with| none=>false| some st=>u.fu st&&decide (s=[]))=_;rw[h']
theorem ACj{u:Wr}{bs:uJ}{d t:Nat}{o:Option StO}{st:StO}(h:(o.bind λr=>passU u r (behP bs z t))=uA st):semC u bs z (d+1) t o=stepO lefU (takU u bs) t (semC u bs z d (t+1)) st:=by
 funext s
 cases o with
 | none=>cases h
 | some r =>
  have h':passU u r (behP bs z t)=uA st:=h;show(match passU u r (behP bs z t) with| none=>false| some st=>stepO lefU (takU u bs) t (semC u bs z d (t+1)) st s)=_;rw[h']
def Wf:Sp:=λvs H Q _=>∃(r p b x:V),vs=[r,p,b,x]/\Q b H
def ACx(u:Wr)(K:Ap):Sp:=λvs H Q _=>∃(r p:V) (b:Addr) (st:StO),vs=[r,p,.ref b]/\StAt K H b st/\Q (.bl (u.fu st)) H
def Qc(u:Wr)(K:Ap)(C D:Addr):Sp:=λvs H Q _=>∃(a p b dx:Addr) (t z:Nat) (bs:uJ) (st:StO),vs=[.ref a,.ref p,.ref b,.int t]/\H a=uA (.ins D dx u.fl)/\WebAt K C H p z bs/\OkB z bs/\StAt K H b st/\u.vld z st/\u.pre st (ea bs t) (eb bs t)/\t<bs.length/\z<=10 /\
 ∀(v':V) (H':Hp),Same H H'->RS u K z H' v' (takU u bs t st)->Q v' H'
def NQ(u:Wr)(P:AL)(w:AQ)(K:Ap)(C Dc Gc:Addr)(d:Nat):Sp:=λvs H Q _=>∃(g W r Bh R D:Addr) (z t:Nat) (bs:uJ) (v:V) (o:Option StO) (rows:List Row) (af:List (OKey×V)) (G:Nat->Option StO->Prop),vs=[.ref g,.int t,v]/\t+d=bs.length/\Gr u K C Dc Gc g W r Bh R D z bs H/\1<=z/\z<=10/\bs.length<=12/\OkB z bs/\Good u bs z G/\G t o/\RS u K z H v o/\Rw u P w K R D bs z H rows af/\rows.length+2 ^ d<=4100 /\
 ∀(k:Nat) (more:List Row) (bh:List (OKey×V)) (H':Hp),(∀b o,b≠R->b≠D->H b=uA o->H' b=uA o)->Rw u P w K R D bs z H' (rows++more) bh->Lead (rows++more) t k (semC u bs z d t o)->Old t af bh->Cnt t more->more.length+1<=2 ^ d->Q (.int k) H'
section
variable{u:Wr}{bs:uJ}{rows:List Row}{af:List (OKey×V)}
theorem Rw.same(h:Rw u P w K R D bs z H rows af)(e:Same H H'):Rw u P w K R D bs z H' rows af:=by
 obtain⟨xs,h1,h2⟩:=h.at_;exact⟨⟨xs,e _ _ h1,u7 (λ_ _ r=>K32s.Cu _ _ _ _ e.ts r) h2⟩,h.dn.keep (λo=>e _ o) e.ts,h.ok,h.kn,h.len⟩
end
section
variable{u:Wr}
theorem Gu:FnScope ["self","number","reached","state","without","having"] zl25 (Ah Ko):=fscp (by decide+kernel)
theorem NP(d:Nat)(F:Fun K "knot_at" "Growth.knot_at" Ko f fd)(T:Txt K mg C)(cD:Cls K D)(O:Gro K mg Gc)
  (GP:FnOk P w K mg base CX0 4 fP g5 zl25 (Xb u K C D Gc)) (bP:Binds K g5 zl25 []) (mP:Meth K Gc "past_points" fP)
  (GL:FnOk P w K mg base CX0 1 fL qM zl11 Wf) (bL:Binds K qM zl11 []) (mL:Meth K D "left" fL)
  (GT:FnOk P w K mg base CX0 3 fT cE zl11 (Qc u K C D)) (bT:Binds K cE zl11 []) (mT:Meth K D "taken" fT)
  (GU:FnOk P w K mg base CX0 1 fU qA zl10 (ACx u K)) (bU:Binds K qA zl10 []) (mU:Meth K D "fulfilled" fU) (js:∀vs H Q E,d≠0->NQ u P w K C D Gc (d-1) vs H Q E->sp vs H Q E) (GK:FnOk P w K mg base CX0 (d+4) f fd zl25 sp) (bK:Binds K fd zl25 []) (mK:Meth K Gc "knot_at" f) :
  FnOk P w K mg base CX0 (d+5) f fd zl25 (NQ u P w K C D Gc d):=by
 refine F.ok Gu (λvs H Q E h=>?_) (λa7 A outer s H vs Q E hr h=>?_)
 .obtain⟨g,W,r,Bh,R,Dk,z,t,bs,v,o,rows,af,G,rfl,_⟩:=h
  rfl
 obtain⟨g,W,r,Bh,R,Dk,z,t,bs,v,o,rows,af,G,rfl,td,gr,z1,z10,b8,a8,gd,go,rs,rw0,r6,q⟩:=h;have bm:Room 1 _:=hr.mono (by lia);have c6:Room 2 _:=hr.mono (by lia);have mr:Room 3 _:=hr.mono (by lia);have kT:Room 4 _:=hr.mono vg;refine⟨_,Ad (Ak (i:=3) Gu.nd (CN (pv 0) O.cl mP GP kT bP .nil pass0 (Aa (pv 1) (Aa (pv 2) Ac))))
  (Ad (Bl (Ia (QF (pv 3))) (Ai (Ao Ag)) BJ)
  (Ad (Bl (Am DR (pv 1) (Bw (pv 0) rfl)) (Ai (Ao (MN (Ei (CN (Bw (pv 0) rfl) cD mU GU bm bU .nil pass0 (Aa (Bw (pv 0) rfl) (Aa (pv 3) Ac)))) Ag Ag))) BJ)
  (Hu (Bl (Ia (AAG (Br hr) (Cq (Aa (pv 1) (Aa (pv 3) Ac))) (Bw (pv 0) rfl)) rfl)
   (Ad (Ak (i:=4) Gu.nd (CN (pv 0) O.cl mK GK hr bK .nil pass0 (Aa (Az Cp (pv 1) Ag) (Aa (CN (Bw (pv 0) rfl) cD mL GL bm bL .nil pass0 (Aa (Bw (pv 0) rfl) (Aa (pv 3) (Aa (pv 1) Ac)))) Ac))))
   (Ad (Ak (i:=5) Gu.nd (CN (pv 0) O.cl mK GK hr bK .nil pass0 (Aa (Az Cp (pv 1) Ag) (Aa (CN (Bw (pv 0) rfl) cD mT GT mr bT .nil pass0 (Aa (Bw (pv 0) rfl) (Aa (pv 3) (Aa (pv 1) Ac)))) Ac))))
   (Ad (Cw (Hf C2 D7 D8 DP (Bw (pv 0) rfl) (Aa (Cq (Aa (pv 1) (Aa (pv 4) (Aa (pv 5) Ac)))) Ac)))
   (Ai (AEg (Br hr) (Bw (pv 0) rfl) (Cq (Aa (pv 1) (Aa (pv 3) Ac))) (Az Cp (Ax Ar rfl T.len Cn (Aa (Bw (pv 0) rfl) Ac)) Ag) rfl))))) BJ)
  (Ai (Ao (ADr (Br hr) (Bw (pv 0) rfl) (Cq (Aa (pv 1) (Aa (pv 3) Ac))) (λ_ _=>rfl))))))),?_⟩
 obtain⟨dg,hg⟩:=gr.ins;obtain⟨dr,dv⟩:=gr.rul;have p2:1<=2 ^ d:=S8;refine⟨_,rfl,g,dg,_,rfl,hg,rfl,_,rfl,_,rfl,g,W,r,Bh,R,Dk,z,t,bs,v,o,rfl,gr,z10,by lia,rs,λv' H1 s1 rs1=>?_⟩;have gr1:=gr.same s1;have rw1:=rw0.same s1;have hg1:=s1 _ _ hg;have i6:=s1 _ _ dv;cases e:(o.bind λr=>passU u r (behP bs z t)) with
 | none =>
  rw[e] at rs1;cases rs1;refine⟨_,rfl,_,rfl,iteT ?_⟩;exact q 0 [] af H1 (λb o _ _ e=>s1 _ _ e) (by rw[Co];exact rw1) (OJ (ABS e)) (λ_ _ _=>rfl) cnt_nil (by simpa using p2)
 | some st =>
  rw[e] at rs1;obtain⟨b,rfl,hb,sl⟩:=rs1;refine⟨_,rfl,_,rfl,iteF ?_⟩;refine⟨_,rfl,_,rfl,g,Gc,dg,_,_,rfl,hg1,O.cl,O.nA,PX _ _ _ _ _ _,rfl,_,rfl,?_⟩;by_cases d0:d=0
  .subst d0
   refine iteP (by rw[show t=bs.length by lia]) ?_;refine⟨_,rfl,g,Gc,dg,_,_,rfl,hg1,O.cl,O.nU,KZ _ _ _ _ _ _,r,dr,_,rfl,i6,u.nU,_,rfl,g,Gc,dg,_,_,rfl,hg1,O.cl,O.nW,RK _ _ _ _ _ _,_,rfl,_,_,b,st,rfl,hb,_,rfl,?_⟩;refine ite2 (λc=>?_) (λc=>?_)
   .exact q 1 [] af H1 (λb o _ _ e=>s1 _ _ e) (by rw[Co];exact rw1) (ACu λs=>by rw[Yq e,c,Bool.true_and]) (λ_ _ _=>rfl) cnt_nil (by simpa using p2)
   .exact q 0 [] af H1 (λb o _ _ e=>s1 _ _ e) (by rw[Co];exact rw1) (OJ λs=>by rw[Yq e,(UT _).mp c,VZ]) (λ_ _ _=>rfl) cnt_nil (by simpa using p2)
  .obtain⟨d',rfl⟩:∃d',d=d'+1:=⟨d-1,by lia⟩
   have tn:t<bs.length:=xw td;refine iteN (λz=>by injection z with z;lia) ?_;have pd:2 ^ (d'+1)=2 ^ d'+2 ^ d':=by rw[M3];exact wQ
   have pd1:1<=2 ^ d':=S8;refine⟨λσ' H'=>∃(o4 o5:Option V) (k:Nat) (more:List Row) (bh:List (OKey×V)),σ'=[uA (.ref g),uA (.int t),uA v,uA (.ref b),o4,o5]/\(∀b o,b≠R->b≠Dk->H b=uA o->H' b=uA o)/\Gr u K C D Gc g W r Bh R Dk z bs H'/\Rw u P w K R Dk bs z H' (rows++more) bh/\valV bh (keyC t st)=uA (.int k)/\Lead (rows++more) t k (semC u bs z (d'+1) t o)/\Old t af bh/\Cnt t more/\more.length+1<=2 ^ (d'+1)/\StAt K H' b st,?_,?_⟩
   .refine⟨_,rfl,_,rfl,(by show 2<=sizeLine;decide),λx hx=>?_⟩
    have sx:=u8 hx (.tup [.int (t:Int),.ref b]);have l9:=sx _ _ hg1;have tH:=rw1.same sx;have gr2:=gr1.same sx;have rH:StAt K (upd H1 x (.tup [.int (t:Int),.ref b])) b st:=sx.ts.seq hb;refine⟨_,rfl,g,Gc,dg,_,_,rfl,l9,O.cl,O.nK,LK _ _ _ _ _ _,Dk,valV af (keyC t st),rfl,⟨af,keyC t st,x,tH.dn,rfl,Vs Ab rH,rfl⟩,_,rfl,?_⟩;have s2:=s1.trans sx;cases ev:valV af (keyC t st) with
    | some v0 =>
     obtain⟨k,rfl,_,ld⟩:=rw0.kn t st v0 ev;refine iteF ⟨_,_,k,[],af,rfl,λb o _ _ e=>s2 _ _ e,gr2,by rw[Co];exact tH,ev,?_,λ_ _ _=>rfl,cnt_nil,by simp;exact p2,rH⟩;rw[Co,ACj e,show d'=bs.length-1-t by lia];exact ld
    | none =>
     refine iteT ?_;have hr2':=sx _ _ i6;have e1:((t:Int)+1)=((t+1:Nat):Int):=by lia
     refine⟨_,rfl,g,dg,_,rfl,l9,rfl,_,rfl,_,_,rfl,rfl,_,rfl,g,Gc,dg,_,_,rfl,l9,O.cl,O.nU,KZ _ _ _ _ _ _,r,dr,_,rfl,hr2',u.nL,_,rfl,g,Gc,dg,_,_,rfl,l9,O.cl,O.nW,RK _ _ _ _ _ _,_,rfl,_,rfl,_,_,_,_,rfl,?_⟩;refine js _ _ _ _ wV ⟨g,W,r,Bh,R,Dk,z,t+1,bs,.ref b,uA st,rows,af,G,congrArg (λi=>[V.ref g,V.int i,V.ref b]) e1,xY td,gr2,z1,z10,b8,a8,gd,(gd t o st tn go e).2.1,⟨b,rfl,rH,sl⟩,tH,by rw[EU];lia,λk1 bX kvs1 H3 kp3 rC ld1 t9 cnt1 ml1=>?_⟩;rw[EU] at ld1 ml1;obtain⟨xs2,qq,_⟩:=id tH.at_;obtain⟨_,_,ax2,ke,_⟩:=id tH.dn;have qL:=gr2.keep kp3 qq ke;have ts3:=tsRD kp3 qq ke;obtain⟨dg3,hg3⟩:=qL.ins;obtain⟨dr3,tY⟩:=qL.rul;have rh:StAt K H3 b st:=ts3.seq rH;refine⟨_,rfl,g,dg3,_,rfl,hg3,rfl,_,rfl,_,_,rfl,rfl,_,rfl,g,Gc,dg3,_,_,rfl,hg3,O.cl,O.nU,KZ _ _ _ _ _ _,r,dr3,_,rfl,tY,u.nT,_,rfl,g,Gc,dg3,_,_,rfl,hg3,O.cl,O.nW,RK _ _ _ _ _ _,_,rfl,_,rfl,r,W,b,dr3,t,z,bs,st,rfl,tY,qL.web,a8,rh,sl,(gd t o st tn go e).1,tn,z10,λv4 H4 s4 rs4=>?_⟩;have my:=rC.same s4;have gr4:=qL.same s4;refine js _ _ _ _ wV ⟨g,W,r,Bh,R,Dk,z,t+1,bs,v4,takU u bs t st,rows++bX,kvs1,G,congrArg (λi=>[V.ref g,V.int i,v4]) e1,xY td,gr4,z1,z10,b8,a8,gd,(gd t o st tn go e).2.2,rs4,my,by rw[EU,AZ];lia,λk2 ce oB H5 kp5 qf ld2 i5 cnt2 ml2=>?_⟩;rw[EU] at ld2 ml2;obtain⟨xs4,ig,_⟩:=id my.at_;obtain⟨_,_,ax4,tw,_⟩:=id my.dn;have gr5:=gr4.keep kp5 ig tw;have ts5:=tsRD kp5 ig tw;obtain⟨dg5,hg5⟩:=gr5.ins;have hb5:StAt K H5 b st:=ts5.seq (s4.ts.seq rh);obtain⟨f8,g6,px5⟩:=id qf.at_;obtain⟨_,_,ax5,ir,_⟩:=id qf.dn;have lx5:=AV px5;refine⟨_,rfl,g,Gc,dg5,_,_,rfl,hg5,O.cl,O.nR,RV _ _ _ _ _ _,.inl ⟨rfl,_,uy g6⟩,_,rfl,_,rfl,_,rfl,(by show 3<=sizeLine;decide),λy hy=>?_⟩;have sy:=u8 hy (.tup [.int (t:Int),.int (k1:Int),.int (k2:Int)]);have l5:f8.length<=4100:=by
      rw[<- lx5];simp only[AZ];lia
     refine⟨R,_,_,rfl,rfl,sy _ _ g6,smallN (wK l5),?_⟩;obtain⟨ok6,ld6⟩:=Zx (lef:=lefU) (tak:=takU u bs) (g:=semC u bs z d' (t+1)) (st:=st) qf.ok tn (ld1.app rC.ok) ld2;have RD:=DQ g6 ir (by intro z;cases z);have gR:=DQ hg5 g6 (by intro z;cases z);have sj:=sy _ _ g6;have tl6:=u6 (o:=.lst (f8++[.ref y])) sj;have k6:∀c o,c≠R->H5 c=uA o->(upd (upd H5 y (.tup [.int (t:Int),.int (k1:Int),.int (k2:Int)])) R (.lst (f8++[.ref y]))) c=uA o:=λc o h e=>by rw[Af h];exact sy _ _ e
     have uo:=gr5.keep (H':=upd (upd H5 y (.tup [.int (t:Int),.int (k1:Int),.int (k2:Int)])) R (.lst (f8++[.ref y]))) (λc o h _ e=>k6 c o h e) g6 ir;have dn6:=qf.dn.keep (H':=upd (upd H5 y (.tup [.int (t:Int),.int (k1:Int),.int (k2:Int)])) R (.lst (f8++[.ref y]))) (λo=>k6 _ o (Cb RD)) (sy.ts.trans tl6);have rR:StAt K (upd (upd H5 y (.tup [.int (t:Int),.int (k1:Int),.int (k2:Int)])) R (.lst (f8++[.ref y]))) b st:=(sy.ts.trans tl6).seq hb5;have kS:(upd (upd H5 y (.tup [.int (t:Int),.int (k1:Int),.int (k2:Int)])) R (.lst (f8++[.ref y]))) R=uA (.lst (f8++[.ref y])):=Ab;have px6:BI (K32s.rRow K (upd (upd H5 y (.tup [.int (t:Int),.int (k1:Int),.int (k2:Int)])) R (.lst (f8++[.ref y])))) (rows++bX++ce++[(t,k1,k2)]) (f8++[.ref y]):=by
      refine u4 (u7 (λ_ _ c=>K32s.Cu _ _ _ _ (sy.ts.trans tl6) c) px5) (u5 ⟨y,rfl,uz ?_⟩);rw[Af (DQ Ab sj (by intro z;cases z))];exact Ab
     generalize upd (upd H5 y (.tup [.int (t:Int),.int (k1:Int),.int (k2:Int)])) R (.lst (f8++[.ref y]))=H6 at k6 uo dn6 rR kS px6;obtain⟨dg6,hg6⟩:=uo.ins;obtain⟨_,_,ax6,ls,_⟩:=id dn6;have new:valV oB (keyC t st)=uB:=by rw[i5 t st vE,t9 t st vE,ev]
     have sq:=qf.len;refine⟨_,rfl,g,Gc,dg6,_,_,rfl,hg6,O.cl,O.nR,RV _ _ _ _ _ _,R,_,rfl,.inl (uy kS),_,_,rfl,rfl,_,rfl,g,Gc,dg6,_,_,rfl,hg6,O.cl,O.nK,LK _ _ _ _ _ _,_,rfl,_,rfl,(by show 2<=sizeLine;decide),λu hu=>?_⟩;have su:=u8 hu (.tup [.int (t:Int),.ref b]);refine⟨Dk,oB,keyC t st,u,rfl,rfl,dn6.keep (λo=>su _ o) su.ts,Vs Ab (su.ts.seq rR),new,smallN (by rw[lx5] at sq;lia),λH9 oth dn9=>?_⟩;have kl:(((f8++[V.ref y]).length:Nat):Int)+1=(((rows++bX++ce).length+2:Nat):Int):=by
      rw[AZ,Eg,<- lx5];lia
     rw[show(λ(i j:Int)=>V.int (i+j)) (((f8++[V.ref y]).length:Nat):Int) 1=V.int (((rows++bX++ce).length+2:Nat):Int) from congrArg V.int kl] at dn9;have k9:∀c o,c≠Dk->H6 c=uA o->H9 c=uA o:=λc o h e=>by rw[oth c h];exact su _ _ e
     have eas:rows++(bX++ce++[(t,k1,k2)])=rows++bX++ce++[(t,k1,k2)]:=by simp only[CU]
     have ts9:=tsRD (R:=R) (D:=Dk) (λc o _ h e=>k9 c o h e) kS ls;refine⟨_,_,(rows++bX++ce).length+2,bX++ce++[(t,k1,k2)],putK oB (keyC t st) (.int (((rows++bX++ce).length+2:Nat):Int)),rfl,λc o h1 h2 e=>?_,?_,?_,?_,?_,?_,ADQ cnt1 cnt2,?_,ts9.seq rR⟩
     .exact k9 _ _ h2 (k6 _ _ h1 (kp5 _ _ h1 h2 (s4 _ _ (kp3 _ _ h1 h2 (s2 _ _ e)))))
     .exact uo.keep (λc o _ h e=>k9 c o h e) kS ls
     .rw[eas]
      refine⟨⟨_,k9 _ _ RD kS,u7 (λ_ _ c=>K32s.Cu _ _ _ _ ts9 c) px6⟩,dn9,ok6,λt' ah v' kQ=>?_,?_⟩
      .rw[Ey] at kQ
       by_cases c:keyC t' ah=keyC t st
       .rw[uD c] at kQ
        cases kQ;obtain⟨rfl,rfl⟩:=Tt c;refine⟨_,rfl,tn,?_⟩;rw[show bs.length-1-t'=d' by lia];exact ld6
       .rw[uC c] at kQ
        exact(qf.kn.app qf.ok) t' ah v' kQ
      .rw[JV _ new,AZ,Eg,AZ,Eg]
       exact vD sq
     .rw[Ey,uD rfl]
     .rw[eas,ACj e]
      exact ld6
     .intro t' ah lt
      rw[Ey,uC (λc=>by have:=(Tt c).1;exact vq lt this),i5 t' ah (vb lt),t9 t' ah (vb lt)]
     .simp only[AZ,Eg]
      lia
   .rintro σ H6 ⟨o4,o5,k,more,bh,rfl,kp,uo,rw6,val,ld,b6,cnt,ml,rR⟩
    obtain⟨dg6,hg6⟩:=uo.ins;refine⟨_,rfl,g,Gc,dg6,_,_,rfl,hg6,O.cl,O.nK,LK _ _ _ _ _ _,_,rfl,_,rfl,(by show 2<=sizeLine;decide),λy hy=>?_⟩;have sy:=u8 hy (.tup [.int (t:Int),.ref b]);exact⟨Dk,.int k,rfl,⟨bh,keyC t st,y,rw6.dn.keep (λo=>sy _ o) sy.ts,rfl,Vs Ab (sy.ts.seq rR),val⟩,q k more bh _ (λc o h1 h2 e=>sy _ _ (kp c o h1 h2 e)) (rw6.same sy) ld b6 cnt ml⟩
end
def Xw(u:Wr)(P:AL)(w:AQ)(K:Ap)(C Dc Gc:Addr):Sp:=λvs H Q _=>∃(g dx W r dr:Addr) (z:Nat) (bs:uJ),vs=[.ref g,.ref W,.ref r]/\H g=uA (.ins Gc dx [])/\W≠g/\r≠g/\WebAt K C H W z bs/\H r=uA (.ins Dc dr u.fl)/\z<=10/\bs.length<=12 /\
 ∀(Bh R D:Addr) (H':Hp),(∀b o,H b=uA o->b≠g->H' b=uA o)->Gr u K C Dc Gc g W r Bh R D z bs H'->Rw u P w K R D bs z H' [] []->H R=none->H D=none->Q .non H'
section
variable{u:Wr}
theorem AFX:FnScope zl8 zl8 (Ah QS):=fscp (by decide+kernel)
theorem Ss(F:Fun K "__init__" "Growth.__init__" QS f fd)(T:Txt K mg C)(O:Gro K mg Gc)
  (GT:FnOk P w K mg base CX0 1 fT cE zl3 (Qf K C)) (bT:Binds K cE zl3 []) (mT:Meth K C "ties" fT)
  (GB:Cal P w K mg base 2 fB qZ "points_behind" zl5 (ACs K C)) :
  FnOk P w K mg base CX0 3 f fd zl8 (Xw u P w K C D Gc):=by
 refine F.ok AFX (λvs H Q E h=>?_) (λa7 A outer s H vs Q E hr h=>?_)
 .obtain⟨g,dx,W,r,dr,z,bs,rfl,_⟩:=h
  rfl
 obtain⟨g,dx,W,r,dr,z,bs,rfl,hg,Wg,rg,hW,dv,z10,b8,q⟩:=h;have bm:Room 1 _:=hr.mono (by decide);refine⟨_,Ad (Eu (pv 0) (pv 1) rfl)
  (Ad (Eu (pv 0) (pv 2) rfl)
  (Ad (Eu (pv 0) (Ax Ar rfl T.len Cn (Aa (CW (pv 1) T.cl mT GT bm bT .nil pass0) Ac)) rfl)
  (Ad (Eu (pv 0) (Bq (Ah QS) ["number"] ["web"] [1] rfl rfl (by decide+kernel) ⟨⟨rfl,by decide+kernel⟩,trivial⟩ (Cv rfl T.range (Aa (Az Cp (Bw (pv 0) rfl) Ag) Ac))
   (λ_ _ _=>BK (i:=0)) (λ_ _ _=>DY)
   (λ_ _ _=>BP GB hr rfl (Aa (pv 1) (Aa (pv 0) Ac)))) rfl)
  (Ad (Eu (pv 0) (Bm Ac) rfl)
  (Ai (Eu (pv 0) ABz rfl)))))),?_⟩
 have tsI:∀{H0:Hp}{fs gs:List (Str×V)},H0 g=uA (.ins Gc dx fs)->TSm H0 (upd H0 g (.ins Gc dx gs)):=λ{H0 fs gs} hP b u hb t=>by
  rw[Af ?_]
  .exact hb
  .rintro rfl
   rw[hP] at hb;cases hb;obtain⟨ys,e| ⟨o,e⟩⟩:=t
   .cases e
   .cases e
 refine⟨_,rfl,_,rfl,g,Gc,dx,[],rfl,hg,O.cl,O.nW,(by decide),?_⟩;refine⟨_,rfl,_,rfl,g,Gc,dx,_,rfl,Ab,O.cl,O.nU,(by show 1<1000;decide),?_⟩;rw[Hw];have k1:∀b o,b≠g->H b=uA o->(upd H g (.ins Gc dx (putF "rule" (.ref r) (putF "web" (.ref W) [])))) b=uA o:=λb o h e=>by rw[Af h];exact e
 have ts1:=tsI (gs:=putF "rule" (.ref r) (putF "web" (.ref W) [])) hg;have g1:(upd H g (.ins Gc dx (putF "rule" (.ref r) (putF "web" (.ref W) [])))) g=uA (.ins Gc dx (putF "rule" (.ref r) (putF "web" (.ref W) []))):=Ab;generalize upd H g (.ins Gc dx (putF "rule" (.ref r) (putF "web" (.ref W) [])))=H1 at k1 ts1 g1;have tQ:WebAt K C H1 W z bs:=by
  obtain⟨d,j,a1,a2⟩:=hW;exact⟨d,j,k1 _ _ Wg a1,Aq (Aq Aw) _ _ _ _ ts1 a2⟩
 obtain⟨dw,jw,hw1,_⟩:=id tQ;refine⟨_,rfl,W,dw,_,rfl,hw1,rfl,W,z,bs,rfl,tQ,λl H2 s2 hl hL=>?_⟩;obtain⟨l',ts,el,hX,px⟩:=hL;cases el;have lt:=(AV px).symm;refine⟨l,_,rfl,.inl hX,_,rfl,g,Gc,dx,_,rfl,s2 _ _ g1,O.cl,O.nA,(by show 2<1000;decide),?_⟩;have g2:=s2 _ _ g1;rw[lt];have k3:∀b o,b≠g->H b=uA o->(upd H2 g (.ins Gc dx (putF "amount" (.int (bs.length:Nat)) (putF "rule" (.ref r) (putF "web" (.ref W) []))))) b=uA o:=λb o h e=>by rw[Af h];exact s2 _ _ (k1 b o h e)
 have ts3:=ts1.trans (s2.ts.trans (tsI (gs:=putF "amount" (.int (bs.length:Nat)) (putF "rule" (.ref r) (putF "web" (.ref W) []))) g2));have g3:(upd H2 g (.ins Gc dx (putF "amount" (.int (bs.length:Nat)) (putF "rule" (.ref r) (putF "web" (.ref W) []))))) g=uA (.ins Gc dx (putF "amount" (.int (bs.length:Nat)) (putF "rule" (.ref r) (putF "web" (.ref W) [])))):=Ab;generalize upd H2 g (.ins Gc dx (putF "amount" (.int (bs.length:Nat)) (putF "rule" (.ref r) (putF "web" (.ref W) []))))=H3 at k3 ts3 g3;have rW:WebAt K C H3 W z bs:=by
  obtain⟨d,j,a1,a2⟩:=hW;exact⟨d,j,k3 _ _ Wg a1,Aq (Aq Aw) _ _ _ _ ts3 a2⟩
 refine⟨_,rfl,g,Gc,dx,_,_,rfl,g3,O.cl,O.nA,(by rw[Aj,uD rfl]),_,_,rfl,rfl,_,rfl,by lia,by lia,λBh hBh=>?_⟩;refine Ci (lo:=0) (n:=(((bs.length:Nat):Int)+1).toNat) (λj τ H4=>∃(o:Option V) (ys:List V),τ=[o,uA (.ref W)]/\Same H3 H4/\H4 Bh=uA (.lst ys)/\BI (λt v=>∃l,v=.ref l/\l≠Bh/\H4 l=uA (.lst (nI (behP bs z t)))) (AW j) ys) ⟨uB,[],rfl,u8 hBh _,Ab,.nil⟩ ?_ ?_
 .rintro j τ H4 hj ⟨o,ys,rfl,s4,eB,pB⟩
  have ej:(0:Int)+j=(j:Int):=vp;rw[ej];have ly:=AV pB;rw[CB] at ly;refine yesN ⟨_,rfl,_,rfl,W,j,z,bs,rfl,rW.same s4,z10,b8,λm H5 s5 hm em=>?_⟩;have GB.m:m≠Bh:=λz=>by rw[z,eB] at hm;cases hm
  refine⟨_,s5 _ _ eB,Ay (by lia),_,_,rfl,λb o e=>?_,Ab,?_⟩
  .rw[Af (Ae e hBh)]
   exact s5 _ _ (s4 b o e)
  .rw[FM]
   refine u4 (u7 (by rintro t v ⟨l,e1,e2,e3⟩;exact⟨l,e1,e2,by rw[Af e2];exact s5 _ _ e3⟩) pB) (u5 ⟨m,rfl,GB.m,by rw[Af GB.m];exact em⟩)
 rintro τ H4 ⟨o,ys,rfl,s4,eB,pB⟩;rw[show(((bs.length:Nat):Int)+1).toNat=bs.length+1 by lia] at pB;have g4:=s4 _ _ g3;have gB:Bh≠g:=λz=>by rw[z,g4] at eB;cases eB
 refine⟨_,rfl,g,Gc,dx,_,rfl,g4,O.cl,O.nB,(by show 3<1000;decide),?_⟩;have nBH:H Bh=uB:=by
  cases e:H Bh with
  | none=>rfl
  | some o=>have:=k3 _ _ gB e;rw[hBh] at this;cases this
 refine⟨AY _,λR hR=>?_⟩;have gR:R≠g:=λz=>by rw[z,Ab] at hR;cases hR
 have i7:H4 R=uB:=by rw[Af gR] at hR;exact hR
 have BR:=Ae eB i7;refine⟨_,rfl,g,Gc,dx,_,rfl,by rw[Af (Cb gR)];exact Ab,O.cl,O.nR,(by show 4<1000;decide),?_⟩;refine λDk hD dn0=>?_;have gD:Dk≠g:=λz=>by rw[z,Ab] at hD;cases hD
 have RD:Dk≠R:=λz=>by rw[z,Af gR,Ab] at hD;cases hD
 have hD4:H4 Dk=uB:=by rw[Af gD,Af RD,Af gD] at hD;exact hD
 refine⟨_,rfl,g,Gc,dx,_,rfl,by rw[Af (Cb gD)];exact Ab,O.cl,O.nK,(by show 5<1000;decide),?_⟩;have fin:∀b o,b≠g->H4 b=uA o->(upd (upd (upd (upd (upd H4 g (.ins Gc dx (putF "behind" (.ref Bh) (putF "amount" (.int (bs.length:Nat)) (putF "rule" (.ref r) (putF "web" (.ref W) [])))))) R (.lst [])) g (.ins Gc dx (putF "rows" (.ref R) (putF "behind" (.ref Bh) (putF "amount" (.int (bs.length:Nat)) (putF "rule" (.ref r) (putF "web" (.ref W) []))))))) Dk (dO P w Dk [])) g (.ins Gc dx (gf W r (bs.length:Nat) Bh R Dk))) b=uA o:=λb o h e=>by
  rw[Af h,Af (Ae e hD4),Af h,Af (Ae e i7),Af h];exact e
 have fT:TSm H4 (upd (upd (upd (upd (upd H4 g (.ins Gc dx (putF "behind" (.ref Bh) (putF "amount" (.int (bs.length:Nat)) (putF "rule" (.ref r) (putF "web" (.ref W) [])))))) R (.lst [])) g (.ins Gc dx (putF "rows" (.ref R) (putF "behind" (.ref Bh) (putF "amount" (.int (bs.length:Nat)) (putF "rule" (.ref r) (putF "web" (.ref W) []))))))) Dk (dO P w Dk [])) g (.ins Gc dx (gf W r (bs.length:Nat) Bh R Dk))):=λb u hb t=>fin b u (λz=>by
  rw[z,g4] at hb;cases hb;obtain⟨ys,e| ⟨o,e⟩⟩:=t
  .cases e
  .cases e) hb
 have b6:∀x,x≠g->H4 x=none->H x=uB:=λx h n=>by
  cases e:H x with
  | none=>rfl
  | some o=>have:=s4 _ _ (k3 _ _ h e);rw[n] at this;cases this
 refine q Bh R Dk _ (λb o e h=>fin b o h (s4 _ _ (k3 b o h e))) ⟨⟨dx,Ab⟩,?_,⟨dr,fin _ _ rg (s4 _ _ (k3 _ _ rg dv))⟩,⟨ys,fin _ _ gB eB,BR,u7 (by rintro t v ⟨l,e1,e2,e3⟩;exact⟨l,e1,Ae e3 i7,fin _ _ (λz=>by rw[z,g4] at e3;cases e3) e3⟩) pB⟩⟩ ?_ (b6 R gR i7) (b6 Dk gD hD4)
 .obtain⟨d,j,a1,a2⟩:=rW.same s4
  exact⟨d,j,fin _ _ Wg a1,Aq (Aq Aw) _ _ _ _ fT a2⟩
 .refine⟨⟨[],by rw[Af gR,Af (Cb RD),Af gR,Ab],.nil⟩,dn0.keep (λo e=>by rw[Af gD];exact e) (tsI (fs:=_) (by rw[Af (Cb gD)];exact Ab)),λi r h=>(by simp at h),λt st v hv=>(by cases hv),AF _⟩
end
section
variable{u:Wr}
theorem Jr{fP fL fT fU:Addr}{g5 qM cE qA:Bn}(F:Fun K "knot_at" "Growth.knot_at" Ko f fd)(T:Txt K mg C)(cD:Cls K D)(O:Gro K mg Gc)
  (GP:FnOk P w K mg base CX0 4 fP g5 zl25 (Xb u K C D Gc)) (bP:Binds K g5 zl25 []) (mP:Meth K Gc "past_points" fP)
  (GL:FnOk P w K mg base CX0 1 fL qM zl11 Wf) (bL:Binds K qM zl11 []) (mL:Meth K D "left" fL)
  (GT:FnOk P w K mg base CX0 3 fT cE zl11 (Qc u K C D)) (bT:Binds K cE zl11 []) (mT:Meth K D "taken" fT)
  (GU:FnOk P w K mg base CX0 1 fU qA zl10 (ACx u K)) (bU:Binds K qA zl10 []) (mU:Meth K D "fulfilled" fU)
  (bK:Binds K fd zl25 []) (mK:Meth K Gc "knot_at" f):∀d,FnOk P w K mg base CX0 (d+5) f fd zl25 (NQ u P w K C D Gc d)
 | 0=>NP 0 F T cD O GP bP mP GL bL mL GT bT mT GU bU mU (sp:=λ_ _ _ _=>False) (λ_ _ _ _ h=>uH rfl h) (F.ok Gu (λvs H Q E h=>E8 h) (λa7 A outer s H vs Q E hr h=>E8 h)) bK mK
 | d+1=>NP (d+1) F T cD O GP bP mP GL bL mL GT bT mT GU bU mU (sp:=NQ u P w K C D Gc d) (λ_ _ _ _ _ h=>h) (Jr F T cD O GP bP mP GL bL mL GT bT mT GU bU mU bK mK d) bK mK
end
end K32
namespace L2
open PySem
def rO:Rep (Option Int):=λ_ c v=>v=oV c
theorem ABJ{a b:Option Int}(h:oV a=oV b):a=b:=by
 cases a<;>cases b<;>first| rfl| (cases h;done)| (injection h with h;rw[h])
theorem QG:Dat X 0 rO where
 eq:=λaa s σ H A a b x y u v I hu ha hb ru rv=>by
  cases ha;cases hb;cases a with
  | none =>
   cases ru;cases b with
   | none =>
    cases rv;rw[uE rfl];exact MU .none
   | some j =>
    obtain⟨t,rfl⟩:=rv;rw[uF (by intro z;cases z)];exact Nl j t
  | some i =>
   obtain⟨t,rfl⟩:=ru;cases b with
   | none =>
    cases rv;rw[uF (by intro z;cases z)];exact No i t
   | some j =>
    obtain⟨t',rfl⟩:=rv;have e:=LG (A:=A) (s:=s) i t j t';rw[ME] at e;rw[show decide ((uA i:Option Int)=uA j)=decide (i=j) from decide_eq_decide.mpr ⟨AN,λz=>by rw[z]⟩];exact e
 fn:=λaa s σ H a b x I ha hb=>ABJ (ha.symm.trans hb)
theorem La{H:Hp}:∀(st:List (Option Int)),BI (rO H) st (st.map oV)
 | []=>.nil
 | c::st=>.cons rfl (La st)
end L2
namespace K32
open PySem L2 G
structure Dn(K:Ap)(mg:Str->Option As)(a:Addr):Prop where
 mgD:mg "DONE" = uA (.ref a)
 at_:∀H,SqT K H a []
theorem Vq{st:StO}(h:StAt K H b st):rTup K rO H st (.ref b):=⟨b,_,rfl,h,La st⟩
theorem Jj{st:StO}{p:Nat}(h:p<st.length):atI (st.map oV) (p:Int)=uA (oV (st.getD p uB)):=Bg (by rw[AS,AD,AI h];rfl)
theorem AFe(c:Option Int):flatV (oV c)=true:=by cases c<;>rfl
theorem AFv(c:Option Int)(p:Nat):inV (oV c) [V.non,V.int (p:Int)]=decide (c=uB\/c=uA (p:Int)):=by
 cases c with
 | none=>rfl
 | some i =>
  show(eqV .non (.int i)||(eqV (.int (p:Int)) (.int i)||false))=_;have e1:eqV .non (.int i)=false:=rfl;have e2:eqV (.int (p:Int)) (.int i)=decide ((p:Int)=i):=by
   first
    | rfl
    | (unfold eqV;rw[ME])
  rw[e1,e2,WO,WV];refine decide_eq_decide.mpr ⟨λh=>.inr (by rw[h]),λh=>?_⟩;rcases h with h| h
  .cases h
  .injection h with h
   exact h.symm
structure NoF(fl:List (Str×V)):Prop where
 nP:fl.lookup ("passed" : Str)=uB
 nL:fl.lookup ("left" : Str)=uB
 nT:fl.lookup ("taken" : Str)=uB
 nU:fl.lookup ("fulfilled" : Str)=uB
 nB:fl.lookup ("begun" : Str)=uB
 nM:fl.lookup ("may_stay" : Str)=uB
 nC:fl.lookup ("closed" : Str)=uB
 nR:fl.lookup ("refuse_web" : Str)=uB
noncomputable def uS(rd:Bool)(fl:List (Str×V))(h:NoF fl):Wr:=⟨passR1 rd,takeR rd,λst=>decide (st=[]),λ_ _ _=>True,VldS,fl,h.nP,h.nL,h.nT,h.nU,h.nB⟩
def QD(rd:Bool)(K:Ap):Sp:=λvs H Q _=>∃(a:V) (b:Addr) (p:Nat) (st:StO),vs=[a,.ref b,.int p]/\StAt K H b st/\p<st.length/\∀H',Same H H'->Q (.bl (stayR rd st p)) H'
section
variable{hf:NoF fl}
theorem AFw:FnScope zl9 zl9 (Ah ACg):=fscp (by decide+kernel)
theorem AEU(F:Fun K "may_stay" "Strands.may_stay" ACg f fd):FnOk P w K mg base CX0 1 f fd zl9 (QD false K):=by
 refine F.ok AFw (λvs H Q E h=>?_) (λa7 A outer s H vs Q E hr h=>?_)
 .obtain⟨a,b,p,st,rfl,_⟩:=h
  rfl
 obtain⟨a,b,p,st,rfl,hb,pl,q⟩:=h;refine⟨_,Ai (Ao (Cr Eo (Av BW (pv 1) (pv 2)) (Cq (Aa Ib (Aa (pv 2) Ac))) rfl)),?_⟩;refine⟨_,rfl,_,rfl,b,_,_,_,rfl,rfl,hb,Jj pl,_,rfl,(by show 2<=sizeLine;decide),λt ht=>?_⟩;refine⟨t,_,rfl,.inr (uz Ab),AFe _,rfl,?_⟩;rw[uC (by decide),AFv];have e:stayR false st p=decide (st.getD p uB=uB\/st.getD p uB=uA (p:Int)):=decide_eq_decide.mpr (or_congr_right ⟨λh=>h.2,λh=>⟨rfl,h⟩⟩);rw[<- e];exact q _ (u8 ht _)
theorem ADt:FnScope zl9 zl9 (Ah Wa):=fscp (by decide+kernel)
theorem ADh(F:Fun K "may_stay" "Rounds.may_stay" Wa f fd):FnOk P w K mg base CX0 1 f fd zl9 (QD true K):=by
 refine F.ok ADt (λvs H Q E h=>?_) (λa7 A outer s H vs Q E hr h=>?_)
 .obtain⟨a,b,p,st,rfl,_⟩:=h
  rfl
 obtain⟨a,b,p,st,rfl,hb,pl,q⟩:=h;refine⟨_,Ai (Ao (AGY (QF (Av BW (pv 1) (pv 2))))),?_⟩;refine⟨_,rfl,_,rfl,b,_,_,_,rfl,rfl,hb,Jj pl,?_⟩;have e:stayR true st p=decide (oV (st.getD p uB)=.non):=decide_eq_decide.mpr ⟨λh=>by rw[h.resolve_right λh=>O7 h.1];rfl,λh=>.inl (ABJ (b:=uB) h)⟩;show Q (.bl (decide (oV (st.getD p uB)=.non))) H;rw[<- e];exact q _ (u3 _)
theorem AHb:FnScope zl10 zl10 (Ah AFG):=fscp (by decide+kernel)
theorem ADN(F:Fun K "fulfilled" "Strands.fulfilled" AFG f fd)(N:Dn K mg da):FnOk P w K mg base CX0 1 f fd zl10 (ACx (uS rd fl hf) K):=by
 refine F.ok AHb (λvs H Q E h=>?_) (λa7 A outer s H vs Q E hr h=>?_)
 .obtain⟨r,p,b,st,rfl,_⟩:=h
  rfl
 obtain⟨r,p,b,st,rfl,hb,q⟩:=h;refine⟨_,Ai (Ao (Cr (RW QG (Br hr)) (pv 2) (FP (v:=.ref da) rfl N.mgD rfl))),?_⟩;exact⟨_,rfl,st,[],Vq hb,⟨da,[],rfl,N.at_ _,.nil⟩,q⟩
theorem AGi:FnScope zl11 zl11 (Ah YM):=fscp (by decide+kernel)
theorem Yd(F:Fun K "left" "Rule.left" YM f fd):FnOk P w K mg base CX0 1 f fd zl11 Wf:=by
 refine F.ok AGi (λvs H Q E h=>?_) (λa7 A outer s H vs Q E hr h=>?_)
 .obtain⟨r,p,b,x,rfl,_⟩:=h
  rfl
 obtain⟨r,p,b,x,rfl,q⟩:=h;exact⟨_,Ai (Ao (pv 2)),⟨_,rfl,q⟩⟩
theorem ACo:FnScope zl12 zl12 (Ah JR):=fscp (by decide+kernel)
theorem Px(F:Fun K "passed" "Strands.passed" JR f fd)(T:Txt K mg C)(cD:Cls K D)(N:Dn K mg da)(GA:FnOk P w K mg base CX0 1 fA dS zl9 (QD rd K))(bA:Binds K dS zl9 [])(mA:Meth K D "may_stay" fA) :
  FnOk P w K mg base CX0 3 f fd zl12 (Sy (uS rd fl hf) K D):=by
 refine F.ok ACo (λvs H Q E h=>?_) (λa7 A outer s H vs Q E hr h=>?_)
 .obtain⟨p,b,dx,a,q,z,st,rfl,_⟩:=h
  rfl
 obtain⟨p,b,dx,a,qp,z,st,rfl,ha,hb,vl,qz,z10,q⟩:=h;have bm:Room 1 _:=hr.mono (by decide);refine⟨_,Ad (Bl (Am (RW QG (Br hr)) (pv 2) (FP (v:=.ref da) rfl N.mgD rfl)) (Ai (Ao (pv 2))) BJ)
  (Ad (Bl (Ei (CN (pv 0) cD mA GA bm bA .nil pass0 (Aa (pv 2) (Aa (pv 3) Ac))))
   (Ai (Ao (Bb Bo rfl T.tuple Db (Aa (Bq (Ah JR) ["other","end"] ["point"] [3] rfl rfl (by decide+kernel) ⟨⟨rfl,by decide+kernel⟩,trivial⟩ (Vb rfl T.enum (Aa (pv 2) Ac))
    (λ_ _ _=>Hj (K:=K) (n:=2) rfl rfl (Bd (BK (i:=0)) (Bd (BK (i:=1)) Dp)))
    (λ_ _ _=>DY)
    (λ_ _ _=>MN (Am DR (pv 0) (pv 2)) Ib (pv 1))) Ac)))) BJ)
  (Ai (Ao Ib))),?_⟩
 refine⟨_,rfl,st,[],Vq hb,⟨da,[],rfl,N.at_ _,.nil⟩,_,rfl,?_⟩;by_cases c0:st=[]
 .refine iteP c0 ⟨_,rfl,q _ _ (u3 _) ?_⟩
  show RS (uS rd fl hf) K z H (.ref b) (passR1 rd st qp);unfold passR1;rw[uD c0];exact⟨b,rfl,hb,vl⟩
 refine iteN c0 ?_;have ln:=VldS.len vl|>.resolve_left c0
 have ql:qp<st.length:=dl qz ln;refine⟨_,rfl,a,dx,_,rfl,ha,hf.nM,_,rfl,_,rfl,.ref a,b,qp,st,rfl,hb,ql,λH1 s1=>⟨_,rfl,?_⟩⟩;have gp:StAt K H1 b st:=s1.ts.seq hb;refine ite2 (λc=>?_) (λc=>?_)
 .have e:passR1 rd st qp=uA (st.set qp uB):=by unfold passR1;rw[uC c0,uD c]
  have q:∀(v':V) (H':Hp),Same H H'->RS (uS rd fl hf) K z H' v' (passR1 rd st qp)->Q v' H':=q;rw[e] at q;refine⟨_,rfl,b,rfl,⟨_,gp⟩,λZ hZ=>?_⟩;refine Gf (xs:=st.map oV) (λi τ H2=>∃n t:Option V,τ=[n,t,uA (.int qp)]/\Same H1 H2/\H2 Z=uA (.lst (((st.set qp uB).take i).map oV))) ⟨uB,uB,rfl,u8 hZ _,Ab⟩ (by rintro i τ H2 _ ⟨_,_,_,sm,_⟩;exact sm.ts.seq gp) ?_ ?_
  .rintro i y τ H2 T1 hy eJ ⟨n,t,rfl,sm,eZ⟩
   obtain⟨v,hv,rfl⟩:∃v,st[i]?=uA v/\y=oV v:=by
    rw[AS] at hy;cases g:st[i]? with
    | none=>rw[g] at hy;cases hy
    | some v=>rw[g] at hy;cases hy;exact⟨v,rfl,rfl⟩
   have il:=(AH.mp hv).1;have s2:Same H2 (upd H2 T1 (.tup [.int i,oV v])):=u8 eJ _;refine⟨T1,_,rfl,uz Ab,rfl,_,_,rfl,_,_,rfl,rfl,yesD ?_⟩;have fin:∀u:Option Int,(st.set qp uB)[i]?=uA u->∃n t:Option V,[uA (.int (i:Int)),uA (oV v),uA (.int (qp:Int))]=[n,t,uA (V.int qp)]/\Same H1 (upd (upd H2 T1 (.tup [.int i,oV v])) Z (.lst (((st.set qp uB).take i).map oV++[oV u])))/\(upd (upd H2 T1 (.tup [.int i,oV v])) Z (.lst (((st.set qp uB).take i).map oV++[oV u]))) Z=uA (.lst (((st.set qp uB).take (i+1)).map oV)):=λu hu=>by
    refine⟨_,_,rfl,λb o e=>?_,?_⟩
    .rw[Af (Ae e hZ)]
     exact s2 _ _ (sm b o e)
    .rw[Ab,Ex,hu,BM]
     rfl
   have sl:(((st.set qp uB).take i).map oV).length<sizeLine:=Ay (by rw[AB,B0];lia);refine⟨_,rfl,_,rfl,rfl,_,rfl,?_⟩;refine ite2 (λe=>?_) (λe=>?_)
   .have e':i=qp:=by have:=uG e;injection this with this;exact uM this
    subst e';exact⟨_,s2 _ _ eZ,sl,fin uB (J9 il)⟩
   .have e':i≠qp:=λz=>e (uE (by rw[z]))
    exact⟨_,rfl,_,s2 _ _ eZ,sl,fin v (by rw[K2 (Cb e')];exact hv)⟩
  .rintro τ H2 ⟨n,t,rfl,sm,eZ⟩
   rw[AB,show st.length=(st.set qp uB).length by rw[ET],CM] at eZ;refine⟨Z,_,rfl,.inl ⟨uy eZ,λt ht=>?_⟩⟩;exact q _ _ (s1.trans (sm.trans (u8 ht _))) ⟨t,rfl,uz Ab,VldS.set vl qp uB (λi z=>by cases z)⟩
 .have e:passR1 rd st qp=uB:=by unfold passR1;rw[uC c0,uC c]
  have q:∀(v':V) (H':Hp),Same H H'->RS (uS rd fl hf) K z H' v' (passR1 rd st qp)->Q v' H':=q;rw[e] at q;exact q _ _ s1 rfl
end
theorem Rh{k:Nat}(h:k<n):ixN n (k:Int)=uA k:=by
 unfold ixN;simp;lia
def ACd(K:Ap):Sp:=λvs H Q _=>∃(b tq:Addr) (x y i j:Nat) (st:StO),vs=[.ref b,.ref tq]/\StAt K H b st/\SqT K H tq [.int (x:Int),.int (y:Int)]/\x<st.length/\y<st.length/\i<st.length/\j<st.length/\st.length<=11/\st.getD x uB=uA (i:Int)/\st.getD y uB=uA (j:Int) /\
 ∀(b':Addr) (H':Hp),Same H H'->StAt K H' b' (tiedS st x y)->Q (.ref b') H'
section
variable{hf:NoF fl}
theorem Qe:FnScope ["state","tie","ends","one","other"] zl26 (Ah ABY):=fscp (by decide+kernel)
theorem ADu(F:Fun K "strands_tied" "strands_tied" ABY f fd)(T:Txt K mg C):FnOk P w K mg base CX0 1 f fd zl26 (ACd K):=by
 refine F.ok Qe (λvs H Q E h=>?_) (λa7 A outer s H vs Q E hr h=>?_)
 .obtain⟨b,tq,x,y,i,j,st,rfl,_⟩:=h
  rfl
 obtain⟨b,tq,x,y,i,j,st,rfl,hb,ht,xl,yl,il,jl,mN,ex,ey,q⟩:=h;refine⟨_,Ad (Ak (i:=2) Qe.nd (Bb Dl rfl T.list E6 (Aa (pv 0) Ac)))
  (Ad (Ak (i:=3) Qe.nd (Av BW (pv 0) (Av BW (pv 1) Ag)))
  (Ad (Ak (i:=4) Qe.nd (Av BW (pv 0) (Av BW (pv 1) Ag)))
  (Ad (Jp Ib (Qz (pv 2) (Av BW (pv 1) Ag) set_list))
  (Ad (Jp Ib (Qz (pv 2) (Av BW (pv 1) Ag) set_list))
  (Ad (Jp (pv 4) (Qz (pv 2) (pv 3) set_list))
  (Ad (Jp (pv 3) (Qz (pv 2) (pv 4) set_list))
  (Ai (Ao (Bb Bo rfl T.tuple Db (Aa (pv 2) Ac)))))))))),?_⟩
 have gx:=Jj xl;have gy:=Jj yl;rw[ex] at gx;rw[ey] at gy;refine⟨_,rfl,b,_,rfl,.inr hb,λL hL=>?_⟩;have s1:=u8 hL (.lst (st.map oV));have gp:StAt K (upd H L (.lst (st.map oV))) b st:=s1.ts.seq hb;have lv:=s1.ts.seq ht;refine⟨_,rfl,_,rfl,tq,_,_,_,rfl,rfl,lv,at0,b,_,_,_,rfl,rfl,gp,gx,?_⟩;refine⟨_,rfl,_,rfl,tq,_,_,_,rfl,rfl,lv,at1,b,_,_,_,rfl,rfl,gp,gy,?_⟩;have ml:(st.map oV).length=st.length:=AB ..;refine⟨_,rfl,_,rfl,tq,_,_,_,rfl,rfl,lv,at0,L,_,_,x,rfl,rfl,Ab,Rh (by rw[ml];exact xl),?_⟩;have oq:=(u6 (o:=.lst ((st.map oV).set x .non)) (Ab (H:=H) (a:=L) (o:=.lst (st.map oV)))).seq lv;rw[Hw];rw[Hw] at oq;refine⟨_,rfl,_,rfl,tq,_,_,_,rfl,rfl,oq,at1,L,_,_,y,rfl,rfl,Ab,Rh (by rw[ET,ml];exact yl),?_⟩;rw[Hw];refine⟨_,rfl,_,rfl,_,rfl,L,_,_,i,rfl,rfl,Ab,Rh (by simp only[ET];rw[ml];exact il),?_⟩;rw[Hw];refine⟨_,rfl,_,rfl,_,rfl,L,_,_,j,rfl,rfl,Ab,Rh (by simp only[ET];rw[ml];exact jl),?_⟩;rw[Hw];refine⟨_,rfl,L,_,rfl,.inl ⟨uy Ab,λt ht=>?_⟩⟩;refine q t _ (λc o e=>?_) ?_
 .rw[Af (Ae (show(upd H L _) c=uA o by rw[Af (Ae e hL)];exact e) ht),Af (Ae e hL)]
  exact e
 .refine uz ?_
  rw[Ab];unfold tiedS;rw[ex,ey];dsimp only;rw[Cc,Cc,O8,O8,O8,O8];rfl
end
noncomputable def EY(st:StO)(x y j:Nat):uL:=(AW j).filter λp=>decide (p≠x/\p≠y)
def Tn(rd:Bool)(fl:List (Str×V))(hf:NoF fl)(K:Ap)(D:Addr):Sp:=λvs H Q _=>∃(a b tq dx:Addr) (x y z:Nat) (st:StO),vs=[.ref a,.ref b,.ref tq]/\H a=uA (.ins D dx fl)/\StAt K H b st/\SqT K H tq [.int (x:Int),.int (y:Int)]/\st.length<=11 /\
 ∀(v':V) (H':Hp),Same H H'->RS (uS rd fl hf) K z H' v' (JT rd st x y)->Q v' H'
section
variable{hf:NoF fl}
theorem Tr:FnScope ["self","state","tie","others"] zl27 (Ah Hy):=fscp (by decide+kernel)
theorem Ow(F:Fun K "closed" "Strands.closed" Hy f fd)(T:Txt K mg C)(cD:Cls K D)(bp:mg "all" = uB)(N:Dn K mg da)(GA:FnOk P w K mg base CX0 1 fA dS zl9 (QD rd K))(bA:Binds K dS zl9 [])(mA:Meth K D "may_stay" fA) :
  FnOk P w K mg base CX0 2 f fd zl27 (Tn rd fl hf K D):=by
 refine F.ok Tr (λvs H Q E h=>?_) (λa7 A outer s H vs Q E hr h=>?_)
 .obtain⟨a,b,tq,dx,x,y,z,st,rfl,_⟩:=h
  rfl
 obtain⟨a,b,tq,dx,x,y,z,st,rfl,ha,hb,ht,mN,q⟩:=h;refine⟨_,Ad (JM (i:=3) (Ah Hy) ["point"] ["tie"] [2] Tr.nd rfl (K8 rfl) rfl rfl (by decide+kernel) ⟨⟨rfl,by decide+kernel⟩,trivial⟩ (Cv rfl T.range (Aa (Ax Ar rfl T.len Cn (Aa (pv 1) Ac)) Ac))
   (λ_ _ _=>BK (i:=0))
   (λ_ _ _=>CK (Am (Ng (K:=K) rfl) (pv 0) (pv 1) rfl)) (λ_ _ _=>pv 0))
  (Ad (Bl (Ei (Ax (Gs rfl) rfl bp Q4 (Aa (Bq (Ah Hy) ["point"] ["self","state"] [0,1] rfl rfl (by decide+kernel) ⟨⟨rfl,by decide+kernel⟩,⟨rfl,by decide+kernel⟩,trivial⟩ (Bt (pv 3))
    (λ_ _ _=>BK (i:=0)) (λ_ _ _=>DY)
    (λ_ _ _=>CN (pv 1) cD mA GA hr bA .nil pass0 (Aa (pv 2) (Aa (pv 0) Ac)))) Ac))) (Ai (Ao (FP (v:=.ref da) rfl N.mgD rfl))) BJ)
  (Ai (Ao Ib))),?_⟩
 have ml:(st.map oV).length=st.length:=AB ..;refine⟨_,rfl,b,_,rfl,.inr hb,_,rfl,by lia,by rw[ml];lia,λZ hZ=>?_⟩;refine Ci (lo:=0) (n:=((((st.map oV).length:Nat):Int)).toNat) (λj τ H2=>∃o:Option V,τ=[o,uA (.ref tq)]/\Same H H2/\H2 Z=uA (.lst (nI (EY st x y j)))) ⟨uB,rfl,u8 hZ _,Ab⟩ ?_ ?_
 .rintro j τ H2 hj ⟨o,rfl,s2,eZ⟩
  have ej:(0:Int)+j=(j:Int):=vp;rw[ej];have jl:j<st.length:=by rw[ml] at hj;lia
  have lo:(EY st x y j).length<=j:=BY (Do ..) (by rw[CB];exact AF _);refine⟨_,rfl,_,rfl,tq,_,rfl,.inr (s2.ts.seq ht),rfl,rfl,_,rfl,?_⟩;have e:inV (V.int (j:Int)) [V.int (x:Int),V.int (y:Int)]=decide ((j:Int)∈[(x:Int),(y:Int)]):=Cz (j:Int) [(x:Int),(y:Int)];rw[uD rfl,e];by_cases c:j≠x/\j≠y
  .rw[uF (by intro z;simp at z;lia)]
   refine iteT ⟨_,rfl,_,eZ,Ay (by rw[Cy];lia),_,rfl,λb o e=>?_,?_⟩
   .rw[Af (Ae e hZ)]
    exact s2 b o e
   .rw[Ab]
    unfold EY;rw[FM,CL,De (by simpa using c)];unfold nI;rw[BM];rfl
  .rw[uE (by simp;lia)]
   refine iteF ⟨_,rfl,s2,?_⟩;unfold EY;rw[FM,CL,C3 (by simpa using c),Pw,Co];exact eZ
 .rintro τ H2 ⟨o,rfl,s2,eZ⟩
  rw[ml,Cc] at eZ;have ol:∀p∈EY st x y st.length,p<st.length:=λp hp=>A8.mp (BQ.mp hp).1;have lo:(EY st x y st.length).length<=st.length:=BY (Do ..) (by rw[CB];exact AF _);refine⟨_,rfl,Z,rfl,⟨_,uy eZ⟩,λY hY=>?_⟩;refine Bu (K:=K) (a:=Z) (xs:=nI (EY st x y st.length)) (λj τ H3=>∃o:Option V,τ=[o,uA (.ref a),uA (.ref b)]/\Same H2 H3/\H3 Y=uA (.lst ((((EY st x y st.length).take j).map (stayR rd st)).map V.bl))) ⟨uB,rfl,u8 hY _,Ab⟩ (by rintro j τ H3 _ ⟨_,_,s3,_⟩;exact s3.seq (uy eZ)) ?_ ?_
  .rintro j v τ H3 hv ⟨o,rfl,s3,eY⟩
   obtain⟨p,hp,rfl⟩:=Rb hv;have jl:=(AH.mp hp).1;have qi:=s2.trans s3;refine yesN ⟨_,rfl,a,dx,_,rfl,qi _ _ ha,hf.nM,_,rfl,_,rfl,.ref a,b,p,st,rfl,qi.ts.seq hb,ol p (AX hp),λH4 s4=>?_⟩;refine⟨_,s4 _ _ eY,Ay (by rw[AB,AB,B0];lia),_,rfl,λb o e=>?_,?_⟩
   .rw[Af (Ae e hY)]
    exact s4 _ _ (s3 b o e)
   .rw[Ab,Ex,hp,BM,BM]
    rfl
  .rintro τ H3 ⟨o,rfl,s3,eY⟩
   rw[Cy,CM] at eY;have qi:=s2.trans s3;refine⟨Y,_,rfl,uy eY,_,rfl,?_⟩;have e:(((EY st x y st.length).map (stayR rd st)).all id)=(EY st x y st.length).all (stayR rd st):=by rw[S7];rfl
   rw[e];refine ite2 (λc=>?_) (λc=>?_)
   .refine q _ _ qi ?_
    unfold JT;rw[uD (by exact c)];exact⟨da,rfl,N.at_ _,⟨.inl rfl,λp i z=>by cases z⟩⟩
   .refine q _ _ qi ?_
    unfold JT;rw[uC (by exact c)];exact rfl
theorem Ym:FnScope ["self","web","state","number","tie"] zl11 (Ah RP):=fscp (by decide+kernel)
theorem UJ(F:Fun K "taken" "Strands.taken" RP f fd)(T:Txt K mg C)(cD:Cls K D)(N:Dn K mg da)(GA:FnOk P w K mg base CX0 2 fA dS zl27 (Tn rd fl hf K D))(bA:Binds K dS zl27 [])(mA:Meth K D "closed" fA)
  (GT:FnOk P w K mg base CX0 1 fT cE zl3 (Qf K C)) (bT:Binds K cE zl3 []) (mT:Meth K C "ties" fT)
  (GS:Cal P w K mg base 1 fS cK "strands_tied" zl26 (ACd K)) :
  FnOk P w K mg base CX0 3 f fd zl11 (Qc (uS rd fl hf) K C D):=by
 refine F.ok Ym (λvs H Q E h=>?_) (λa7 A outer s H vs Q E hr h=>?_)
 .obtain⟨a,p,b,dx,t,z,bs,st,rfl,_⟩:=h
  rfl
 obtain⟨a,p,b,dx,t,z,bs,st,rfl,ha,hW,a8,hb,vl,_,tl,z10,q⟩:=h;have vl:VldS z st:=vl;have c6:Room 2 _:=hr.mono (by decide);have bm:Room 1 _:=hr.mono (by decide);refine⟨_,Ad (Ak (i:=4) Ym.nd (Av BL (CW (pv 1) T.cl mT GT bm bT .nil pass0) (pv 3)))
  (Ad (Bl (uq (Gg (Am (RW QG (Br hr)) (pv 2) (FP (v:=.ref da) rfl N.mgD rfl))
    (Gg (Ia (QF (Av BW (pv 2) (Av BW (pv 4) Ag)))) (FT (Ia (QF (Av BW (pv 2) (Av BW (pv 4) Ag)))))))) (Ai (Ao Ib)) BJ)
  (Ad (Bl (Am DR (Av BW (pv 2) (Av BW (pv 4) Ag)) (Av BW (pv 4) Ag)) (Ai (Ao (CN (pv 0) cD mA GA c6 bA .nil pass0 (Aa (pv 2) (Aa (pv 4) Ac))))) BJ)
  (Ai (Ao (BP GS bm rfl (Aa (pv 2) (Aa (pv 4) Ac))))))),?_⟩
 obtain⟨dw,jw,hp,_⟩:=id hW;refine⟨_,rfl,p,dw,_,rfl,hp,rfl,p,z,bs,rfl,hW,λl H1 s1 hl hL=>?_⟩;obtain⟨l',xs,el,hX,px⟩:=hL;cases el;have lx:=AV px;have xl:t<xs.length:=vP tl lx;obtain⟨tie,ht,rt⟩:=Paired.get px (AI xl);obtain⟨tq,etq,dP⟩:=CG rt;obtain⟨x,y,rfl,xz,yz⟩:=a8 tie (AX ht);have sJ:atI xs (t:Int)=uA (.ref tq):=by
  rw[<- etq];exact Bg (AI xl)
 have gt:bs.getD t []=[(x:Int),(y:Int)]:=by rw[AD,ht];rfl
 have eX:ea bs t=x:=by unfold ea;rw[gt];rfl
 have eY:eb bs t=y:=by unfold eb;rw[gt];rfl
 have ft:SqT K H1 tq [.int (x:Int),.int (y:Int)]:=dP;have gp:StAt K H1 b st:=s1.ts.seq hb;have q':∀(v':V) (H':Hp),Same H1 H'->RS (uS rd fl hf) K z H' v' (takeR rd st x y)->Q v' H':=λv' H' s' r'=>q v' H' (s1.trans s') (by show RS (uS rd fl hf) K z H' v' (takeR rd st (ea bs t) (eb bs t));rw[eX,eY];exact r');refine⟨_,rfl,l,xs,_,_,rfl,rfl,hX,sJ,?_⟩;refine⟨_,rfl,st,[],Vq gp,⟨da,[],rfl,N.at_ _,.nil⟩,_,rfl,?_⟩;by_cases c0:st=[]
 .refine iteP c0 (iteT (q' _ _ (u3 _) ?_))
  unfold takeR;rw[uD (.inl c0)];exact rfl
 refine iteN c0 ?_;have ln:=vl.len.resolve_left c0;have gx:=Jj (st:=st) (p:=x) (dl xz ln);have gy:=Jj (st:=st) (p:=y) (dl yz ln);refine⟨_,rfl,_,rfl,tq,_,_,_,rfl,rfl,ft,at0,b,_,_,_,rfl,rfl,gp,gx,_,rfl,?_⟩;cases ex:st.getD x uB with
 | none =>
  refine iteT (iteT (q' _ _ (u3 _) ?_));unfold takeR;rw[uD (.inr (.inl ex))];exact rfl
 | some i =>
  rw[ex] at gx;refine iteF ?_;refine⟨_,rfl,_,rfl,tq,_,_,_,rfl,rfl,ft,at1,b,_,_,_,rfl,rfl,gp,gy,_,rfl,?_⟩;cases ey:st.getD y uB with
  | none =>
   refine iteT (q' _ _ (u3 _) ?_);unfold takeR;rw[uD (.inr (.inr ey))];exact rfl
  | some j =>
   rw[ey] at gy;have hi:=vl.pts x i ex;have hj:=vl.pts y j ey;have nt:¬ (st=[]\/st.getD x uB=uB\/st.getD y uB=uB):=λh=>by
    rcases h with h| h| h
    .exact c0 h
    .rw[ex] at h;cases h
    .rw[ey] at h;cases h
   refine iteF ?_;refine⟨_,rfl,_,rfl,tq,_,_,_,rfl,rfl,ft,at0,b,_,_,_,rfl,rfl,gp,gx,_,rfl,tq,_,_,_,rfl,rfl,ft,at1,rfl,_,rfl,?_⟩;by_cases c2:i=(y:Int)
   .refine iteP (by rw[c2];rfl) ?_
    refine⟨_,rfl,a,dx,_,rfl,s1 _ _ ha,hf.nC,_,rfl,_,rfl,a,b,tq,dx,x,y,z,st,rfl,s1 _ _ ha,gp,ft,zx ln z10,λv' H' s' r'=>q' v' H' s' ?_⟩;unfold takeR;rw[uC nt,uD (by rw[ex,c2])];exact r'
   .refine iteN (λz=>c2 (by injection z)) ?_
    refine⟨_,rfl,_,rfl,b,tq,x,y,i.toNat,j.toNat,st,rfl,gp,ft,dl xz ln,dl yz ln,zc hi ln,zc hj ln,zx ln z10,by rw[ex,DH hi.1],by rw[ey,DH hj.1],λb' H' s' n5=>q' _ H' s' ?_⟩;unfold takeR;rw[uC nt,uC (by rw[ex];intro z;exact c2 (AN z))];exact⟨b',rfl,n5,vl.tied⟩
end
noncomputable def rngS(z:Nat):StO:=(AW z).map λ(p:Nat)=>uA (p:Int)
theorem Lk(z:Nat):(rngS z).length=z:=by unfold rngS;rw[AB,CB]
theorem UG{p:Nat}(h:p<z):(rngS z).getD p uB=uA (p:Int):=by
 unfold rngS;rw[AD,AS,E7 h];rfl
theorem ABl(z:Nat):VldS z (rngS z):=⟨.inr (Lk z),λp i e=>by
 by_cases c:p<z
 .rw[UG c] at e
  cases e;exact x8 c
 .rw[AD,Ev (by rw[Lk];exact uR c)] at e
  cases e⟩
theorem noF:NoF []:=⟨rfl,rfl,rfl,rfl,rfl,rfl,rfl,rfl⟩
abbrev uK(rd:Bool):Wr:=uS rd [] noF
def idF(z:Nat):Fs:=λp=>if p<z then uA p else uB
theorem ACY{p:Nat}(h:p<z):idF z p=uA p:=uD h
set_option tactic.hygienic true in
theorem ACT{p q:Nat}(h:idF z p=uA q):p<z/\q=p:=by
 unfold idF at h;split at h
 .rename_i c
  exact⟨c,(AN h).symm⟩
 .cases h
theorem idF_sym(z:Nat):SymF (idF z):=λx y h=>by
 obtain⟨h1,h2⟩:=ACT h;rw[h2];exact ACY h1
theorem AEh(z:Nat):RngF z (idF z):=λx y h=>(ACT h).1
theorem AHP(z:Nat){P:Nat->Prop}(n:∀p,¬ P p):RlR rd z P (rngS z) (idF z):=⟨Lk z,λx hx _=>by rw[UG hx,ACY hx];rfl,λx _ p=>(n x p).elim,idF_sym z,AEh z⟩
def Yn(K:Ap)(C:Addr):Sp:=λvs H Q _=>∃(r p:Addr) (z:Nat) (bs:uJ),vs=[.ref r,.ref p]/\WebAt K C H p z bs/\z<=10 /\
 ∀(b':Addr) (H':Hp),Same H H'->StAt K H' b' (rngS z)->Q (.ref b') H'
theorem AGZ(z:Nat):(below (z:Int).toNat).map V.int=(rngS z).map oV:=by
 rw[Cc];unfold rngS below;simp only[G6];rfl
theorem AEq:FnScope zl13 zl13 (Ah QK):=fscp (by decide+kernel)
theorem Rx(F:Fun K "begun" "Strands.begun" QK f fd)(T:Txt K mg C)(GS:FnOk P w K mg base CX0 1 fS cK zl3 (Ii K C))(bS:Binds K cK zl3 [])(mS:Meth K C "size" fS) :
  FnOk P w K mg base CX0 3 f fd zl13 (Yn K C):=by
 refine F.ok AEq (λvs H Q E h=>?_) (λa7 A outer s H vs Q E hr h=>?_)
 .obtain⟨r,p,z,bs,rfl,_⟩:=h
  rfl
 obtain⟨r,p,z,bs,rfl,hW,z10,q⟩:=h;have bm:Room 1 _:=hr.mono (by decide);refine⟨_,Ai (Ao (Bb (Mf rfl) rfl T.tuple Db (Aa (Bb Jx rfl T.range Pl (Aa (CW (pv 1) T.cl mS GS bm bS .nil pass0) Ac)) Ac))),?_⟩;obtain⟨dw,jw,hw,_⟩:=id hW;refine⟨_,rfl,p,dw,_,rfl,hw,rfl,p,z,bs,rfl,hW,(z:Int),rfl,λR hR=>⟨R,(z:Int),rfl,Ab,fv,by lia,λt ht=>?_⟩⟩;refine q t _ ((u8 hR _).trans (u8 ht _)) (uz ?_);rw[Ab,AGZ]
noncomputable def edg(bs:uJ)(s:uL):List (Nat×Nat):=s.map λx=>(ea bs x,eb bs x)
def Apart(bs:uJ):Prop:=∀x,x<bs.length->ea bs x≠eb bs x
def Hh(rd:Bool)(K:Ap)(C Dc S:Addr):Sp:=λvs H Q _=>∃(W r dr:Addr) (z:Nat) (bs:uJ),vs=[.ref W,.ref r]/\WebAt K C H W z bs/\H r=uA (.ins Dc dr [])/\1<=z/\z<=10/\bs.length<=12/\OkB z bs/\Apart bs /\
 ∀(p:Addr) (ae:List Row) (hd:Nat) (H':Hp),Same H H'->K32s.SvAt K S H' p bs.length ae hd->Canon bs.length ae hd->(∀s:uL,s.Pairwise (· < ·)->(∀x∈s,x<bs.length)->(led ae hd s=true↔accR rd z (idF z) (edg bs s)))->ae.length<=4000->Q (.ref p) H'
theorem Rp{bs:uJ}(h:OkB z bs){t:Nat}(tn:t<bs.length):ea bs t<z/\eb bs t<z/\t<Lp bs (ea bs t)/\t<Lp bs (eb bs t):=by
 have hbt:=AI tn;obtain⟨x,y,e,xz,yz⟩:=h bs[t] (Fn tn);have gd:bs.getD t []=bs[t]:=by rw[AD,hbt];rfl
 have ex:ea bs t=x:=by unfold ea;rw[gd,e];rfl
 have ey:eb bs t=y:=by unfold eb;rw[gd,e];rfl
 rw[ex,ey];refine⟨xz,yz,AFr tn ?_,AFr tn ?_⟩<;>(unfold onB;rw[gd,e];simp)
theorem AGG(rd:Bool){bs:uJ}:Good (uK rd) bs z (λ_ _=>True):=λt o st tn g e=>⟨trivial,trivial,trivial⟩
theorem Xp(rd:Bool):∀(ps:uL) (st:StO),passU (uK rd) st ps=passR rd st ps
 | [],st=>rfl
 | p::ps,st=>by
  show(passR1 rd st p).bind _=(passR1 rd st p).bind _
  congr 1
  funext s
  exact Xp rd ps s
theorem AHp{bs:uJ}(h:OkB z bs)(ap:Apart bs)(z1:1<=z)(s:uL)(pw:s.Pairwise (· < ·))(hs:∀x∈s,x<bs.length):semC (uK rd) bs z bs.length 0 (uA (rngS z)) s=true↔accR rd z (idF z) (edg bs s):=by
 have e:(λt r=>passU (uK rd) r (behP bs z t))=λt st=>passR rd st ((AW z).filter λp=>decide (Lp bs p=t)):=by
  funext t r
  exact Xp rd _ r
 show semO lefU (takU (uK rd) bs) (λt r=>passU (uK rd) r (behP bs z t)) (uK rd).fu bs.length 0 (uA (rngS z)) s=true↔_;rw[e];exact Tz (z:=z) (n:=bs.length) (ea:=ea bs) (eb:=eb bs) (L:=Lp bs) z1 (λx xn=>by obtain⟨a,b,c,d⟩:=Rp h xn;exact⟨a,b,ap x xn,c,d⟩) bs.length 0 (rngS z) (idF z) s xP (AHP z λp hp=>uH hp (J0 _)) pw λx hx=>⟨AY _,by have:=hs x hx;lia⟩
theorem Qk:FnScope ["web","rule","growth","top"] zl28 (Ah Wm):=fscp (by decide+kernel)
theorem Uy(F:Fun K "grown" "grown" Wm f fd)(cD:Cls K D)(O:Gro K mg Gc)(M:Mk K Gc fI)
  (GI:FnOk P w K mg base CX0 3 fI ku zl8 (Xw (uK rd) P w K C D Gc)) (bI:Binds K ku zl8 [])
  (GK:∀d,FnOk P w K mg base CX0 (d+5) fK oo zl25 (NQ (uK rd) P w K C D Gc d)) (bK:Binds K oo zl25 []) (mK:Meth K Gc "knot_at" fK)
  (GB:FnOk P w K mg base CX0 3 fB qZ zl13 (Yn K C)) (bB:Binds K qZ zl13 []) (mB:Meth K D "begun" fB)
  (GG:Cal P w K mg base 3 fG p6 "least_graph" zl24 (K32s.YQ K S)) :
  FnOk P w K mg base CX0 18 f fd zl28 (Hh rd K C D S):=by
 refine F.ok Qk (λvs H Q E h=>?_) (λa7 A outer s H vs Q E hr h=>?_)
 .obtain⟨W,r,dr,z,bs,rfl,_⟩:=h
  rfl
 obtain⟨W,r,dr,z,bs,rfl,hW,dv,z1,z10,b8,a8,ap,q⟩:=h;have c6:Room 2 _:=hr.mono (by decide);have mr:Room 3 _:=hr.mono (by decide);have hrM:Room (3+1) _:=hr.mono (by decide);have hrK:Room (bs.length+5) _:=hr.mono (by lia);refine⟨_,Ad (Ak (i:=2) Qk.nd (Kr M GI hrM rfl O.mgG bI .nil pass0 (Aa (pv 0) (Aa (pv 1) Ac))))
  (Ad (Ak (i:=3) Qk.nd (CN (pv 2) O.cl mK (GK bs.length) hrK bK .nil pass0 (Aa Ag (Aa (CN (pv 1) cD mB GB mr bB .nil pass0 (Aa (pv 0) Ac)) Ac))))
  (Ai (Ao (BP GG mr rfl (Aa (Bw (pv 2) rfl) (Aa (Bw (pv 2) rfl) (Aa (pv 3) Ac))))))),?_⟩
 refine⟨_,rfl,_,rfl,λg dx hg hdx ne=>?_⟩;have l9:(upd H dx (.own g)) g=uB:=by rw[Af (Cb ne)];exact hg
 have s1:=(u8 hdx (.own g)).trans (u8 l9 (.ins Gc dx []));obtain⟨dw,jw,hw,_⟩:=id hW;refine⟨g,dx,W,r,dr,z,bs,rfl,Ab,Ae hw hg,Ae dv hg,hW.same s1,s1 _ _ dv,z10,b8,λBh R Dk H2 k2 gr rw0 nR0 nD0=>⟨rfl,?_⟩⟩;have s2:Same H H2:=λb o e=>k2 _ _ (s1 _ _ e) (Ae e hg);obtain⟨dg,hg2'⟩:=gr.ins;refine⟨_,rfl,g,dg,_,rfl,hg2',rfl,_,rfl,r,dr,_,rfl,s2 _ _ dv,rfl,_,rfl,r,W,z,bs,rfl,gr.web,z10,λb H3 s3 hb=>?_⟩;have rC:=rw0.same s3;have qL:=gr.same s3;have p2:2 ^ bs.length<=2 ^ 12:=IL (by decide) b8;refine⟨g,W,r,Bh,R,Dk,z,0,bs,.ref b,uA (rngS z),[],[],λ_ _=>True,rfl,xP,qL,z1,z10,b8,a8,AGG rd,trivial,⟨b,rfl,hb,ABl z⟩,rC,by show 0+_<=_;lia,λk more bh H4 kp my ld _ cnt ml=>?_⟩;rw[Pp] at my ld;obtain⟨xs3,eR3,_⟩:=id rC.at_;obtain⟨_,_,ax3,qX,_⟩:=id rC.dn;have gr4:=qL.keep kp eR3 qX;obtain⟨dg4,hg4⟩:=gr4.ins;obtain⟨xs4,ig,px4⟩:=id my.at_;refine⟨_,rfl,g,Gc,dg4,_,_,rfl,hg4,O.cl,O.nA,PX _ _ _ _ _ _,_,rfl,g,Gc,dg4,_,_,rfl,hg4,O.cl,O.nR,RV _ _ _ _ _ _,_,rfl,R,bs.length,k,more,rfl,K32s.RowsAt.of ⟨R,xs4,rfl,uy ig,px4⟩,my.ok,b8,by lia,Xe my.ok b8 cnt k,ld.kn,λp ae hd H' s' h1 h2 h3 h4=>?_⟩;have none_back:∀{x:Addr},(upd (upd H dx (.own g)) g (.ins Gc dx [])) x=none->H x=uB:=λ{x} n=>by
  cases e:H x with
  | none=>rfl
  | some o=>have:=s1 _ _ e;rw[n] at this;cases this
 refine q p ae hd H' (λb o e=>s' _ _ (kp _ _ (Ae e (none_back nR0)) (Ae e (none_back nD0)) (s3 _ _ (s2 _ _ e)))) h1 h2 (λs pw hs=>?_) h4.1;rw[h3 s,ld.eq s];exact AHp a8 ap z1 s pw hs
end K32
namespace PySem.SeqAt
open PySem.AutoSeq1 (wpAny_loadPart')
open MeetsSeq
theorem Nt(l:Addr)(items:Array As)(n:Nat)(x:As)(e:As->Bool)(j:Nat)(hj:j<items.size)(bq:e items[j]=true)(k:Nat)(hs1:items.size<=sizeLine) :
  ∀i:Nat,j-i=k->i<=j->(∀m (hm:m<items.size),i<=m->m<j->e items[m]=false)->Meets (Builtin.«list.remove.loop» ⟨[.ref l,x,Hm i],[]⟩)
   (λA R s=>s.heap.get? l=uA {cls:=.type "list",dict:=uB,data:=.seq items n,slots:=#[]}/\(∀y,y∈items->EqAt A.in1 s y x (e y))/\R (.ok (.ret .none)) {s with heap:=s.heap.update l (DV λxs=>xs.eraseIdxIfInBounds j)}):=by
 induction k with
 | zero =>
  intro i hk gv gI prog w A R s h;obtain⟨hp,g,d,tk,os⟩:=s;obtain⟨hl,he,h⟩:=h;have hij':i=j:=xD gv hk;subst hij'
  wp_walk using wpAny_loadPart' hl
  have hi:items[((i:Nat):Int).toNat]?=uA items[i]:=by simp[hj]
  rw[hi];refine Au (he _ (TK hj) prog w _ _ ?_);rw[bq];have hz':(items.eraseIdxIfInBounds i).size<=sizeLine+1:=BY (size_erased items _) (OG hs1)
  wp_walk using(PD hl rfl (hz:=hs1) (_hz':=hz')),wpAny_loadPart' hl
  simpa using h
 | succ k ih =>
  intro i hk gv gI prog w A R s h;obtain⟨hp,g,d,tk,os⟩:=s;obtain⟨hl,he,h⟩:=h;have bj:i<items.size:=ve gv hj
  wp_walk using wpAny_loadPart' hl
  have hi:items[((i:Nat):Int).toNat]?=uA items[i]:=by simp[bj]
  have hc:((i:Int)+1)=((i+1:Nat):Int):=by push_cast;rfl
  rw[hi];refine Au (he _ (TK bj) prog w _ _ ?_);rw[gI i bj (AF _) (xB hk)]
  wp_walk
  rw[hc];exact⟨JY L7 _,EE TL (by
   rw[EF L7 _];exact ih (i+1) (xC hk) (by lia) (λm hm h1 h2=>gI m hm (vc h1) h2) prog w A R _ ⟨hl,he,h⟩)⟩
theorem Np(l:Addr)(items:Array As)(n:Nat)(x:As)(e:As->Bool)(j:Nat)(hj:j<items.size)
  (bq:e items[j]=true) (gI:∀m (hm:m<items.size),m<j->e items[m]=false) (hs1:items.size<=sizeLine) :
  Meets (Builtin.«list.remove» ⟨[.ref l,x],[]⟩)
   (λA R s=>s.heap.get? l=uA {cls:=.type "list",dict:=uB,data:=.seq items n,slots:=#[]}/\(∀y,y∈items->EqAt A.in1 s y x (e y))/\R (.ok (.ret .none)) {s with heap:=s.heap.update l (DV λxs=>xs.eraseIdxIfInBounds j)}):=by
 intro prog w A R s h;obtain⟨hp,g,d,tk,os⟩:=s;obtain⟨hl,he,h⟩:=h
 wp_walk using wpAny_loadPart' hl
 exact⟨JY L7 _,EE TL (by
  rw[EF L7 _];exact Nt l items n x e j hj bq _ hs1 0 rfl (AY _) (λm hm _ h2=>gI m hm h2) prog w A R _ ⟨hl,he,h⟩)⟩
end PySem.SeqAt
namespace L2
open PySem PySem.Spec PySem.W PyProof.Rows
section
variable[DecidableEq α]{R:Rep α}
theorem Xg:∀{xs:List V}{us:List As},Vals xs us->∀j,Vals (xs.eraseIdx j) (us.eraseIdx j):=by
 intro l m h
 induction h with
 | nil=>exact λ_=>.nil
 | cons h t ih=>intro j;cases j with| zero=>exact t| succ j=>exact .cons h (ih j)
def AEn{α:Type}(R:Rep α):V->List V->Hp->VK->Prop:=λx vs H Q=>∃(l:Addr) (xs:List V) (y:V) (a:α) (as:List α) (j:Nat),x=.ref l/\vs=[y]/\H l=uA (.lst xs)/\BI (R H) as xs/\R H a y/\as[j]?=uA a/\(∀m,m<j->as[m]?≠uA a)/\Q .non (upd H l (.lst (xs.eraseIdx j)))
theorem Ox(D:Dat X n R)(hu:X.A.units+(n+1)<C0):MtM X "list.remove" (AEn R):=by
 intro aa s σ H x vs v us Q I rx rv h;obtain⟨l,xs,y,a,as,j,rfl,rfl,hH,pa,ra,hj,gI,q⟩:=h;cases rx;obtain⟨u,rfl,ry⟩:=rv.one;obtain⟨z,ag,m,r,hl,e⟩:=I.lstM hH;have qE:X.A.in1.units+n<C0:=by show X.A.units+1+n<C0;exact vF hu
 have lx:=AV pa;have at_:∀m (hm:m<ag.toArray.size),∃am,as[m]?=uA am/\isDat R H a ag.toArray[m]=decide (am=a):=λm hm=>by
  have cw:m<xs.length:=by rw[hl];simpa using hm
  have e1:xs[m]?=uA xs[m]:=AI cw;obtain⟨am,ea,rm⟩:=Paired.get pa e1;obtain⟨w,hw,dE⟩:=r.get e1;have e2:ag.toArray[m]=w:=by
   have:ag[m]?=uA w:=hw;simpa using(AH.mp this).2
  refine⟨am,ea,?_⟩;rw[e2];exact Mu D I dE rm
 have bu:j<ag.toArray.size:=by
  have:=(AH.mp hj).1;rw[lx,hl] at this;simpa using this
 refine LO F.slot_list_remove ⟨_,e,rfl⟩ F.entry_list_remove (F.args_list_remove_2 _ _) (SeqAt.Np l ag.toArray m u (isDat R H a) j bu ?_ (λm hm hmj=>?_) ?_) ⟨e,λw hw=>Kf D I qE ry ra pa r w (by simpa using hw),?_⟩
 .obtain⟨am,e1,e2⟩:=at_ j bu
  rw[e2];rw[hj] at e1;cases e1;exact uE rfl
 .obtain⟨am,e1,e2⟩:=at_ m hm
  rw[e2];exact uF λz=>gI m hmj (by rw[e1,z])
 .rw[AT,<- hl]
  exact z
 .refine⟨.non,_,I.lset (t':=s.toks) (its':=ag.eraseIdx j) hH e ?_ (Xg r j) ?_,rfl,q⟩
  .rw[AT] at bu
   simp[O5,bu]
  .rw[M7]
   split<;>lia
end
end L2
namespace K32
open PySem L2 G
def Vu:Sp:=λvs H Q _=>∃(c:Int),vs=[.int c]/\∀n:Int,Q (.int n) H
theorem AGm:FnScope zl14 zl14 (Ah ABc):=fscp (by decide+kernel)
theorem AEf(F:Fun K "_law_at" "_law_at" ABc f fd)(T:Txt K mg C):FnOk P w K mg base CX0 1 f fd zl14 (ABR K):=by
 refine F.ok AGm (λvs H Q E h=>?_) (λa7 A outer s H vs Q E hr h=>?_)
 .obtain⟨a,ns,k,rfl,_⟩:=h
  rfl
 obtain⟨a,ns,k,rfl,hS,h0,q⟩:=h;refine⟨_,Ad (Bl (Am Ln (pv 1) (Ax Ar rfl T.len Cn (Aa (pv 0) Ac))) (Ai (Ao (Av BL (pv 0) (pv 1)))) BJ)
  (Ai (Ao Ag)),?_⟩
 refine⟨_,rfl,_,rfl,a,_,rfl,.inl hS,k,_,rfl,rfl,_,rfl,?_⟩;by_cases hc:k<((ns.map V.int).length:Int)
 .obtain⟨v,hv⟩:=ABP h0 (by rw[AB] at hc;exact hc)
  exact iteP hc ⟨_,rfl,_,rfl,a,_,k,_,rfl,rfl,hS,hv,q v⟩
 .exact iteN hc (q 0)
theorem ABN:FnScope ["_law_cell","_law_one","_law_two"] zl29 (Ah AGW):=fscp (by decide+kernel)
theorem AGT(F:Fun K "_law_mixed" "_law_mixed" AGW f fd):FnOk P w K mg base CX0 1 f fd zl29 Vu:=by
 refine F.ok ABN (λvs H Q E h=>?_) (λa7 A outer s H vs Q E hr h=>?_)
 .obtain⟨c,rfl,_⟩:=h
  rfl
 obtain⟨c,rfl,q⟩:=h;refine⟨_,Ad (Ak (i:=1) ABN.nd (Az Ca (Az Cp (Az Ij (pv 0) Ag) Ag) Ag))
  (Ad (Ak (i:=2) ABN.nd (Az Ca (Az Ij (pv 1) (pv 1)) Ag))
  (Ai (Ao (Az Cp (Az Ij (Az Cp (Az Ij (pv 1) Ag) (pv 2)) Ag) (Az Ca (Az Ij (pv 2) (pv 2)) Ag))))),?_⟩
 refine⟨_,rfl,_,_,rfl,rfl,.inr ⟨by decide,by decide⟩,_,_,rfl,rfl,_,_,rfl,rfl,(by show(0:Int)<2147483647;decide),?_⟩;have h1:=Fa (c*48271+12345) (show(2147483647:Int)≠0 by decide);have h2:=EG (c*48271+12345) (show(0:Int)<2147483647 by decide);dsimp only;generalize (c*48271+12345)%2147483647=x at h1 h2;refine⟨_,rfl,_,rfl,_,_,rfl,rfl,.inl ⟨by lia,by lia⟩,_,_,rfl,rfl,(by show(0:Int)<2147483629;decide),?_⟩;have h3:=Fa (x*x) (show(2147483629:Int)≠0 by decide);have h4:=EG (x*x) (show(0:Int)<2147483629 by decide);dsimp only;generalize x*x%2147483629=y at h3 h4;exact⟨_,rfl,_,_,rfl,rfl,.inl ⟨by lia,by lia⟩,_,rfl,_,_,rfl,rfl,_,_,rfl,rfl,.inr ⟨by decide,by decide⟩,_,rfl,_,rfl,_,_,rfl,rfl,.inl ⟨by lia,by lia⟩,_,_,rfl,rfl,(by show(0:Int)<2147483587;decide),_,_,rfl,rfl,q _⟩
end K32
namespace K35
open PySem L2
def DownP(i:Nat)(t:uI):Prop:=∃a b:Nat,t=[(a:Int),(b:Int)]/\b<a/\a<i
noncomputable def newP(i j:Nat):uJ:=(AW j).map λ(o:Nat)=>[(i:Int),(o:Int)]
theorem Mv{a b:Nat}(h:b<a):srt [(a:Int),(b:Int)]=[(b:Int),(a:Int)]:=by rw[Et,uD (uP h)]
theorem AEu{a b:Nat}(h:b<a):srt [(b:Int),(a:Int)]=[(b:Int),(a:Int)]:=by rw[Et,uC (by lia)]
theorem Zz(i j:Nat):newP i (j+1)=newP i j++[[(i:Int),(j:Int)]]:=by
 unfold newP;rw[FM,BM];rfl
theorem ACp{t:uI}(h:t∈newP i i):DownP (i+1) t:=by
 obtain⟨o,ho,rfl⟩:=A1.mp h;exact⟨i,o,rfl,A8.mp ho,vE⟩
theorem ADk{ps:uJ}(hd:∀t∈ps,DownP i t)(hn:(ps.map srt).Nodup):((ps++newP i i).map srt).Nodup:=by
 have e:(newP i i).map srt=(AW i).map λ(o:Nat)=>[(o:Int),(i:Int)]:=by
  unfold newP;rw[G6];refine HI λo ho=>?_;exact Mv (A8.mp ho)
 rw[BM,e,KB];refine⟨hn,?_,?_⟩
 .unfold LP
  rw[CY];refine HM.imp λ{a b} h z=>h ?_;injection z with z _
  exact uM z
 .rintro t ht u hu rfl
  obtain⟨t0,h0,rfl⟩:=A1.mp ht;obtain⟨a,b,rfl,ba,ai⟩:=hd t0 h0;obtain⟨o,ho,e⟩:=A1.mp hu;rw[Mv ba] at e;injection e with e1 e2
  injection e2 with e2 _
  lia
theorem ADa{ps:uJ}{p:uI}(hn:(ps.map srt).Nodup)(hj:ps[j]?=uA p):∀m,m<j->ps[m]?≠uA p:=λm hm z=>by
 have jl:=(AH.mp hj).1;have ml:=(AH.mp z).1;refine(CO.mp hn) m j (by rw[AB];exact ml) (by rw[AB];exact jl) hm ?_;rw[MA,MA,(AH.mp z).2,(AH.mp hj).2]
theorem Mj{α:Type}:∀{l:List α}{j:Nat}{p:α},l[j]?=uA p->(p::l.eraseIdx j).Perm l
 | [],j,p,h=>by cases h
 | a::l,0,p,h=>by
  cases h;exact LU _
 | a::l,j+1,p,h=>(LV a p _).trans (QR a (Mj (l:=l) (j:=j) (by simpa using h)))
theorem AFI{ps:uJ}{p p':uI}(hn:((as++ps).map srt).Nodup)(hj:ps[j]?=uA p)(e:srt p'=srt p):(((as++[p'])++ps.eraseIdx j).map srt).Nodup:=by
 obtain⟨jl,ej⟩:=AH.mp hj;have pm:=Mj hj;have e2:(((as++[p'])++ps.eraseIdx j).map srt)=((as++(p::ps.eraseIdx j)).map srt):=by
  rw[CU,BM,BM (l₁:=as)];show _++(srt p'::_)=_++(srt p::_);rw[e];rfl
 rw[e2];exact(((Fc as pm).map srt).nodup_iff).mpr hn
theorem Paired.erase{F:α->β->Prop}:∀{l:List α}{m:List β},BI F l m->∀j,BI F (l.eraseIdx j) (m.eraseIdx j):=by
 intro l m h
 induction h with
 | nil=>exact λ_=>.nil
 | cons h t ih=>intro j;cases j with| zero=>exact t| succ j=>exact .cons h (ih j)
end K35
namespace K32
open PySem L2 G K35
def YJ(K:Ap):Sp:=λvs H Q _=>∃(m n:Int),vs=[.int m,.int n]/\1<=m/\m<=10/\∀(l:Addr) (xs:List V) (as:uJ) (H':Hp),Same H H'->H l=none->H' l=uA (.lst xs)->BI (rPair K H') as xs->OkTies m as->as.length<=12->Q (.ref l) H'
theorem Dm:FnScope ["_law_many","_law_number","_law_pairs","_law_one","_law_wanted","_law_rows_here","_law_other"] zl30 (Ah Qy):=fscp (by decide+kernel)
theorem ACm(F:Fun K "_law_rows" "_law_rows" Qy f fd)(T:Txt K mg C)
  (GX:Cal P w K mg base 1 fX fdX "_law_mixed" zl29 Vu):FnOk P w K mg base CX0 2 f fd zl30 (YJ K):=by
 refine F.ok Dm (λvs H Q E h=>?_) (λa7 A outer s H vs Q E hr h=>?_)
 .obtain⟨m,c,rfl,_⟩:=h
  rfl
 obtain⟨m,n,rfl,m1,m10,q⟩:=h;have bm:Room 1 _:=hr.mono (by decide);refine⟨_,Ad (Ak (i:=2) Dm.nd (Bm Ac))
  (Ad (DW C5 rfl (Cv rfl T.range (Aa (pv 0) Ac)) (BX (i:=3) Dm.nd)
   (Ai (Cw (Hf C2 PySem.F.slot_list_extend PySem.F.type_list_extend AAl (pv 2) (Aa (Bq (Ah Qy) ["_law_other"] ["_law_one"] [3] rfl rfl (by decide+kernel) ⟨⟨rfl,by decide+kernel⟩,trivial⟩ (Cv rfl T.range (Aa (pv 3) Ac))
    (λ_ _ _=>BK (i:=0)) (λ_ _ _=>DY) (λ_ _ _=>Cq (Aa (pv 1) (Aa (pv 0) Ac)))) Ac)))))
  (Ad (Ak (i:=4) Dm.nd (Az Ca (pv 1) Ag))
  (Ad (Ak (i:=1) Dm.nd (Az Ek (pv 1) Ag))
  (Ad (Ak (i:=5) Dm.nd (Bm Ac))
  (Ad (Ud C5 (uq (Gj (Am Ln (Ax Ar rfl T.len Cn (Aa (pv 5) Ac)) (pv 4)) (Hs (Am (Ie (FN CT) (Br hr)) (pv 2) (Bm Ac)))))
   (Hu (Bl (Am DR (pv 1) Ag) (Ai (Ak (i:=1) Dm.nd (BP GX bm rfl (Aa (Az Cp (pv 0) (Az Ij Ag (Ax Ar rfl T.len Cn (Aa (pv 5) Ac)))) Ac)))) BJ)
   (Ad (Jp (Av BL (pv 2) (Az Ca (pv 1) (Ax Ar rfl T.len Cn (Aa (pv 2) Ac)))) (Ju rfl (Bd (BX (i:=3) Dm.nd) (Bd (BX (i:=6) Dm.nd) Dp))))
   (Ad (Ak (i:=1) Dm.nd (Az Ek (pv 1) (Ax Ar rfl T.len Cn (Aa (pv 2) Ac))))
   (Ad (Cw (Hf C2 O9 Pc (Ox (FN CT) (Br hr)) (pv 2) (Aa (Cq (Aa (pv 3) (Aa (pv 6) Ac))) Ac)))
   (Ad (Cw (Hf C2 D7 D8 DP (pv 5) (Aa (Av BL (Bm (Aa (Cq (Aa (pv 3) (Aa (pv 6) Ac))) (Aa (Cq (Aa (pv 6) (Aa (pv 3) Ac))) Ac))) (Az Ca (pv 1) Ag)) Ac)))
   (Ai (Ak (i:=1) Dm.nd (Az Ek (pv 1) Ag)))))))))
  (Ai (Ao (pv 5)))))))),?_⟩
 refine⟨AY _,λPa hPa=>?_⟩;have s0:=u8 hPa (.lst []);have e0:(upd H Pa (.lst [])) Pa=uA (.lst []):=Ab;generalize upd H Pa (.lst [])=H0 at s0 e0;refine⟨_,rfl,m,rfl,by lia,by lia,?_⟩;refine Je (lo:=0) (n:=m.toNat) (λi σ H2=>∃(o3:Option V) (ps:uJ) (xs:List V),σ=[uA (.int m),uA (.int n),uA (.ref Pa),o3,uB,uB,uB]/\Same H H2/\H2 Pa=uA (.lst xs)/\BI (rPair K H2) ps xs/\(∀t∈ps,DownP i t)/\(ps.map srt).Nodup/\ps.length<=10*i) ⟨uB,[],[],rfl,s0,e0,.nil,λt h=>by(cases h),KP,AF _⟩ ?_ ?_
 .rintro i σ H2 hi ⟨o3,ps,xs,rfl,sm,eP,pp,dn,nd,ln⟩
  have ei:(0:Int)+i=(i:Int):=vp;rw[ei];have i9:i<10:=by lia
  refine⟨_,rfl,.inl ⟨rfl,_,uy eP⟩,_,rfl,(i:Int),rfl,by lia,by lia,λZ hZ=>?_⟩;have PZ:Pa≠Z:=Ae eP hZ;refine Ci (lo:=0) (n:=(i:Int).toNat) (λj τ H3=>∃(o:Option V) (ys:List V),τ=[o,uA (.int i)]/\Same H2 H3/\H3 Z=uA (.lst ys)/\BI (rPair K H3) (newP i j) ys) ⟨uB,[],rfl,u8 hZ _,Ab,.nil⟩ ?_ ?_
  .rintro j τ H3 hj ⟨o,ys,rfl,s3,eZ,py⟩
   have ej:(0:Int)+j=(j:Int):=vp;rw[ej];have ly:=AV py;have l2:(newP i j).length=j:=by unfold newP;rw[AB,CB]
   refine⟨_,rfl,_,rfl,(by show 2<=sizeLine;decide),λt ht=>?_⟩;have s4:=u8 ht (.tup [.int (i:Int),.int (j:Int)]);have tZ:t≠Z:=λz=>by rw[z,eZ] at ht;cases ht
   refine⟨ys,s4 _ _ eZ,Ay (by lia),_,_,rfl,λb o e=>?_,Ab,?_⟩
   .rw[Af (Ae e hZ)]
    exact s4 _ _ (s3 b o e)
   .rw[Zz]
    have ts:TSm H3 (upd (upd H3 t (.tup [.int (i:Int),.int (j:Int)])) Z (.lst (ys++[.ref t]))):=s4.ts.trans (u6 (s4 _ _ eZ));exact u4 (u7 (λa b=>Aq Aw _ _ a b ts) py) (u5 (Fl (ns:=[(i:Int),(j:Int)]) (by rw[Af tZ];exact Ab)))
  .rintro τ H3 ⟨o,ys,rfl,s3,eZ,py⟩
   rw[Cc] at py;have ly:=AV py;have lx:=AV pp;have l2:(newP i i).length=i:=by unfold newP;rw[AB,CB]
   refine⟨Pa,Z,xs,ys,rfl,rfl,s3 _ _ eP,eZ,DB (Ay (by lia)),?_⟩;have ts:TSm H3 (upd H3 Pa (.lst (xs++ys))):=u6 (s3 _ _ eP);refine⟨_,ps++newP i i,xs++ys,rfl,λb o e=>?_,Ab,u4 (u7 (λa b=>Aq Aw _ _ a b (s3.ts.trans ts)) pp) (u7 (λa b=>Aq Aw _ _ a b ts) py),λt ht=>?_,ADk dn nd,by rw[AZ];lia⟩
   .rw[Af (Ae e hPa)]
    exact s3 _ _ (sm b o e)
   .rcases Ct.mp ht with ht| ht
    .obtain⟨a,b,e,h1,h2⟩:=dn t ht
     exact⟨a,b,e,h1,vb h2⟩
    .exact ACp ht
 rintro σ H2 ⟨o3,ps,xs,rfl,sm,eP,pp,dn,nd,ln⟩;refine⟨_,rfl,_,_,rfl,rfl,(by show(0:Int)<13;decide),?_⟩;refine⟨_,rfl,_,_,rfl,rfl,⟨by decide,by decide⟩,?_⟩;refine⟨AY _,λR hR=>?_⟩;have w1:=EG n (show(0:Int)<13 by decide);have PR:Pa≠R:=Ae eP hR;have hRH:H R=uB:=by
  cases e:H R with
  | none=>rfl
  | some o=>have:=sm _ _ e;rw[hR] at this;cases this
 have mz:(m.toNat:Int)=m:=DH (by lia);refine⟨λk σ H3=>∃(o3 o6:Option V) (nn:Int) (ps as:uJ) (xs ys:List V),σ=[uA (.int m),uA (.int nn),uA (.ref Pa),o3,uA (.int (n%13)),uA (.ref R),o6]/\k=ps.length/\Same H H3/\H3 Pa=uA (.lst xs)/\H3 R=uA (.lst ys)/\BI (rPair K H3) ps xs/\BI (rPair K H3) as ys/\(∀t∈ps,DownP m.toNat t)/\(∀t∈as,OkTie m t)/\((as++ps).map srt).Nodup/\ps.length<=100/\as.length<=12,?_,?_⟩
 .refine⟨_,_,_,_,ps,[],xs,[],rfl,rfl,sm.trans (u8 hR _),by rw[Af PR];exact eP,Ab,u7 (λa b=>Aq Aw _ _ a b (u8 hR _).ts) pp,.nil,dn,λt h=>(by cases h),nd,by lia,AY _⟩
 rintro k σ H3 ⟨o3,o6,nn,ps,as,xs,ys,rfl,rfl,s3,eP,eR,pp,pr,dn,ok,nd,ln,l4⟩;have lx:=AV pp;have ly:=AV pr;have fin:∀H4,Same H3 H4->Q (.ref R) H4:=λH4 s4=>q R ys as H4 (s3.trans s4) hRH (s4 _ _ eR) (u7 (λa b=>Aq Aw _ _ a b s4.ts) pr) ⟨ok,by
  rw[BM] at nd;exact(KB.mp nd).1⟩ l4
 refine⟨_,rfl,R,_,rfl,.inl (uy eR),_,rfl,_,_,rfl,rfl,_,rfl,?_⟩;by_cases c1:n%13<=((ys.length:Nat):Int)
 .exact iteN (vQ c1) (iteF ⟨_,rfl,fin _ (u3 _)⟩)
 refine iteP (vM c1) ?_;refine⟨_,rfl,AY _,λW hW=>?_⟩;have s4:=u8 hW (.lst []);refine⟨ps,[],⟨Pa,xs,rfl,uy (s4 _ _ eP),u7 (λa b=>Aq Aw _ _ a b s4.ts) pp⟩,⟨W,[],rfl,uy Ab,.nil⟩,_,rfl,?_⟩;by_cases c2:ps=[]
 .exact iteNP c2 ⟨_,rfl,fin _ s4⟩
 refine iteNN c2 ?_;have rf:=s4 _ _ eP;have ig:=s4 _ _ eR;have pp4:BI (rPair K (upd H3 W (.lst []))) ps xs:=u7 (λa b=>Aq Aw _ _ a b s4.ts) pp;have pr4:BI (rPair K (upd H3 W (.lst []))) as ys:=u7 (λa b=>Aq Aw _ _ a b s4.ts) pr;have iE:=s3.trans s4;generalize upd H3 W (.lst [])=H4 at s4 rf ig pp4 pr4 iE;have pl:0<ps.length:=JJ.mpr c2;refine⟨λσ' H'=>∃m',m'<ps.length/\_,λσ' H' h=>h,?_⟩;refine⟨λσ' H'=>∃nn':Int,H4=H'/\σ'=[uA (.int m),uA (.int nn'),uA (.ref Pa),o3,uA (.int (n%13)),uA (.ref R),o6],?_,?_⟩
 .refine⟨_,rfl,rfl,_,rfl,ite2 (λ_=>?_) (λ_=>⟨nn,rfl,rfl⟩)⟩
  exact⟨_,rfl,_,rfl,R,_,rfl,.inl (uy ig),_,_,rfl,rfl,.inl ⟨by decide,by decide⟩,_,_,rfl,rfl,_,rfl,λn'=>⟨n',rfl,rfl⟩⟩
 rintro σ' H' ⟨nn,rfl,rfl⟩;have xl:(0:Int)<(xs.length:Nat):=by lia
 have j0:=Fa nn (show((xs.length:Nat):Int)≠0 by lia);have j1:=EG nn xl;obtain⟨j,ej⟩:=Hk j0;have jl:j<xs.length:=xt j1 ej;obtain⟨x,hx⟩:∃x,xs[j]?=uA x:=⟨_,AI jl⟩;obtain⟨p,hp,rp⟩:=Paired.get pp4 hx;obtain⟨t,rfl,ht⟩:=CG rp;obtain⟨a,b,rfl,ba,am⟩:=dn p (AX hp);refine⟨_,rfl,_,rfl,_,rfl,Pa,_,rfl,.inl (uy rf),_,_,rfl,rfl,xl,Pa,_,_,_,rfl,rfl,uy rf,by rw[ej];exact Bg hx,t,_,rfl,ht,rfl,_,_,rfl,_,_,rfl,rfl,?_⟩;refine⟨_,rfl,_,rfl,Pa,_,rfl,.inl (uy rf),_,_,rfl,rfl,⟨xl,by lia⟩,?_⟩;refine⟨_,rfl,.inl ⟨rfl,_,uy rf⟩,_,rfl,_,rfl,(by show 2<=sizeLine;decide),λt2 oq=>?_⟩;have s5:=u8 oq (.tup [.int (a:Int),.int (b:Int)]);have et2:(upd H4 t2 (.tup [.int (a:Int),.int (b:Int)])) t2=uA (.tup [.int (a:Int),.int (b:Int)]):=Ab;have pp5:BI (rPair K (upd H4 t2 (.tup [.int (a:Int),.int (b:Int)]))) ps xs:=u7 (λa b=>Aq Aw _ _ a b s5.ts) pp4;have pr5:BI (rPair K (upd H4 t2 (.tup [.int (a:Int),.int (b:Int)]))) as ys:=u7 (λa b=>Aq Aw _ _ a b s5.ts) pr4;have eP5:=s5 _ _ rf;have g6:=s5 _ _ ig;have fk:=iE.trans s5;generalize upd H4 t2 (.tup [.int (a:Int),.int (b:Int)])=H5 at s5 et2 pp5 pr5 eP5 g6 fk;have nps:(ps.map srt).Nodup:=by
  rw[BM] at nd;exact(KB.mp nd).2.1
 refine⟨Pa,xs,.ref t2,[(a:Int),(b:Int)],ps,j,rfl,rfl,eP5,pp5,Fl (ns:=[(a:Int),(b:Int)]) et2,hp,ADa nps hp,?_⟩;have ts6:TSm H5 (upd H5 Pa (.lst (xs.eraseIdx j))):=u6 eP5;have eP6:(upd H5 Pa (.lst (xs.eraseIdx j))) Pa=uA (.lst (xs.eraseIdx j)):=Ab;have kS:(upd H5 Pa (.lst (xs.eraseIdx j))) R=uA (.lst ys):=by rw[Af (Cb PR)];exact g6
 have s6:Same H (upd H5 Pa (.lst (xs.eraseIdx j))):=λb o e=>by
  rw[Af (Ae e hPa)];exact fk b o e
 have pp6:BI (rPair K (upd H5 Pa (.lst (xs.eraseIdx j)))) (ps.eraseIdx j) (xs.eraseIdx j):=u7 (λa b=>Aq Aw _ _ a b ts6) (Paired.erase pp5 j);have pr6:BI (rPair K (upd H5 Pa (.lst (xs.eraseIdx j)))) as ys:=u7 (λa b=>Aq Aw _ _ a b ts6) pr5;generalize upd H5 Pa (.lst (xs.eraseIdx j))=H6 at ts6 eP6 kS s6 pp6 pr6;refine⟨_,rfl,.inl ⟨rfl,_,uy kS⟩,_,rfl,_,rfl,(by show 2<=sizeLine;decide),λt3 ht3=>?_⟩;refine⟨_,rfl,_,rfl,(by show 2<=sizeLine;decide),λt4 ht4=>?_⟩;refine⟨(by show 2<=sizeLine;decide),λL hL=>?_⟩;have s7:=(u8 ht3 (.tup [.int (a:Int),.int (b:Int)])).trans ((u8 ht4 (.tup [.int (b:Int),.int (a:Int)])).trans (u8 hL (.lst [.ref t3,.ref t4])));have e3:(upd (upd (upd H6 t3 (.tup [.int (a:Int),.int (b:Int)])) t4 (.tup [.int (b:Int),.int (a:Int)])) L (.lst [.ref t3,.ref t4])) t3=uA (.tup [.int (a:Int),.int (b:Int)]):=(u8 hL _) _ _ ((u8 ht4 _) _ _ Ab);have e4:(upd (upd (upd H6 t3 (.tup [.int (a:Int),.int (b:Int)])) t4 (.tup [.int (b:Int),.int (a:Int)])) L (.lst [.ref t3,.ref t4])) t4=uA (.tup [.int (b:Int),.int (a:Int)]):=(u8 hL _) _ _ Ab;have eL:(upd (upd (upd H6 t3 (.tup [.int (a:Int),.int (b:Int)])) t4 (.tup [.int (b:Int),.int (a:Int)])) L (.lst [.ref t3,.ref t4])) L=uA (.lst [.ref t3,.ref t4]):=Ab;generalize upd (upd (upd H6 t3 (.tup [.int (a:Int),.int (b:Int)])) t4 (.tup [.int (b:Int),.int (a:Int)])) L (.lst [.ref t3,.ref t4])=H7 at s7 e3 e4 eL;have v0:=Fa (nn / ((xs.length:Nat):Int)) (show(2:Int)≠0 by decide);have v1:=EG (nn / ((xs.length:Nat):Int)) (show(0:Int)<2 by decide);obtain⟨x',p',sJ,esr,okp,rp'⟩:∃(x':Addr) (p':uI),atI [V.ref t3,V.ref t4] (nn / ((xs.length:Nat):Int)%2)=uA (.ref x')/\srt p'=srt [(a:Int),(b:Int)]/\OkTie m p'/\rPair K H7 p' (.ref x'):=by
  generalize nn / ((xs.length:Nat):Int)%2=vv at v0 v1;obtain⟨k,rfl⟩:=Hk v0
  match k,v1 with
  | 0,_=>exact⟨t3,[(a:Int),(b:Int)],Bg rfl,rfl,⟨_,_,rfl,fv,zq am,fv,zr ba am,by lia⟩,Fl (ns:=[(a:Int),(b:Int)]) e3⟩
  | 1,_=>exact⟨t4,[(b:Int),(a:Int)],Bg rfl,by rw[AEu ba,Mv ba],⟨_,_,rfl,fv,zr ba am,fv,zq am,by lia⟩,Fl (ns:=[(b:Int),(a:Int)]) e4⟩
  | k+2,h=>exact uH h (by lia)
 have eR7:=s7 _ _ kS;refine⟨_,rfl,_,_,rfl,rfl,(by show(0:Int)<2;decide),L,_,_,_,rfl,rfl,uy eL,sJ,R,ys,_,rfl,rfl,eR7,Ay (by lia),?_⟩;refine⟨_,rfl,_,_,rfl,rfl,⟨by decide,by decide⟩,?_⟩;have ts8:TSm H7 (upd H7 R (.lst (ys++[.ref x']))):=u6 eR7;refine⟨(ps.eraseIdx j).length,?_,_,_,_,ps.eraseIdx j,as++[p'],xs.eraseIdx j,ys++[.ref x'],rfl,rfl,λb o e=>?_,?_,Ab,u7 (λa b=>Aq Aw _ _ a b (s7.ts.trans ts8)) pp6,u4 (u7 (λa b=>Aq Aw _ _ a b (s7.ts.trans ts8)) pr6) (u5 (Aq Aw _ _ _ _ ts8 rp')),λt ht=>dn t (List.mem_of_mem_eraseIdx ht),λt ht=>?_,AFI nd hp esr,?_,?_⟩
 .rw[M7,uD (by lia)]
  lia
 .rw[Af (Ae e hRH)]
  exact s7 _ _ (s6 b o e)
 .rw[Af PR]
  exact s7 _ _ eP6
 .rcases Ct.mp ht with ht| ht
  .exact ok t ht
  .rw[BG.mp ht]
   exact okp
 .rw[M7]
  split<;>lia
 .rw[AZ]
  show as.length+1<=12;lia
end K32
namespace K32
open PySem L2 G
theorem SX{x:Nat}{a b:Nat}(h:as[x]?=uA [(a:Int),(b:Int)]):(ea (as.map srt) x=a/\eb (as.map srt) x=b)\/(ea (as.map srt) x=b/\eb (as.map srt) x=a):=by
 have e:(as.map srt).getD x []=srt [(a:Int),(b:Int)]:=by
  rw[AD,AS,h];rfl
 unfold ea eb;rw[e,Et];split
 .exact .inr ⟨rfl,rfl⟩
 .exact .inl ⟨rfl,rfl⟩
theorem YW(ok:OkTies (z:Int) as){x:Nat}(h:x<as.length):∃a b:Nat,as[x]?=uA [(a:Int),(b:Int)]/\a<z/\b<z/\a≠b:=by
 obtain⟨a,b,e,a0,a1,b0,b1,n⟩:=ok.ok as[x] (Fn h);refine⟨a.toNat,b.toNat,by rw[AI h,e,DH a0,DH b0],wT b0 a1 b1,vw b0 b1,by lia⟩
theorem Fq(ok:OkTies (z:Int) as):Apart (as.map srt):=λx hx=>by
 rw[AB] at hx;obtain⟨a,b,e,_,_,n⟩:=YW ok hx;rcases SX e with⟨h1,h2⟩| ⟨h1,h2⟩
 .rw[h1,h2];exact n
 .rw[h1,h2];exact Cb n
theorem JL(h:OkTies (z:Int) as):OkB z (as.map srt):=λt ht=>by
 obtain⟨u,hu,rfl⟩:=A1.mp ht;obtain⟨a,b,e,a0,a1,b0,b1,n⟩:=h.ok u hu;rw[e,Et];split
 .exact⟨b.toNat,a.toNat,by rw[DH a0,DH b0],wT a0 b1 a1,vw a0 a1⟩
 .exact⟨a.toNat,b.toNat,by rw[DH a0,DH b0],vw a0 a1,wT a0 b1 a1⟩
def TlAt(K:Ap)(H:Hp)(l:Addr)(as:uJ):Prop:=∃xs,SqL K H l xs/\BI (rPair K H) as xs
theorem TlAt.same(h:TlAt K H l as)(e:Same H H'):TlAt K H' l as:=by obtain⟨xs,a,b⟩:=h;exact⟨xs,e.seq a,u7 (λa b r=>Aq Aw _ _ a b e.ts r) b⟩
structure Sol(n:Nat)(A:uL->Prop)(ss:List uL):Prop where
 mem:∀s,s∈ss↔(s.Pairwise (· < ·)/\(∀x∈s,x<n)/\A s)
 ord:ss.Pairwise λs u=>num n s<num n u
def RingS(rd:Bool)(z:Nat)(as:uJ)(s:uL):Prop:=accR rd z (idF z) (edg (as.map srt) s)
def ABq(K:Ap):Sp:=λvs H Q _=>∃(c:Int),vs=[.int c]/\∀(t l:Addr) (z:Nat) (as:uJ) (H':Hp),Same H H'->SqT K H' t [.int (z:Int),.ref l]->TlAt K H' l as->OkTies (z:Int) as->1<=z->z<=10->as.length<=12->Q (.ref t) H'
structure In(K:Ap)(l:Addr)(z:Nat)(as:uJ)(H:Hp):Prop where
 tl:TlAt K H l as
 ok:OkTies (z:Int) as
 z1:1<=z
 z10:z<=10
 a12:as.length<=12
theorem In.same(h:In K l z as H)(e:Same H H'):In K l z as H':=⟨h.tl.same e,h.ok,h.z1,h.z10,h.a12⟩
def Told(K:Ap)(H':Hp)(L:Addr)(ss:List uL):Prop:=∃ys,SqL K H' L ys/\BI (rPair K H') (ss.map up) ys
theorem Told.same{L:Addr}(h:Told K H L ss)(e:Same H H'):Told K H' L ss:=by obtain⟨xs,a,b⟩:=h;exact⟨xs,e.seq a,u7 (λa b r=>Aq Aw _ _ a b e.ts r) b⟩
theorem HX:∀{ss:List uL}{ys:List V},BI (K32s.rTies K H) ss ys->BI (rPair K H) (ss.map up) ys:=by
 intro l m h
 induction h with
 | nil=>exact .nil
 | cons h t ih=>obtain⟨p,e,h⟩:=h;exact .cons ⟨p,_,e,uz h,paired_ints _⟩ ih
theorem QJ{ae:List Row}{A:uL->Prop}(cn:Canon n ae hd)(ld:∀s:uL,s.Pairwise (· < ·)->(∀x∈s,x<n)->(led ae hd s=true↔A s)):Sol n A (setsOf ae hd):=by
 have I:=HN _ _ rfl cn.least.ok _ cn.knot;refine⟨λs=>⟨λh=>?_,by rintro⟨pw,lt,h⟩;exact(I.mem s).mpr ((ld s pw lt).mpr h)⟩,I.ord⟩;obtain⟨pw,lt⟩:=I.way s h;have lt:=λx hx=>(lt x hx).2;exact⟨pw,lt,(ld s pw lt).mp ((I.mem s).mp h)⟩
theorem Vg:FnScope ["_law_cell","_law_number"] zl29 (Ah ADG):=fscp (by decide+kernel)
theorem AEx(F:Fun K "_law_web" "_law_web" ADG f fd)
  (GX:Cal P w K mg base 1 fX fdX "_law_mixed" zl29 Vu)
  (GR:Cal P w K mg base 2 fR qW "_law_rows" zl30 (YJ K)) :
  FnOk P w K mg base CX0 3 f fd zl29 (ABq K):=by
 refine F.ok Vg (λvs H Q E h=>?_) (λa7 A outer s H vs Q E hr h=>?_)
 .obtain⟨c,rfl,_⟩:=h
  rfl
 obtain⟨c,rfl,q⟩:=h;have bm:Room 1 _:=hr.mono (by decide);have c6:Room 2 _:=hr.mono (by decide);refine⟨_,Ad (Ak (i:=1) Vg.nd (Az Ek (pv 0) Ag))
  (Ad (Bl (Am DR (Az Ca (pv 0) Ag) Ag)
   (Ad (Ak (i:=1) Vg.nd (BP GX bm rfl (Aa (pv 0) Ac)))
   (Ai (Ao (Cq (Aa (Az Cp Ag (Az Ca (pv 1) Ag)) (Aa (BP GR c6 rfl (Aa (Az Cp Ag (Az Ca (pv 1) Ag)) (Aa (Az Ek (pv 1) Ag) Ac))) Ac)))))) BJ)
  (Ai (Ao (Cq (Aa (Az Cp Ag (Az Ca (pv 1) Ag)) (Aa (BP GR c6 rfl (Aa (Az Cp Ag (Az Ca (pv 1) Ag)) (Aa (Az Ek (pv 1) Ag) Ac))) Ac)))))),?_⟩
 have fin:∀{m:Int} (m2:1<=m) (m10:m<=10) (l:Addr) (xs:List V) (as:uJ) (H':Hp),Same H H'->H' l=uA (.lst xs)->BI (rPair K H') as xs->OkTies m as->as.length<=12->∀t,H' t=none->Q (.ref t) (upd H' t (.tup [V.int m,V.ref l])):=λ{m} m2 m10 l xs as H' s' el pl ok a12 t ht=>by
  have em:((m.toNat:Nat):Int)=m:=DH (by lia);have s2:=u8 ht (.tup [V.int m,V.ref l]);refine q t l m.toNat as _ (s'.trans s2) (uz (by rw[Ab,em])) (TlAt.same ⟨xs,uy el,pl⟩ s2) (by rw[em];exact ok) (by lia) (by lia) a12
 refine⟨_,rfl,_,_,rfl,rfl,⟨by decide,by decide⟩,?_⟩;refine⟨_,rfl,_,_,rfl,rfl,(by show(0:Int)<2;decide),rfl,_,rfl,ite2 (λ_=>?_) (λ_=>?_)⟩
 .refine⟨_,rfl,c,rfl,λn=>?_⟩
  have h1:=Fa n (show(5:Int)≠0 by decide);have h2:=EG n (show(0:Int)<5 by decide);refine⟨_,rfl,_,_,rfl,rfl,(by show(0:Int)<5;decide),_,_,rfl,rfl,_,rfl,_,_,rfl,rfl,(by show(0:Int)<5;decide),_,_,rfl,rfl,_,rfl,_,_,rfl,rfl,⟨by decide,by decide⟩,3+n%5,n / 5,rfl,zJ,zw,λl xs as H' s' _ el pl ok a12=>⟨(by show 2<=sizeLine;decide),fin zJ zw l xs as H' s' el pl ok a12⟩⟩
 .have h1:=Fa (c / 2) (show(10:Int)≠0 by decide)
  have h2:=EG (c / 2) (show(0:Int)<10 by decide);refine⟨_,rfl,_,_,rfl,rfl,(by show(0:Int)<10;decide),_,_,rfl,rfl,_,rfl,_,_,rfl,rfl,(by show(0:Int)<10;decide),_,_,rfl,rfl,_,rfl,_,_,rfl,rfl,⟨by decide,by decide⟩,1+c / 2%10,c / 2 / 10,rfl,zK,zL,λl xs as H' s' _ el pl ok a12=>⟨(by show 2<=sizeLine;decide),fin zK zL l xs as H' s' el pl ok a12⟩⟩
end K32
namespace K32
open PySem L2
def AFq(K:Ap):Sp:=λvs H Q _=>∃(l:Addr) (a b:Int) (hs:uI),vs=[.ref l,.int a,.int b]/\SqL K H l (hs.map V.int)/\hs.length<=10 /\
 ∀(D:Addr) (H':Hp),Same H H'->H D=none->H' D=uA (.lst ((asOne hs a b).map V.int))->Q (.ref D) H'
def ZD(K:Ap):Sp:=λvs H Q _=>∃(l:Addr) (x:Int) (hs:uI),vs=[.ref l,.int x]/\SqL K H l (hs.map V.int)/\hs.length<=10 /\
 ∀(D:Addr) (H':Hp),Same H H'->H D=none->H' D=uA (.lst ((under hs.length hs x).map V.int))->Q (.ref D) H'
abbrev rRow(K:Ap)(H:Hp)(s:Addr)(ms:uI):Prop:=SqL K H s (ms.map V.int)\/SqT K H s (ms.map V.int)
theorem rRow.same{s:Addr}(h:rRow K H s ms)(e:Same H H'):rRow K H' s ms:=h.elim (λz=>.inl (e.seq z)) λz=>.inr (e.ts.seq z)
def Yc(K:Ap)(C:Addr):Sp:=λvs H Q _=>∃(p s:Addr) (z:Int) (as:uJ) (ms:uI),vs=[.ref p,.ref s]/\WebAt K C H p z as/\rRow K H s ms/\1<=z/\z<=10/\as.length<=12/\(∀t∈as,OkTie z t) /\
 ∀(D:Addr) (hs:uI) (H':Hp),Same H H'->H D=none->H' D=uA (.lst (hs.map V.int))->Heads z.toNat (sel as ms as.length) hs->Q (.ref D) H'
def AFK(H H':Hp)(D:Addr)(ts:uJ):Prop:=∃qs:uY,H' D=uA (.lst (qs.map V.ref))/\BI (λt q=>H q=uB/\q≠D/\H' q=uA (.lst (t.map V.int))) ts qs
def Xr(K:Ap)(C:Addr):Sp:=λvs H Q _=>∃(p s:Addr) (z:Int) (as:uJ) (ms:uI),vs=[.ref p,.ref s]/\WebAt K C H p z as/\rRow K H s ms/\1<=z/\z<=10/\as.length<=12/\(∀t∈as,OkTie z t) /\
 ∀(D:Addr) (hs:uI) (H':Hp),Same H H'->H D=none->Heads z.toNat (sel as ms as.length) hs->AFK H H' D (Bv z.toNat hs z.toNat)->Q (.ref D) H'
def Tf(K:Ap):Sp:=λvs H Q _=>∃(l s:Addr) (ns ms:uI),vs=[.ref l,.ref s]/\SqL K H l (ns.map V.int)/\rRow K H s ms/\ns.length<=12 /\
 ∀(D:Addr) (H':Hp),Same H H'->H D=none->H' D=uA (.lst ((ns.filter λk=>decide (k∈ms)).map V.int))->Q (.ref D) H'
noncomputable def cnts(as:uJ)(ms:uI):Nat->uI
 | 0=>[]
 | i+1=>cnts as ms i++[(((hits (i:Int) as).filter λk=>decide (k∈ms)).length:Int)]
theorem Ec(as:uJ)(ms:uI):∀i,(cnts as ms i).length=i
 | 0=>rfl
 | i+1=>by
  show(cnts as ms i++_).length=_;rw[AZ,Ec as ms i];rfl
def Mh(K:Ap)(C:Addr):Sp:=λvs H Q _=>∃(p s:Addr) (z:Int) (as:uJ) (ms:uI),vs=[.ref p,.ref s]/\WebAt K C H p z as/\rRow K H s ms/\1<=z/\z<=10/\as.length<=12 /\
 ∀(D:Addr) (H':Hp),Same H H'->H D=none->H' D=uA (.lst ((cnts as ms z.toNat).map V.int))->Q (.ref D) H'
theorem int_at(h:(ns.map V.int)[i]?=uA y):∃u,ns[i]?=uA u/\y=.int u:=by
 rw[AS] at h;cases e:ns[i]? with
 | none=>rw[e] at h;cases h
 | some u=>rw[e] at h;exact⟨u,rfl,(AN h).symm⟩
theorem take_snoc{l:List α}{x:α}(h:l[i]?=uA x):l.take (i+1)=l.take i++[x]:=by rw[Ex,h];rfl
theorem DK(ms:uI):(ms.map V.int).all flatV=true:=by
 rw[EW];intro x hx;obtain⟨i,_,rfl⟩:=A1.mp hx;rfl
theorem AFf:FnScope ["heads","one","other","least"] zl31 (Ah AFO):=fscp (by decide+kernel)
theorem AGl(F:Fun K "parts_as_one" "parts_as_one" AFO f fd)(T:Txt K mg C):FnOk P w K mg base CX0 1 f fd zl31 (AFq K):=by
 refine F.ok AFf (λvs H Q E h=>?_) (λa7 A outer s H vs Q E hr h=>?_)
 .obtain⟨l,a,b,hs,rfl,_⟩:=h
  rfl
 obtain⟨l,a,b,hs,rfl,hl,h10,q⟩:=h;refine⟨_,Ad (Ak (i:=3) AFf.nd (Ax (Zq rfl) rfl T.min Y7 (Aa (pv 1) (Aa (pv 2) Ac))))
  (Ai (Ao (Bq (Ah AFO) ["head"] ["least","one","other"] [3,1,2] rfl rfl (by decide+kernel) ⟨⟨rfl,by decide+kernel⟩,⟨rfl,by decide+kernel⟩,⟨rfl,by decide+kernel⟩,trivial⟩ (Bt (pv 0))
   (λ_ _ _=>BK (i:=0))
   (λ_ _ _=>DY)
   (λ_ _ _=>MN (Am (Er (K:=K) rfl) (pv 0) (Cq (Aa (pv 2) (Aa (pv 3) Ac))) rfl) (pv 1) (pv 0))))),?_⟩
 refine⟨_,rfl,_,rfl,a,b,rfl,?_⟩;refine⟨_,rfl,l,rfl,⟨_,hl⟩,λD hD=>?_⟩;refine Bu (xs:=hs.map V.int) (λi τ H2=>∃n:Option V,τ=[n,uA (.int (if b<a then b else a)),uA (.int a),uA (.int b)]/\Same H H2/\H2 D=uA (.lst ((asOne (hs.take i) a b).map V.int))) ⟨uB,rfl,u8 hD _,Ab⟩
  (by rintro i τ H2 _ ⟨_,_,sm,_⟩;exact sm.seq hl) ?_ ?_
 .rintro i y τ H2 hy ⟨n,rfl,sm,cr⟩
  obtain⟨x,hx,rfl⟩:=int_at hy;refine yesN ?_;refine⟨_,rfl,_,rfl,_,rfl,(by show 2<=sizeLine;decide),λt1 lv=>?_⟩;refine⟨t1,[a,b].map V.int,rfl,.inr (uz Ab),rfl,rfl,_,rfl,?_⟩;rw[uC (show ¬ (false=true) by decide),Cz];have s1:Same H2 (upd H2 t1 (.tup [.int a,.int b])):=u8 lv _;have hJ:=s1 _ _ cr;have bj:=(AH.mp hx).1;have aw:((asOne (hs.take i) a b).map V.int).length<sizeLine:=by
   unfold asOne;rw[AB,AB,B0];exact Ay (zD h10)
  have p9:∀{v:V},Same H (upd (upd H2 t1 (.tup [.int a,.int b])) D (.lst ((asOne (hs.take i) a b).map V.int++[v]))):=λ{v} b o e=>by
   rw[Af (Ae e hD)];exact s1 _ _ (sm b o e)
  have e1:∀{v:Int},(if x=a\/x=b then(if b<a then b else a) else x)=v->(asOne (hs.take (i+1)) a b).map V.int=(asOne (hs.take i) a b).map V.int++[.int v]:=λ{v} e=>by
   unfold asOne;rw[take_snoc hx,BM,BM,J3,J3,e]
  refine ite2 (λc=>?_) (λc=>?_)
  .have c':x=a\/x=b:=by simpa using uG c
   refine⟨_,rfl,_,hJ,aw,_,rfl,p9,?_⟩;rw[Ab,e1 (uD c')]
  .have c':¬ (x=a\/x=b):=λz=>c (uE (by simpa using z))
   refine⟨_,rfl,_,hJ,aw,_,rfl,p9,?_⟩;rw[Ab,e1 (uC c')]
 .rintro τ H2 ⟨n,rfl,sm,cr⟩
  rw[AB,CM] at cr;exact q D H2 sm hD cr
theorem AEc:FnScope zl15 zl15 (Ah QZ):=fscp (by decide+kernel)
theorem ABK(F:Fun K "points_under" "points_under" QZ f fd)(T:Txt K mg C):FnOk P w K mg base CX0 1 f fd zl15 (ZD K):=by
 refine F.ok AEc (λvs H Q E h=>?_) (λa7 A outer s H vs Q E hr h=>?_)
 .obtain⟨l,x,hs,rfl,_⟩:=h
  rfl
 obtain⟨l,x,hs,rfl,hl,h10,q⟩:=h;refine⟨_,Ai (Ao (Bq (Ah QZ) ["point","its_head"] ["head"] [1] rfl rfl (by decide+kernel) ⟨⟨rfl,by decide+kernel⟩,trivial⟩ (HY rfl T.enum (Aa (pv 0) Ac))
   (λ_ _ _=>Hj (K:=K) (n:=2) rfl rfl (Bd (BK (i:=0)) (Bd (BK (i:=1)) Dp)))
   (λ_ _ _=>CK (Am DR (pv 1) (pv 2)))
   (λ_ _ _=>pv 0))),?_⟩
 refine⟨_,rfl,l,rfl,⟨_,hl⟩,λD hD=>?_⟩;refine Gf (xs:=hs.map V.int) (λi τ H2=>∃n t:Option V,τ=[n,t,uA (.int x)]/\Same H H2/\H2 D=uA (.lst ((under i hs x).map V.int))) ⟨uB,uB,rfl,u8 hD _,Ab⟩
  (by rintro i τ H2 _ ⟨_,_,_,sm,_⟩;exact sm.seq hl) ?_ ?_
 .rintro i y τ H2 T1 hy eJ ⟨n,t,rfl,sm,cr⟩
  obtain⟨u,hu,rfl⟩:=int_at hy;have s1:Same H2 (upd H2 T1 (.tup [.int i,.int u])):=u8 eJ _;have hJ:=s1 _ _ cr;have bj:=(AH.mp hu).1;have gu:gh hs (i:Int)=u:=by rw[AGb,AD,hu];rfl
  refine⟨T1,_,rfl,uz Ab,rfl,_,_,rfl,_,_,rfl,rfl,?_⟩;refine⟨_,rfl,_,rfl,rfl,_,rfl,?_⟩;by_cases c:u=x
  .refine iteP (by rw[c]) ⟨_,rfl,_,hJ,?_,_,_,rfl,λb o e=>?_,?_⟩
   .have:=ABa i (λp=>decide (gh hs p=x))
    unfold under;rw[AB];exact Ay (by lia)
   .rw[Af (Ae e hD)]
    exact s1 _ _ (sm b o e)
   .unfold under
    rw[Ab,Oi,gu,uE c,uD rfl,BM];rfl
  .refine iteN (λe=>c (V.int.inj e)) ⟨_,_,rfl,sm.trans s1,?_⟩
   unfold under at hJ ⊢;rw[hJ,Oi,gu,uF c,uC Be,Co]
 .rintro τ H2 ⟨n,t,rfl,sm,cr⟩
  rw[AB] at cr;exact q D H2 sm hD cr
theorem Ld{S:Hp->List V->Prop}{g:TG}{tb:TS}{D:Ends}(Pv:Nat->St->Hp->Prop)(h0:Pv 0 σ H)(hl:∀i σ H,i<=xs.length->Pv i σ H->S H xs)
  (hs:∀i x σ H T,xs[i]?=uA x->H T=none->Pv i σ H->g (.ref T) σ (upd H T (.tup [.int i,x])) λσ2 H2=>tb {D with nx:=Pv (i+1),ct:=Pv (i+1),bk:=D.nx} σ2 H2) (hd:∀σ H,Pv xs.length σ H->D.nx σ H) :
  ∃W:Nat->Nat->St->Hp->Prop,(∃m,W 0 m σ H)/\∀i m σ H,W i m σ H ->
   ((Ien S).stop i H/\D.nx σ H)\/((Ien S).go i H/\∃N:St->Hp->Prop,(∀σ' H',N σ' H'->∃m',m'<m/\W (i+1) m' σ' H')/\∀x H',(Ien S).yld i H x H'->g x σ H' λσ2 H2=>tb {D with nx:=N,ct:=N,bk:=D.nx} σ2 H2):=by
 refine AFx xs.length Pv h0 (λi σ H hi p=>⟨xs,xs[i],hl i σ H (DB hi) p,by simp[hi]⟩) (λσ H p=>⟨xs,hl _ σ H (AF _) p,rfl⟩) (λi σ H x H' hi p y=>?_) hd;obtain⟨T,z,rfl,hT,rfl,y⟩:=y;exact hs i z σ H T (y xs (hl i σ _ (DB hi) p)) hT p
theorem JB:FnScope ["web","some","heads","number","tie"] zl17 (Ah Vd):=fscp (by decide+kernel)
theorem ADT(F:Fun K "part_heads" "part_heads" Vd f fd)(T:Txt K mg C)
  (GS:FnOk P w K mg base CX0 1 fS cK zl3 (Ii K C)) (bS:Binds K cK zl3 []) (mS:Meth K C "size" fS)
  (GT:FnOk P w K mg base CX0 1 fT cE zl3 (Qf K C)) (bT:Binds K cE zl3 []) (mT:Meth K C "ties" fT)
  (GO:Cal P w K mg base 1 fO ny "parts_as_one" zl31 (AFq K)) :
  FnOk P w K mg base CX0 2 f fd zl17 (Yc K C):=by
 refine F.ok JB (λvs H Q E h=>?_) (λa7 A outer s H vs Q E hr h=>?_)
 .obtain⟨p,sm,z,as,ms,rfl,_⟩:=h
  rfl
 obtain⟨p,so,z,as,ms,rfl,hW,dm,z1,z10,f6,ok,q⟩:=h;refine⟨_,Ad (Ak (i:=2) JB.nd (Bb (NZ rfl) rfl T.list E6 (Aa (Bb Jx rfl T.range Pl (Aa (CW (pv 0) T.cl mS GS hr bS .nil pass0) Ac)) Ac)))
  (Ad (DW C5 rfl (HY rfl T.enum (Aa (CW (pv 0) T.cl mT GT hr bT .nil pass0) Ac)) (Ju rfl (Bd (BX (i:=3) JB.nd) (Bd (BX (i:=4) JB.nd) Dp)))
   (Ai (Bl (Am Eo (pv 3) (pv 1) rfl)
    (Ai (Ak (i:=2) JB.nd (BP GO hr rfl (Aa (pv 2) (Aa (Av BL (pv 2) (Av BW (pv 4) Ag)) (Aa (Av BL (pv 2) (Av BW (pv 4) Ag)) Ac)))))) BJ)))
  (Ai (Ao (pv 2)))),?_⟩
 obtain⟨dx,j,hP,_⟩:=id hW;refine⟨_,rfl,p,dx,_,rfl,hP,rfl,p,z,_,rfl,hW,?_⟩;refine⟨z,rfl,λr dv=>?_⟩;refine⟨r,z,rfl,Ab,by lia,by lia,λD0 hD0=>?_⟩;have s1:Same H (upd H r (.rng 0 z)):=u8 dv _;have s2:=u8 hD0 (.lst ((below z.toNat).map V.int));have kA:=s1.trans s2;have nD0:=s1.free hD0;generalize hH2:upd (upd H r (.rng 0 z)) D0 (.lst ((below z.toNat).map V.int))=H2 at kA ⊢;have e2:H2 D0=uA (.lst ((below z.toNat).map V.int)):=by rw[<- hH2];exact Ab
 have oe:=hW.same kA;obtain⟨dx2,j2,rG,_⟩:=id oe;refine⟨_,rfl,p,dx2,_,rfl,rG,rfl,p,z,_,rfl,oe,λlt H3 s3 _ r3=>?_⟩;obtain⟨lt',xs,dC,bj,plt⟩:=r3;cases dC;refine⟨lt,rfl,⟨_,bj⟩,?_⟩;have lx:=AV plt;refine Ld (xs:=xs) (λi σ H4=>∃(v3 v4:Option V) (D:Addr) (hs:uI),σ=[uA (.ref p),uA (.ref so),uA (.ref D),v3,v4]/\Same H3 H4/\H D=uB/\H4 D=uA (.lst (hs.map V.int))/\Heads z.toNat (sel as ms i) hs)
  ⟨uB,uB,D0,below z.toNat,rfl,u3 _,nD0,s3 _ _ e2,Heads.start _⟩ (by rintro i σ H4 _ ⟨_,_,_,_,_,s4,_⟩;exact s4.seq bj) ?_ ?_
 .rintro i y σ H4 T1 hy eJ ⟨v3,v4,D,hs,rfl,s4,nD,eD,hh⟩
  obtain⟨tie,ht,rt⟩:=Paired.get plt hy;obtain⟨q1,rfl,hq1⟩:=CG rt;obtain⟨a,b,rfl,a0,a1,b0,b1,nab⟩:=ok tie (AX ht);have s5:Same H4 (upd H4 T1 (.tup [.int i,.ref q1])):=u8 eJ _;have aw:=hh.len;have gi:as.getD i []=[a,b]:=by rw[AD,ht];rfl
  refine⟨T1,_,rfl,uz Ab,rfl,_,_,rfl,_,_,rfl,rfl,?_⟩;refine⟨_,rfl,_,rfl,so,ms.map V.int,rfl,(dm.same (kA.trans (s3.trans (s4.trans s5)))),rfl,DK ms,_,rfl,?_⟩;rw[uC (show ¬ (false=true) by decide),Cz];have es:sel as ms (i+1)=sel as ms i++(if(i:Int)∈ms then [as.getD i []] else []):=rfl;by_cases c:(i:Int)∈ms
  .refine iteP c ?_
   have ir:=s5 _ _ eD;have hq5:=(s4.trans s5).ts.seq hq1;have ga:atI (hs.map V.int) a=uA (.int (gh hs a)):=by
    have e:=Bg (xs:=hs.map V.int) (j:=a.toNat) (v:=.int (gh hs a)) (by rw[AS,XF a0 (zH a1 aw)];rfl)
    rwa [DH a0] at e
   have gb:atI (hs.map V.int) b=uA (.int (gh hs b)):=by
    have e:=Bg (xs:=hs.map V.int) (j:=b.toNat) (v:=.int (gh hs b)) (by rw[AS,XF b0 (zH b1 aw)];rfl)
    rwa [DH b0] at e
   refine⟨_,rfl,_,rfl,_,rfl,q1,_,_,_,rfl,rfl,hq5,at0,D,_,_,_,rfl,rfl,uy ir,ga,?_⟩;refine⟨_,rfl,_,rfl,q1,_,_,_,rfl,rfl,hq5,at1,D,_,_,_,rfl,rfl,uy ir,gb,?_⟩;refine⟨D,gh hs a,gh hs b,hs,rfl,uy ir,zA aw z10,λD6 H6 s6 n6 e6=>?_⟩;refine⟨_,_,D6,_,rfl,s4.trans (s5.trans s6),(kA.trans (s3.trans (s4.trans s5))).free n6,e6,?_⟩;rw[es,uD c,gi];refine hh.join a0 (zI a1) b0 (zI b1) λe he x hx=>?_;obtain⟨i',_,_,rfl⟩:=GQ.mp he;rw[AD] at hx;cases e':as[i']? with
   | none=>rw[e'] at hx;cases hx
   | some t =>
    rw[e'] at hx;obtain⟨u,v,rfl,u0,u1,v0,v1,_⟩:=ok t (AX e');have hG:x=u\/x=v:=by simpa using hx
    rcases hG with rfl| rfl<;>lia
  .refine iteN c ?_
   refine⟨_,_,D,hs,rfl,s4.trans s5,nD,s5 _ _ eD,?_⟩;rw[es,uC c,Co];exact hh
 .rintro σ H4 ⟨v3,v4,D,hs,rfl,s4,nD,eD,hh⟩
  rw[<- lx] at hh;exact⟨_,rfl,q D hs H4 (kA.trans (s3.trans s4)) nD eD hh⟩
theorem Xz:FnScope ["web","some","heads"] zl17 (Ah Ql):=fscp (by decide+kernel)
theorem ACJ(F:Fun K "web_parts" "web_parts" Ql f fd)(T:Txt K mg C)
  (GS:FnOk P w K mg base CX0 1 fS cK zl3 (Ii K C)) (bS:Binds K cK zl3 []) (mS:Meth K C "size" fS)
  (GH:Cal P w K mg base 2 fH fdH "part_heads" zl17 (Yc K C))
  (GU:Cal P w K mg base 1 fU qA "points_under" zl15 (ZD K)) :
  FnOk P w K mg base CX0 3 f fd zl17 (Xr K C):=by
 refine F.ok Xz (λvs H Q E h=>?_) (λa7 A outer s H vs Q E hr h=>?_)
 .obtain⟨p,sm,z,as,ms,rfl,_⟩:=h
  rfl
 obtain⟨p,so,z,as,ms,rfl,hW,dm,z1,z10,f6,ok,q⟩:=h;have bm:Room 1 _:=hr.mono (by decide);refine⟨_,Ad (Ak (i:=2) Xz.nd (BP GH hr rfl (Aa (pv 0) (Aa (pv 1) Ac))))
  (Ai (Ao (Bq (Ah Ql) ["head"] ["heads"] [2] rfl rfl (by decide+kernel) ⟨⟨rfl,by decide+kernel⟩,trivial⟩ (Cv rfl T.range (Aa (CW (pv 0) T.cl mS GS bm bS .nil pass0) Ac))
   (λ_ _ _=>BK (i:=0))
   (λ_ _ _=>CK (Am DR (Av (Vc (K:=K) rfl) (pv 1) (pv 0)) (pv 0)))
   (λ_ _ _=>BP GU bm rfl (Aa (pv 1) (Aa (pv 0) Ac)))))),?_⟩
 refine⟨_,rfl,_,rfl,p,so,z,as,ms,rfl,hW,dm,z1,z10,f6,ok,λDh hs H1 s1 nDh eDh hh=>?_⟩;have aw:=hh.len;have tQ:=hW.same s1;obtain⟨dx,j,hP,_⟩:=id tQ;refine⟨_,rfl,p,dx,_,rfl,hP,rfl,p,z,_,rfl,tQ,?_⟩;refine⟨z,rfl,by lia,by lia,λD hD=>?_⟩;refine Ci (lo:=0) (n:=z.toNat) (λi τ H2=>∃(n:Option V) (qs:uY),τ=[n,uA (.ref Dh)]/\Same H1 H2/\H2 D=uA (.lst (qs.map V.ref))/\qs.length<=i/\BI (λt q=>H q=uB/\q≠D/\H2 q=uA (.lst (t.map V.int))) (Bv z.toNat hs i) qs)
  ⟨uB,[],rfl,u8 hD _,Ab,AF _,.nil⟩ ?_ ?_
 .rintro i τ H2 hi ⟨n,qs,rfl,s2,e2,hq,pq⟩
  have ei:(0:Int)+(i:Int)=(i:Int):=vp;rw[ei];have ke:=s2 _ _ eDh;have gi:atI (hs.map V.int) (i:Int)=uA (.int (gh hs i)):=Bg (by rw[AS];have:=XF (h:=hs) (p:=(i:Int)) fv (by lia);rw[Cc] at this;rw[this];rfl);refine⟨_,rfl,_,rfl,Dh,_,_,_,rfl,rfl,uy ke,gi,_,rfl,rfl,_,rfl,?_⟩;have es:Bv z.toNat hs (i+1)=Bv z.toNat hs i++(if gh hs (i:Int)=(i:Int) then [under z.toNat hs (i:Int)] else []):=rfl;by_cases c:gh hs (i:Int)=(i:Int)
  .refine iteP (by rw[c]) ?_
   refine⟨_,rfl,_,rfl,Dh,(i:Int),hs,rfl,uy ke,zA aw z10,λD3 H3 s3 n3 e3=>?_⟩;rw[aw] at e3;have nD3:D3≠D:=λe=>by rw[e,e2] at n3;cases n3
   refine⟨_,s3 _ _ e2,by rw[AB];exact Ay (by lia),_,qs++[D3],rfl,λb o e=>?_,?_,by simp;exact hq,?_⟩
   .rw[Af (Ae e hD)]
    exact s3 _ _ (s2 b o e)
   .rw[Ab,BM]
    rfl
   .rw[es,uD c]
    refine u4 (u7 (λt q h=>⟨h.1,h.2.1,by rw[Af h.2.1];exact s3 _ _ h.2.2⟩) pq) (u5 ⟨(s1.trans s2).free n3,nD3,?_⟩);rw[Af nD3];exact e3
  .refine iteN (λe=>c (V.int.inj e)) ⟨_,qs,rfl,s2,e2,vd hq,?_⟩
   rw[es,uC c,Co];exact pq
 .rintro τ H2 ⟨n,qs,rfl,s2,e2,hq,pq⟩
  exact q D hs H2 (s1.trans s2) (s1.free hD) hh ⟨qs,e2,pq⟩
theorem ABg:FnScope zl16 zl16 (Ah KY):=fscp (by decide+kernel)
theorem AAb(F:Fun K "ties_within" "ties_within" KY f fd):FnOk P w K mg base CX0 1 f fd zl16 (Tf K):=by
 refine F.ok ABg (λvs H Q E h=>?_) (λa7 A outer s H vs Q E hr h=>?_)
 .obtain⟨l,so,ns,ms,rfl,_⟩:=h
  rfl
 obtain⟨l,so,ns,ms,rfl,hl,dm,f6,q⟩:=h;refine⟨_,Ai (Ao (Bq (Ah KY) ["number"] ["some"] [1] rfl rfl (by decide+kernel) ⟨⟨rfl,by decide+kernel⟩,trivial⟩ (Bt (pv 0))
   (λ_ _ _=>BK (i:=0))
   (λ_ _ _=>CK (Am (Er (K:=K) rfl) (pv 0) (pv 1) rfl))
   (λ_ _ _=>pv 0))),?_⟩
 refine⟨_,rfl,l,rfl,⟨_,hl⟩,λD hD=>?_⟩;refine Bu (xs:=ns.map V.int) (λi τ H2=>∃n:Option V,τ=[n,uA (.ref so)]/\Same H H2/\H2 D=uA (.lst (((ns.take i).filter λk=>decide (k∈ms)).map V.int))) ⟨uB,rfl,u8 hD _,Ab⟩
  (by rintro i τ H2 _ ⟨_,_,sm,_⟩;exact sm.seq hl) ?_ ?_
 .rintro i y τ H2 hy ⟨n,rfl,sm,cr⟩
  obtain⟨u,hu,rfl⟩:=int_at hy;refine⟨_,rfl,_,rfl,so,ms.map V.int,rfl,dm.same sm,rfl,DK ms,_,rfl,?_⟩;rw[uC (show ¬ (false=true) by decide),Cz];have ef:(ns.take (i+1)).filter (λk=>decide (k∈ms))=(ns.take i).filter (λk=>decide (k∈ms))++(if u∈ms then [u] else []):=by
   rw[take_snoc hu,CL];by_cases c:u∈ms<;>simp[c]
  by_cases c:u∈ms
  .refine iteP c ⟨_,rfl,_,cr,?_,_,rfl,λb o e=>?_,?_⟩
   .have:=Do (λk=>decide (k∈ms)) (ns.take i)
    rw[B0] at this;rw[AB];exact Ay (ye this f6)
   .rw[Af (Ae e hD)]
    exact sm b o e
   .rw[Ab,ef,uD c,BM]
    rfl
  .refine iteN c ⟨_,rfl,sm,?_⟩
   rw[cr,ef,uC c,Co]
 .rintro τ H2 ⟨n,rfl,sm,cr⟩
  rw[AB,CM] at cr;exact q D H2 sm hD cr
theorem ADY:FnScope zl17 zl17 (Ah Kv):=fscp (by decide+kernel)
theorem Zk(F:Fun K "tie_counts" "tie_counts" Kv f fd)(T:Txt K mg C)
  (GS:FnOk P w K mg base CX0 1 fS cK zl3 (Ii K C)) (bS:Binds K cK zl3 []) (mS:Meth K C "size" fS)
  (GA:FnOk P w K mg base CX0 1 fA dS zl4 (AGI K C)) (bA:Binds K dS zl4 []) (mA:Meth K C "at" fA)
  (GW:Cal P w K mg base 1 fW fdW "ties_within" zl16 (Tf K)) :
  FnOk P w K mg base CX0 2 f fd zl17 (Mh K C):=by
 refine F.ok ADY (λvs H Q E h=>?_) (λa7 A outer s H vs Q E hr h=>?_)
 .obtain⟨p,sm,z,as,ms,rfl,_⟩:=h
  rfl
 obtain⟨p,so,z,as,ms,rfl,hW,dm,z1,z10,f6,q⟩:=h;refine⟨_,Ai (Ao (Bq (Ah Kv) ["point"] ["web","some"] [0,1] rfl rfl (by decide+kernel) ⟨⟨rfl,by decide+kernel⟩,⟨rfl,by decide+kernel⟩,trivial⟩ (Cv rfl T.range (Aa (CW (pv 0) T.cl mS GS hr bS .nil pass0) Ac))
   (λ_ _ _=>BK (i:=0))
   (λ_ _ _=>DY)
   (λ_ _ _=>Ax (Fe (K:=K) rfl) rfl T.len Cn (Aa (BP GW hr rfl (Aa (CN (pv 1) T.cl mA GA hr bA .nil pass0 (Aa (pv 0) Ac)) (Aa (pv 2) Ac))) Ac)))),?_⟩
 obtain⟨dx,j,hP,_⟩:=id hW;refine⟨_,rfl,p,dx,_,rfl,hP,rfl,p,z,_,rfl,hW,?_⟩;refine⟨z,rfl,by lia,by lia,λD hD=>?_⟩;refine Ci (lo:=0) (n:=z.toNat) (λi τ H2=>∃(n:Option V),τ=[n,uA (.ref p),uA (.ref so)]/\Same H H2/\H2 D=uA (.lst ((cnts as ms i).map V.int))) ⟨uB,rfl,u8 hD _,Ab⟩ ?_ ?_
 .rintro i τ H2 hi ⟨n,rfl,s2,e2⟩
  have ei:(0:Int)+(i:Int)=(i:Int):=vp;rw[ei];refine yesN ?_;have oe:=hW.same s2;obtain⟨dx2,j2,rG,_⟩:=id oe;refine⟨_,rfl,p,dx2,_,rfl,rG,rfl,_,rfl,p,z,_,as,rfl,oe,f6,λl3 H3 s3 n3 e3=>?_⟩;have hl:=JC (i:Int) 0 as;refine⟨_,rfl,l3,so,hits (i:Int) as,ms,rfl,uy e3,dm.same (s2.trans s3),BY hl f6,λD4 H4 s4 n4 e4=>?_⟩;refine⟨D4,_,rfl,.inl (uy e4),_,s4 _ _ (s3 _ _ e2),?_,_,rfl,λb o e=>?_,?_⟩
  .rw[AB,Ec]
   exact Ay (by lia)
  .rw[Af (Ae e hD)]
   exact s4 _ _ (s3 _ _ (s2 b o e))
  .rw[Ab,AB]
   show _=uA (HO.lst ((cnts as ms i++[(((hits (i:Int) as).filter λk=>decide (k∈ms)).length:Int)]).map V.int));rw[BM];rfl
 .rintro τ H2 ⟨n,rfl,s2,e2⟩
  exact q D H2 s2 hD e2
end K32
namespace G
open L2
section
variable{h:uI}{es:uJ}
def BigH(n:Nat)(h:uI)(r:Nat):Prop:=gh h (r:Int)=(r:Int)/\1<(under n h (r:Int)).length
instance (r:Nat):Decidable (BigH n h r):=by unfold BigH;infer_instance
theorem Pq:∀i,(Bv n h i).filter (λt=>decide (1<t.length))=((AW i).filter λr=>decide (BigH n h r)).map λ(r:Nat)=>under n h (r:Int)
 | 0=>rfl
 | i+1=>by
  show(Bv n h i++_).filter _=_;rw[CL,Pq i,FM,CL,BM]
  congr 1
  by_cases c:gh h (i:Int)=(i:Int)
  .rw[uD c]
   by_cases d:1<(under n h (i:Int)).length
   .rw[De (p:=λ(t:uI)=>decide (1<t.length)) (uE d),De (p:=λr=>decide (BigH n h r)) (uE (show BigH n h i from⟨c,d⟩))];rfl
   .rw[C3 (p:=λ(t:uI)=>decide (1<t.length)) (by rw[decide_eq_true_iff];exact d),C3 (p:=λr=>decide (BigH n h r)) (by rw[decide_eq_true_iff];exact λb=>d b.2)];rfl
  .rw[uC c,C3 (p:=λr=>decide (BigH n h r)) (by rw[decide_eq_true_iff];exact λb=>c b.1)];rfl
theorem ZG:((Bv n h n).filter λt=>decide (1<t.length)).length=1↔∃r,(r<n/\BigH n h r)/\∀r',r'<n->BigH n h r'->r'=r:=by
 rw[Pq,AB];constructor
 .intro e
  obtain⟨r,er⟩:=Kj.mp e;have hm:∀x,x∈(AW n).filter (λr=>decide (BigH n h r))↔x<n/\BigH n h x:=λx=>by rw[BQ,A8,decide_eq_true_iff]
  refine⟨r,(hm r).mp (by rw[er];exact AG ..),λr' h1 h2=>?_⟩;have:=(hm r').mpr ⟨h1,h2⟩;rw[er] at this;exact BG.mp this
 .rintro⟨r,⟨rn,rb⟩,un⟩
  have hm:∀x,x∈(AW n).filter (λr=>decide (BigH n h r))↔x<n/\BigH n h x:=λx=>by rw[BQ,A8,decide_eq_true_iff]
  have nd:((AW n).filter λr=>decide (BigH n h r)).Nodup:=HM.filter _
  match e:(AW n).filter (λr=>decide (BigH n h r)),nd with
  | [],_=>have:=(hm r).mpr ⟨rn,rb⟩;rw[e] at this;cases this
  | [_],_=>rfl
  | a::b::l,nd =>
   have ha:=(hm a).mp (by rw[e];simp);have hb:=(hm b).mp (by rw[e];simp);have:a=b:=(un a ha.1 ha.2).trans (un b hb.1 hb.2).symm;exact uH this λc=>(DC.mp nd).1 (by rw[c];simp)
theorem WD(H:Heads n es h){p q:Nat}(pn:p<n)(qn:q<n)(pq:p≠q)(e:gh h (p:Int)=gh h (q:Int)):∃r,r<n/\gh h (p:Int)=(r:Int)/\BigH n h r:=by
 have l:=H.le (p:Int) fv (uP pn);refine⟨(gh h (p:Int)).toNat,by lia,by lia,?_⟩;have er:(((gh h (p:Int)).toNat:Nat):Int)=gh h (p:Int):=by lia
 unfold BigH;rw[er];refine⟨H.idem _ fv (uP pn),?_⟩;have hp:(p:Int)∈under n h (gh h (p:Int)):=mem_upTo.mpr ⟨⟨fv,uP pn⟩,uE rfl⟩;have hq:(q:Int)∈under n h (gh h (p:Int)):=mem_upTo.mpr ⟨⟨fv,uP qn⟩,uE e.symm⟩
 match eu:under n h (gh h (p:Int)),hp,hq with
 | [],hp,_=>cases hp
 | [a],hp,hq =>
  have h1:=BG.mp hp;have h2:=BG.mp hq;lia
 | _::_::_,_,_=>simp
theorem ABU(H:Heads n es h){r:Nat}(rn:r<n)(b:BigH n h r):∃q:Nat,q<n/\q≠r/\gh h (q:Int)=(r:Int):=by
 have asc:=ABL n λp=>decide (gh h p=(r:Int))
 match eu:under n h (r:Int),b.2 with
 | x::y::l,_ =>
  have hx:x∈under n h (r:Int):=by rw[eu];simp
  have hy:y∈under n h (r:Int):=by rw[eu];simp
  obtain⟨⟨x0,x1⟩,ex⟩:=mem_upTo.mp hx;obtain⟨⟨y0,y1⟩,ey⟩:=mem_upTo.mp hy;have ex:=uG ex;have ey:=uG ey;have xy:x<y:=by
   have a:(under n h (r:Int)).Pairwise (· < ·):=asc;rw[eu] at a;exact(Dx.mp a).1 y (by simp)
  by_cases c:x.toNat=r
  .exact⟨y.toNat,by lia,by lia,by rw[show((y.toNat:Nat):Int)=y from wx y0];exact ey⟩
  .exact⟨x.toNat,by lia,c,by rw[show((x.toNat:Nat):Int)=x from wx x0];exact ex⟩
theorem AAS{ea eb:Nat->Nat}{s:uL}(H:Heads n es h)(gg:∀t:uI,t∈es↔∃k∈s,t=[(ea k:Int),(eb k:Int)])(ok:∀k∈s,ea k<n/\eb k<n/\ea k≠eb k)(hk:k0∈s)(at0:ea k0=h0\/eb k0=h0) :
  ((Bv n h n).filter λt=>decide (1<t.length)).length=1↔ConT ea eb h0 s:=by
 have edge:∀k∈s,gh h (ea k:Int)=gh h (eb k:Int):=λk hk=>H.edge _ ((gg _).mpr ⟨k,hk,rfl⟩) _ (by simp) _ (by simp);have h0n:h0<n:=by
  obtain⟨a,b,_⟩:=ok k0 hk;rcases at0 with c| c
  .rw[<- c];exact a
  .rw[<- c];exact b
 have e0:gh h (ea k0:Int)=gh h (h0:Int):=by
  rcases at0 with c| c
  .rw[c]
  .rw[<- c];exact edge k0 hk
 rw[ZG];constructor
 .rintro⟨r,⟨rn,rb⟩,un⟩ S sh cl k a6
  obtain⟨a,b,ab⟩:=ok k a6;obtain⟨a0,b0,ab0⟩:=ok k0 hk;obtain⟨r1,r1n,e1,b1⟩:=WD H a b ab (edge k a6);obtain⟨r2,r2n,e2,b2⟩:=WD H a0 b0 ab0 (edge k0 hk);have er:=(un r1 r1n b1).trans (un r2 r2n b2).symm;have eq:gh h (h0:Int)=gh h (ea k:Int):=by rw[<- e0,e2,e1,er]
  have tP:Cl (λx=>S x.toNat) es:=λt ht x hx y hy sx=>by
   obtain⟨u,hu,c⟩:=(gg t).mp ht;rw[c] at hx hy;simp only[BH,D5,or_false] at hx hy;rcases hx with rfl| rfl<;>rcases hy with rfl| rfl<;>simp only[Cc] at sx ⊢
   .exact sx
   .exact(cl u hu).mp sx
   .exact(cl u hu).mpr sx
   .exact sx
  have:=H.reach (λx=>S x.toNat) tP (h0:Int) (ea k:Int) fv (uP h0n) fv (uP a) eq (by simpa using sh);simpa using this
 .intro jb
  have all:=jb (λp=>gh h (p:Int)=gh h (h0:Int)) rfl λk a6=>by rw[edge k a6]
  obtain⟨a0,b0,ab0⟩:=ok k0 hk;obtain⟨r,rn,er,rb⟩:=WD H a0 b0 ab0 (edge k0 hk);refine⟨r,⟨rn,rb⟩,λr' rn' rb'=>?_⟩;obtain⟨q,qn,qr,eq⟩:=ABU H rn' rb';have tie:∃k∈s,ea k=q\/eb k=q:=by
   apply CA;intro no;have tP:Cl (λx=>x=(q:Int)) es:=λt ht x hx y hy sx=>by
    obtain⟨u,hu,c⟩:=(gg t).mp ht;rw[c] at hx;simp only[BH,D5,or_false] at hx;rcases hx with rfl| rfl
    .exact uH ⟨u,hu,.inl (uM sx)⟩ no
    .exact uH ⟨u,hu,.inr (uM sx)⟩ no
   have:=H.reach (λx=>x=(q:Int)) tP (q:Int) (r':Int) fv (uP qn) fv (uP rn') (by rw[eq,rb'.1]) rfl;lia
  obtain⟨k,a6,kq⟩:=tie;have e1:=all k a6;have e2:gh h (q:Int)=gh h (h0:Int):=by
   rcases kq with c| c
   .rw[<- c];exact e1
   .rw[<- c,<- edge k a6];exact e1
  have:(r':Int)=(r:Int):=by rw[<- eq,e2,<- e0,er]
  lia
end
end G
namespace K32
open PySem L2 G
noncomputable def none2(cs:uI):Bool:=cs.all λc=>decide (c=0\/c=2)
def Xq(K:Ap):Sp:=λvs H Q _=>∃(l:Addr) (cs:uI),vs=[.ref l]/\SqL K H l (cs.map V.int)/\cs.length<=10/\∀H',Same H H'->Q (.bl (none2 cs)) H'
abbrev bigs(ts:uJ):uJ:=ts.filter λt=>decide (1<t.length)
def Vx(K:Ap)(C:Addr):Sp:=λvs H Q _=>∃(p s:Addr) (z:Int) (as:uJ) (ms:uI),vs=[.ref p,.ref s]/\WebAt K C H p z as/\rRow K H s ms/\1<=z/\z<=10/\as.length<=12/\(∀t∈as,OkTie z t) /\
 ∀(hs:uI) (H':Hp),Same H H'->Heads z.toNat (sel as ms as.length) hs->Q (.bl (decide ((bigs (Bv z.toNat hs z.toNat)).length=1))) H'
theorem AHU(c:Int):inV (V.int c) [V.int 0,V.int 2]=decide (c=0\/c=2):=by
 have e:=Cz c [0,2];rw[show([0,2]:uI).map V.int=[V.int 0,V.int 2] from rfl] at e;rw[e];exact decide_eq_decide.mpr (by simp)
theorem Jy(n:Nat)(h:uI):∀i,(Bv n h i).length<=i
 | 0=>AF _
 | i+1=>by
  show(Bv n h i++_).length<=_;rw[AZ];have:=Jy n h i;split
  .show _+1<=_;exact vD this
  .show _+0<=_;lia
theorem AEl:FnScope zl18 zl18 (Ah Qm):=fscp (by decide+kernel)
theorem ACV(F:Fun K "none_or_two" "none_or_two" Qm f fd)(bp:mg "all" = uB):FnOk P w K mg base CX0 1 f fd zl18 (Xq K):=by
 refine F.ok AEl (λvs H Q E h=>?_) (λa7 A outer s H vs Q E hr h=>?_)
 .obtain⟨l,cs,rfl,_⟩:=h
  rfl
 obtain⟨l,cs,rfl,hl,c10,q⟩:=h;refine⟨_,Ai (Ao (Ax (Gs rfl) rfl bp Q4 (Aa (Bq (Ah Qm) ["count"] [] [] rfl rfl (by decide+kernel) trivial (Bt (pv 0))
   (λ_ _ _=>BK (i:=0)) (λ_ _ _=>DY)
   (λ_ _ _=>Cr (Er (K:=K) rfl) (pv 0) (Cq (Aa Ag (Aa Ag Ac))) rfl)) Ac))),?_⟩
 refine⟨_,rfl,l,rfl,⟨_,hl⟩,λZ hZ=>?_⟩;refine Bu (K:=K) (a:=l) (xs:=cs.map V.int) (λj τ H2=>∃o:Option V,τ=[o]/\Same H H2/\H2 Z=uA (.lst (((cs.take j).map λc=>decide (c=0\/c=2)).map V.bl))) ⟨uB,rfl,u8 hZ _,Ab⟩ (by rintro j τ H2 _ ⟨_,_,sm,_⟩;exact sm.seq hl) ?_ ?_
 .rintro j y τ H2 hy ⟨o,rfl,s2,eZ⟩
  obtain⟨c,hc,rfl⟩:=int_at hy;have jl:=(AH.mp hc).1;refine yesN ⟨_,rfl,(by show 2<=sizeLine;decide),λt ht=>?_⟩;have s3:=s2.trans (u8 ht (.tup [V.int 0,V.int 2]));refine⟨t,_,rfl,.inr (uz Ab),rfl,rfl,?_⟩;rw[uC (show ¬ (false=true) by decide),AHU];refine⟨_,u8 ht _ _ _ eZ,Ay (by rw[AB,AB,B0];exact zD c10),_,rfl,λb o e=>?_,?_⟩
  .rw[Af (Ae e hZ)]
   exact s3 b o e
  .rw[Ab,K32s.take_snoc hc,BM,BM]
   rfl
 rintro τ H2 ⟨o,rfl,s2,eZ⟩;rw[AB,CM] at eZ;refine⟨Z,_,rfl,uy eZ,?_⟩;have:=q _ s2;unfold none2 at this;rw[S7];exact this
theorem AGt:FnScope zl17 zl17 (Ah Yk):=fscp (by decide+kernel)
theorem AFd(F:Fun K "is_one_piece" "is_one_piece" Yk f fd)(T:Txt K mg C)
  (GP:Cal P w K mg base 3 fP g5 "web_parts" zl17 (Xr K C)) :
  FnOk P w K mg base CX0 4 f fd zl17 (Vx K C):=by
 refine F.ok AGt (λvs H Q E h=>?_) (λa7 A outer s H vs Q E hr h=>?_)
 .obtain⟨p,s,z,as,ms,rfl,_⟩:=h
  rfl
 obtain⟨p,s0,z,as,ms,rfl,hW,hrow,z1,z10,a12,okt,q⟩:=h;have mr:Room 3 _:=hr.mono (by decide);refine⟨_,Ai (Ao (Cr DR (Ax Ar rfl T.len Cn (Aa (Bq (Ah Yk) ["part"] [] [] rfl rfl (by decide+kernel) trivial (Bt (BP GP mr rfl (Aa (pv 0) (Aa (pv 1) Ac))))
   (λ_ _ _=>BK (i:=0))
   (λ_ _ _=>CK (Am Yh (Ax (Fe (K:=K) rfl) rfl T.len Cn (Aa (pv 0) Ac)) Ag))
   (λ_ _ _=>pv 0)) Ac)) Ag)),?_⟩
 refine⟨_,rfl,_,rfl,p,s0,z,as,ms,rfl,hW,hrow,z1,z10,a12,okt,λL hs H1 s1 nL hH hq=>?_⟩;obtain⟨qs,eL,pq⟩:=hq;have lq:=AV pq;have lt:=Jy z.toNat hs z.toNat;refine⟨L,rfl,⟨_,uy eL⟩,λZ hZ=>?_⟩;refine Bu (K:=K) (a:=L) (xs:=qs.map V.ref) (λj τ H2=>∃(o:Option V) (ys:List V),τ=[o]/\Same H1 H2/\H2 Z=uA (.lst ys)/\ys.length=(bigs ((Bv z.toNat hs z.toNat).take j)).length) ⟨uB,[],rfl,u8 hZ _,Ab,rfl⟩ (by rintro j τ H2 _ ⟨_,_,_,sm,_⟩;exact uy (sm _ _ eL)) ?_ ?_
 .rintro j y τ H2 hy ⟨o,ys,rfl,s2,eZ,ly⟩
  rw[AS] at hy;cases eq:qs[j]? with
  | none=>rw[eq] at hy;cases hy
  | some b =>
   rw[eq] at hy;cases hy;obtain⟨t,ht,_,_,hb⟩:=Paired.get pq eq;have rH:=s2 _ _ hb;have bl:(bigs ((Bv z.toNat hs z.toNat).take j)).length<=10:=BY (Do ..) (by rw[B0];lia);refine⟨_,rfl,b,_,rfl,.inl (uy rH),_,_,rfl,rfl,_,rfl,?_⟩;have es:bigs ((Bv z.toNat hs z.toNat).take (j+1))=bigs ((Bv z.toNat hs z.toNat).take j)++if 1<t.length then [t] else []:=by
    unfold bigs;rw[K32s.take_snoc ht,CL];by_cases c:1<t.length
    .rw[uD c,De (p:=λ(t:uI)=>decide (1<t.length)) (uE c)];rfl
    .rw[uC c,C3 (p:=λ(t:uI)=>decide (1<t.length)) (by rw[decide_eq_true_iff];exact c)];rfl
   rw[es];by_cases c:1<t.length
   .refine iteP (by rw[AB];lia) ⟨_,rfl,_,eZ,Ay (by lia),_,_,rfl,λb o e=>?_,Ab,?_⟩
    .rw[Af (Ae e hZ)]
     exact s2 b o e
    .rw[uD c,AZ,AZ,ly]
     rfl
   .refine iteN (by rw[AB];lia) ⟨_,ys,rfl,s2,eZ,?_⟩
    rw[uC c,Co];exact ly
 rintro τ H2 ⟨o,ys,rfl,s2,eZ,ly⟩;rw[AB,<- lq,CM] at ly;refine⟨Z,_,rfl,.inl (uy eZ),rfl,?_⟩;have:=q hs H2 (s1.trans s2) hH;have e:decide (V.int ((ys.length:Nat):Int)=V.int 1)=decide ((bigs (Bv z.toNat hs z.toNat)).length=1):=decide_eq_decide.mpr ⟨λh=>by injection h with h;lia,λh=>by rw[ly,h];rfl⟩;show Q (V.bl (decide (V.int ((ys.length:Nat):Int)=V.int 1))) H2;rw[e];exact this
theorem FZ{s:uL}{k:Nat}:((k:Int)∈up s)↔k∈s:=by
 unfold up;rw[A1];exact⟨by rintro⟨x,hx,e⟩;exact(My e) ▸ hx,λh=>⟨k,h,rfl⟩⟩
theorem Yo(as:uJ)(ms:uI):∀{i p:Nat},p<i->(cnts as ms i)[p]?=uA ((((hits (p:Int) as).filter λk=>decide (k∈ms)).length:Nat):Int)
 | 0,p,h=>uH h (J0 _)
 | i+1,p,h=>by
  show(cnts as ms i++_)[p]?=_;by_cases c:p<i
  .rw[By (by rw[Ec];exact c)]
   exact Yo as ms c
  .have e:p=i:=wE h c
   subst e;rw[CF (by rw[Ec];exact AF _),Ec,IZ];rfl
theorem ABk{bs:uJ}(a8:OkB z bs){s:uL}(nd:s.Nodup)(lt:∀x∈s,x<bs.length)(p:Nat):((hits (p:Int) bs).filter λk=>decide (k∈up s)).length=degE (edl (ea bs) (eb bs) s) p:=by
 have on:∀k,k<bs.length->((p:Int)∈bs.getD k []↔(ea bs k=p\/eb bs k=p)):=λk hk=>by
  obtain⟨x,y,e,_,_⟩:=a8 bs[k] (Fn hk);have gd:bs.getD k []=[(x:Int),(y:Int)]:=by rw[AD,AI hk,e];rfl
  unfold ea eb;rw[gd];simp;lia
 have e1:degE (edl (ea bs) (eb bs) s) p=(s.filter λk=>decide (ea bs k=p\/eb bs k=p)).length:=by
  unfold degE;rw[J6,AB];rfl
 rw[e1];have n1:((hits (p:Int) bs).filter λk=>decide (k∈up s)).Nodup:=((Hg (p:Int) 0 bs).filter _).imp λ{a b} h=>by lia
 have n2:((s.filter λk=>decide (ea bs k=p\/eb bs k=p)).map λ(k:Nat)=>(k:Int)).Nodup:=by
  unfold LP;rw[CY];exact(nd.filter _).imp λh e=>h (My e)
 have pm:((hits (p:Int) bs).filter λk=>decide (k∈up s)).Perm ((s.filter λk=>decide (ea bs k=p\/eb bs k=p)).map λ(k:Nat)=>(k:Int)):=by
  rw[Sj];intro x;rw[n1.count,n2.count];have kK:x∈(hits (p:Int) bs).filter (λk=>decide (k∈up s))↔x∈(s.filter λk=>decide (ea bs k=p\/eb bs k=p)).map λ(k:Nat)=>(k:Int):=by
   rw[BQ,decide_eq_true_iff,A1];constructor
   .rintro⟨h1,h2⟩
    obtain⟨i,t,e1,e2,e3⟩:=L2.Fw.mp h1;have ex:x=(i:Int):=by lia
    subst ex;have hs:=FZ.mp h2;have il:=lt i hs;refine⟨i,BQ.mpr ⟨hs,uE ((on i il).mp ?_)⟩,rfl⟩;rw[AD,e1];exact e2
   .rintro⟨k,hk,rfl⟩
    obtain⟨h1,h2⟩:=BQ.mp hk;have kl:=lt k h1;have h3:=(on k kl).mpr (uG h2);refine⟨L2.Fw.mpr ⟨k,bs[k],AI kl,?_,yO⟩,FZ.mpr h1⟩;rw[AD,AI kl] at h3;exact h3
  by_cases c:x∈(hits (p:Int) bs).filter (λk=>decide (k∈up s))
  .rw[uD c,uD (kK.mp c)]
  .rw[uC c,uC λd=>c (kK.mpr d)]
 rw[pm.length_eq,AB]
theorem Wz{bs:uJ}(a8:OkB z bs){k:Nat}(h:k<bs.length):bs.getD k []=[(ea bs k:Int),(eb bs k:Int)]:=by
 obtain⟨x,y,e,_⟩:=a8 bs[k] (Fn h);have gd:bs.getD k []=[(x:Int),(y:Int)]:=by rw[AD,AI h,e];rfl
 unfold ea eb;rw[gd];rfl
theorem ADX{bs:uJ}(a8:OkB z bs)(ap:Apart bs):∀t∈bs,OkTie (z:Int) t:=λt ht=>by
 obtain⟨k,hk⟩:=M8 ht;have kl:=(AH.mp hk).1;have e:=Wz a8 kl;rw[AD,hk] at e;obtain⟨h1,h2,_⟩:=Rp a8 kl;have:=ap k kl;exact⟨_,_,e,fv,uP h1,fv,uP h2,by lia⟩
section
variable{bs:uJ}
theorem Oo(a8:OkB z bs)(ap:Apart bs)(lt:∀x∈su,x<bs.length):∀k∈su,ea bs k<z/\eb bs k<z/\ea bs k≠eb bs k:=λk hk=>by
 obtain⟨h1,h2,_⟩:=Rp a8 (lt k hk);exact⟨h1,h2,ap k (lt k hk)⟩
theorem Kd(a8:OkB z bs)(pw:su.Pairwise (· < ·))(lt:∀x∈su,x<bs.length){p:Nat}(hp:p<z):(cnts bs (up su) z)[p]?=uA ((degE (edl (ea bs) (eb bs) su) p:Nat):Int):=by
 rw[Yo bs (up su) hp,ABk a8 (pw.imp λh=>BU h) lt p]
theorem AEr(a8:OkB z bs)(pw:su.Pairwise (· < ·))(lt:∀x∈su,x<bs.length):none2 (cnts bs (up su) z)=true↔∀p,p<z->degE (edl (ea bs) (eb bs) su) p=0\/degE (edl (ea bs) (eb bs) su) p=2:=by
 unfold none2;rw[EW];constructor
 .intro h p pz
  have:=uG (h _ (AX (Kd a8 pw lt pz)));lia
 .intro h c hc
  obtain⟨p,hp⟩:=M8 hc;have pz:p<z:=by have:=(AH.mp hp).1;rw[Ec] at this;exact this
  rw[Kd a8 pw lt pz] at hp;have:=h p pz;exact uE (by have:=AN hp;lia)
theorem AEz(a8:OkB z bs)(pw:su.Pairwise (· < ·))(lt:∀x∈su,x<bs.length):cnts bs (up su) z=CC z 2↔∀p,p<z->degE (edl (ea bs) (eb bs) su) p=2:=by
 constructor
 .intro h p pz
  have:=Kd a8 pw lt pz;rw[h,He,uD pz] at this;have:=AN this;lia
 .intro h
  apply FG;intro p;by_cases c:p<z
  .rw[Kd a8 pw lt c,He,uD c,h p c]
   rfl
  .rw[Ev (by rw[Ec];exact uR c),He,uC c]
theorem Yv(a8:OkB z bs)(lt:∀x∈su,x<bs.length)(t:uI):t∈sel bs (up su) bs.length↔∃k∈su,t=[(ea bs k:Int),(eb bs k:Int)]:=by
 rw[GQ];constructor
 .rintro⟨i,il,h1,h2⟩
  exact⟨i,FZ.mp h1,by rw[h2,Wz a8 il]⟩
 .rintro⟨k,hk,h⟩
  exact⟨k,lt k hk,FZ.mpr hk,by rw[h,Wz a8 (lt k hk)]⟩
theorem TY(a8:OkB z bs)(ap:Apart bs)(lt:∀x∈su,x<bs.length)(h:acc z (idF z) (edg bs su)):∀p,p<z->degE (edl (ea bs) (eb bs) su) p=0\/degE (edl (ea bs) (eb bs) su) p=2:=λp pz=>(Ho (idZ_sym z) (Lg (Oo a8 ap lt)) h p pz).2.1 (Bx pz)
theorem AAT(a8:OkB z bs)(ap:Apart bs)(lt:∀x∈su,x<bs.length)(h:accR true z (idF z) (edg bs su)):∀p,p<z->degE (edl (ea bs) (eb bs) su) p=2:=by
 obtain⟨h1,h2⟩:=(Ji (z:=z) (Oo a8 ap lt)).mp h;exact(KQ (Oo a8 ap lt) (TY a8 ap lt h1)).mpr h2
theorem Od(a8:OkB z bs)(ap:Apart bs)(pw:su.Pairwise (· < ·))(lt:∀x∈su,x<bs.length)(H:Heads z (sel bs (up su) bs.length) hs) :
  accR false z (idF z) (edg bs su)↔(∀p,p<z->degE (edl (ea bs) (eb bs) su) p=0\/degE (edl (ea bs) (eb bs) su) p=2)/\(bigs (Bv z hs z)).length=1:=by
 rw[Im];cases su with
 | nil =>
  refine⟨λh=>h.elim,λhq=>?_⟩;obtain⟨_,h⟩:=hq;obtain⟨r,⟨rn,rb⟩,_⟩:=ZG.mp h;obtain⟨q,qn,qr,eq⟩:=ABU H rn rb;have tP:Cl (λx=>x=(q:Int)) (sel bs (up []) bs.length):=λt ht x hx y hy sx=>by
   obtain⟨k,hk,_⟩:=(Yv a8 lt t).mp ht;cases hk
  have:=H.reach (λx=>x=(q:Int)) tP (q:Int) (r:Int) fv (uP qn) fv (uP rn) (by rw[eq,rb.1]) rfl;lia
 | cons k0 ks =>
  have ok:=Oo a8 ap lt;have hk:k0∈k0::ks:=AG ..;have:=ABn (z:=z) (pw.imp λh=>BU h) ok hk;rw[show(edg bs (k0::ks))=edl (ea bs) (eb bs) (k0::ks) from rfl,show idF z=idZ z from rfl,this,AAS H (Yv a8 lt) ok hk (.inl rfl)]
theorem Vf(a8:OkB z bs)(ap:Apart bs)(pw:su.Pairwise (· < ·))(lt:∀x∈su,x<bs.length)(H:Heads z (sel bs (up su) bs.length) hs) :
  accR true z (idF z) (edg bs su)↔(∀p,p<z->degE (edl (ea bs) (eb bs) su) p=2)/\(bigs (Bv z hs z)).length=1:=by
 have ok:=Oo a8 ap lt;have r:=Ji (z:=z) ok;have f:=Od a8 ap pw lt H;rw[Im] at f;refine r.trans ⟨λ⟨h1,h2⟩=>?_,λ⟨h1,h2⟩=>?_⟩
 .obtain⟨d2,b1⟩:=f.mp h1
  exact⟨(KQ ok d2).mpr h2,b1⟩
 .have d2:∀p,p<z->degE (edl (ea bs) (eb bs) su) p=0\/degE (edl (ea bs) (eb bs) su) p=2:=λp pz=>.inr (h1 p pz)
  exact⟨f.mpr ⟨d2,h2⟩,(KQ ok d2).mp h1⟩
end
def Ly(rd:Bool)(K:Ap)(C:Addr):Sp:=λvs H Q _=>∃(r:V) (p so:Addr) (z:Nat) (bs:uJ) (su:uL),vs=[r,.ref p,.ref so]/\WebAt K C H p z bs/\rRow K H so (up su)/\su.Pairwise (· < ·)/\(∀x∈su,x<bs.length)/\1<=z/\z<=10/\bs.length<=12/\OkB z bs/\Apart bs /\
 ∀(v:Bool) (H':Hp),Same H H'->(v=true↔accR rd z (idF z) (edg bs su))->Q (.bl v) H'
theorem AEp(z:Nat):(CC z [V.int 2]).flatten=(CC z (2:Int)).map V.int:=by
 induction z with
 | zero=>rfl
 | succ z ih=>rw[FO,Kn,ih,FO];rfl
theorem AFV:FnScope zl19 zl19 (Ah Vj):=fscp (by decide+kernel)
theorem ABh{fN:Addr}{fdN:Bn}(F:Fun K "fits" "Rings.fits" Vj f fd)
  (GC:Cal P w K mg base 2 fC pM "tie_counts" zl17 (Mh K C))
  (GN:Cal P w K mg base 1 fN fdN "none_or_two" zl18 (Xq K))
  (GO:Cal P w K mg base 4 fO ny "is_one_piece" zl17 (Vx K C)) :
  FnOk P w K mg base CX0 5 f fd zl19 (Ly false K C):=by
 refine F.ok AFV (λvs H Q E h=>?_) (λa7 A outer s H vs Q E hr h=>?_)
 .obtain⟨r,p,so,z,bs,su,rfl,_⟩:=h
  rfl
 obtain⟨r,p,so,z,bs,su,rfl,hW,dm,pw,lt,z1,z10,oT,a8,ap,q⟩:=h;have bm:Room 1 _:=hr.mono (by decide);have c6:Room 2 _:=hr.mono (by decide);have kT:Room 4 _:=hr.mono (by decide);refine⟨_,Ai (Ao (Vh (BP GN bm rfl (Aa (BP GC c6 rfl (Aa (pv 1) (Aa (pv 2) Ac))) Ac)) (Ww (BP GO kT rfl (Aa (pv 1) (Aa (pv 2) Ac)))))),?_⟩;refine⟨_,rfl,_,rfl,p,so,z,bs,up su,rfl,hW,dm,vN z1,vO z10,oT,λL H1 s1 nL eL=>?_⟩;rw[Cc] at eL;have ca:=AEr a8 pw lt;refine⟨L,_,rfl,uy eL,by rw[Ec];exact z10,λH2 s2=>⟨_,rfl,?_⟩⟩;have kA:=s1.trans s2;by_cases c:none2 (cnts bs (up su) z)=true
 .rw[c]
  refine iteT ⟨_,rfl,_,rfl,p,so,z,bs,up su,rfl,hW.same kA,dm.same kA,vN z1,vO z10,oT,ADX a8 ap,λhs H3 s3 hh=>?_⟩;rw[Cc] at hh ⊢;refine q _ H3 (kA.trans s3) ?_;rw[decide_eq_true_iff,Od a8 ap pw lt hh];exact⟨λh=>⟨ca.mp c,h⟩,λh=>h.2⟩
 .rw[UT] at c
  rw[c];refine iteF (q false H2 kA ⟨λh=>(by cases h),λh=>?_⟩);have:=ca.mpr (TY a8 ap lt (Im.mp h));rw[c] at this;cases this
theorem scFitsO:FnScope zl19 zl19 (Ah Ws):=fscp (by decide+kernel)
theorem ABf(F:Fun K "fits" "Rounds.fits" Ws f fd)(T:Txt K mg C)
  (GC:Cal P w K mg base 2 fC pM "tie_counts" zl17 (Mh K C))
  (GS:FnOk P w K mg base CX0 1 fS cK zl3 (Ii K C)) (bS:Binds K cK zl3 []) (mS:Meth K C "size" fS)
  (GO:Cal P w K mg base 4 fO ny "is_one_piece" zl17 (Vx K C)) :
  FnOk P w K mg base CX0 5 f fd zl19 (Ly true K C):=by
 refine F.ok scFitsO (λvs H Q E h=>?_) (λa7 A outer s H vs Q E hr h=>?_)
 .obtain⟨r,p,so,z,bs,su,rfl,_⟩:=h
  rfl
 obtain⟨r,p,so,z,bs,su,rfl,hW,dm,pw,lt,z1,z10,oT,a8,ap,q⟩:=h;have bm:Room 1 _:=hr.mono (by decide);have c6:Room 2 _:=hr.mono (by decide);have kT:Room 4 _:=hr.mono (by decide);refine⟨_,Ai (Ao (Vh (Cr (Kz CT (Br hr)) (BP GC c6 rfl (Aa (pv 1) (Aa (pv 2) Ac))) (Az AGn (Bm (Aa Ag Ac)) (CW (pv 1) T.cl mS GS bm bS .nil pass0)) rfl) (Ww (BP GO kT rfl (Aa (pv 1) (Aa (pv 2) Ac)))))),?_⟩;refine⟨_,rfl,_,rfl,p,so,z,bs,up su,rfl,hW,dm,vN z1,vO z10,oT,λL H1 s1 nL eL=>?_⟩;rw[Cc] at eL;have ct:=AEz a8 pw lt;refine⟨by decide,λT2 rB=>?_⟩;have s2:=s1.trans (u8 rB (.lst [V.int 2]));have e2:(upd H1 T2 (.lst [V.int 2])) T2=uA (.lst [V.int 2]):=Ab;have eL2:=u8 rB (.lst [V.int 2]) _ _ eL;generalize upd H1 T2 (.lst [V.int 2])=H2 at s2 e2 eL2;have oe:=hW.same s2;obtain⟨dw,jw,hp,_⟩:=id oe;refine⟨_,rfl,p,dw,_,rfl,hp,rfl,p,z,bs,rfl,oe,T2,(z:Int),_,rfl,rfl,e2,by lia,by lia,DB (Ay (by show 1*((z:Int).toNat)<=_;lia)),λT3 hT3=>?_⟩;rw[Cc,AEp];have s3:=s2.trans (u8 hT3 (.lst ((CC z (2:Int)).map V.int)));have e3:(upd H2 T3 (.lst ((CC z (2:Int)).map V.int))) T3=uA (.lst ((CC z (2:Int)).map V.int)):=Ab;have kB:=u8 hT3 (.lst ((CC z (2:Int)).map V.int)) _ _ eL2;generalize upd H2 T3 (.lst ((CC z (2:Int)).map V.int))=H3 at s3 e3 kB;refine⟨cnts bs (up su) z,CC z 2,⟨L,_,rfl,uy kB,paired_ints _⟩,⟨T3,_,rfl,uy e3,paired_ints _⟩,_,rfl,?_⟩;by_cases c:cnts bs (up su) z=CC z 2
 .refine iteP c ⟨_,rfl,_,rfl,p,so,z,bs,up su,rfl,hW.same s3,dm.same s3,vN z1,vO z10,oT,ADX a8 ap,λhs H4 s4 hh=>?_⟩
  rw[Cc] at hh ⊢;refine q _ H4 (s3.trans s4) ?_;rw[decide_eq_true_iff,Vf a8 ap pw lt hh];exact⟨λh=>⟨ct.mp c,h⟩,λh=>h.2⟩
 .exact iteN c (q false H3 s3 ⟨λh=>(by cases h),λh=>uH (ct.mpr (AAT a8 ap lt h)) c⟩)
theorem Es(su:uL):(up su).map V.int=nI su:=by
 unfold up nI;rw[G6];rfl
theorem Il(su:uL):(up su).length=su.length:=by unfold up;rw[AB]
theorem GD(ks:uL)(k:Nat):nI (ks++[k])=nI ks++[V.int (k:Int)]:=by unfold nI;rw[BM];rfl
structure RoundOk(z:Nat)(as:uJ)(su ps:uL):Prop where
 ring:ps≠[]↔RingS false z as su
 len:ps≠[]->ps.length=su.length
def Qj(K:Ap):Sp:=λvs H Q _=>∃(l so:Addr) (z:Nat) (as:uJ) (su:uL),vs=[.ref l,.ref so]/\TlAt K H l as/\OkTies (z:Int) as/\as.length<=12/\SqT K H so ((up su).map V.int)/\su.Pairwise (· < ·)/\(∀x∈su,x<as.length) /\
 ∀(R:Addr) (ps:uL) (H':Hp),Same H H'->H R=none->H' R=uA (.lst (nI ps))->RoundOk z as su ps->Q (.ref R) H'
theorem Bf(ok:OkTies (z:Int) as){k:Nat}(h:k<as.length):∃x y:Nat,as[k]?=uA [(x:Int),(y:Int)]/\x<z/\y<z/\x≠y/\((ea (as.map srt) k=x/\eb (as.map srt) k=y)\/(ea (as.map srt) k=y/\eb (as.map srt) k=x)):=by
 obtain⟨x,y,e,xz,yz,n⟩:=YW ok h;exact⟨x,y,e,xz,yz,n,SX e⟩
noncomputable abbrev stepsL(bs:uJ)(h:Nat)(left:uL):uL:=left.filter λk=>decide (ea bs k=h\/eb bs k=h)
theorem KC{k:Nat}:∀{l:uL}{j:Nat},l.Nodup->l[j]?=uA k->l.eraseIdx j=l.erase k
 | [],j,_,e=>by cases e
 | x::l,0,_,e=>by cases e;simp
 | x::l,j+1,nd,e=>by
  have e:l[j]?=uA k:=e;have hm:=AX e;have ne:x≠k:=λh=>(DC.mp nd).1 (h ▸ hm);show x::l.eraseIdx j=_;rw[List.erase_cons_tail (by simpa using ne),KC (DC.mp nd).2 e]
theorem Iw{α β:Type}(f:α->β):∀(l:List α) (j:Nat),(l.eraseIdx j).map f=(l.map f).eraseIdx j
 | [],_=>rfl
 | _::_,0=>rfl
 | x::l,j+1=>by show f x::_=f x::_;rw[Iw f l j]
set_option tactic.hygienic true in
theorem AHB{bs:uJ}{e h:Nat}(n0:left.length≠0)(c:(stepsL bs h left).length≠1\/h=e):wlk (ea bs) (eb bs) e left.length h left=false:=by
 obtain⟨n,en⟩:=Nat.exists_eq_succ_of_ne_zero n0;rw[en];unfold wlk;split
 .rename_i k hk
  rcases c with c| c
  .rw[show stepsL bs h left=[k] from hk] at c
   exact uH rfl c
  .rw[uD c]
 .rfl
theorem AGa{bs:uJ}{e h k:Nat}(en:left.length=n+1)(c:stepsL bs h left=[k])(he:h≠e):wlk (ea bs) (eb bs) e left.length h left=wlk (ea bs) (eb bs) e n (ea bs k+eb bs k-h) (left.erase k):=by
 rw[en];unfold wlk;rw[show(left.filter λk=>decide (ea bs k=h\/eb bs k=h))=[k] from c];show(if h=e then false else _)=_;rw[uC he];cases n<;>rfl
theorem same_none(s:Same H H')(h:H' R=uB):H R=uB:=by
 cases e:H R with
 | none=>rfl
 | some o=>have:=s _ _ e;rw[h] at this;cases this
theorem touch_deg(bs:uJ)(h:Nat)(s:uL):degE (edl (ea bs) (eb bs) s) h=(stepsL bs h s).length:=by
 unfold degE;rw[J6,AB];rfl
structure Rnd(z:Nat)(bs:uJ)(b:Nat)(su:uL)(i h:Nat)(left seen:uL):Prop where
 ll:left.length+i=su.length
 nd:left.Nodup
 lt:∀k∈left,k<bs.length/\ea bs k<z/\eb bs k<z/\ea bs k≠eb bs k
 hz:h<z
 sl:seen.length=i
 first:i=0->h=b/\left=su
 go:i≠0->b∈seen/\(∀p∈seen,p=b\/∀k∈left,ea bs k≠p/\eb bs k≠p)/\(wlk (ea bs) (eb bs) b left.length h left=true↔acc z (idZ z) (edl (ea bs) (eb bs) su))
section
variable{bs:uJ}{b h:Nat}{ks seen:uL}
theorem Rnd.stop(r:Rnd z bs b (k0::ks) i h left seen)(at0:ea bs k0=b\/eb bs k0=b)(n0:left.length≠0)(c:(stepsL bs h left).length≠1+(if i=0 then 1 else 0)\/h∈seen):¬ acc z (idZ z) (edl (ea bs) (eb bs) (k0::ks)):=λa=>by
 by_cases i0:i=0
 .obtain⟨rfl,rfl⟩:=r.first i0
  have s0:=Cs.mp (r.sl.trans i0);rw[uD i0,s0] at c;have c:=c.resolve_right D5;have d:=(Ho (idZ_sym z) (Lg λk hk=>(r.lt k hk).2) a h r.hz).2.1 (Bx r.hz);have m:k0∈stepsL bs h (k0::ks):=BQ.mpr ⟨AG ..,uE at0⟩;have:=HU m;rw[touch_deg] at d;lia
 .obtain⟨bs',un,kK⟩:=r.go i0
  rw[uC i0] at c;have w:=kK.mpr a;have c':(stepsL bs h left).length≠1\/h=b:=by
   rcases c with c| c
   .exact .inl c
   .rcases un h c with e| e
    .exact .inr e
    .refine .inl λe1=>?_
     obtain⟨k,ek⟩:=Kj.mp e1;have km:k∈stepsL bs h left:=by rw[ek];exact AG ..
     obtain⟨kl,kp⟩:=BQ.mp km;exact(uG kp).elim (e k kl).1 (e k kl).2
  rw[AHB n0 c'] at w;cases w
theorem Rnd.next(r:Rnd z bs b (k0::ks) i h left seen)(bz:b<z)(at0:ea bs k0=b\/eb bs k0=b)(c1:(stepsL bs h left).length=1+(if i=0 then 1 else 0))(c2:h∉seen):∃k ss,stepsL bs h left=k::ss/\k∈left/\(ea bs k=h\/eb bs k=h)/\Rnd z bs b (k0::ks) (i+1) (ea bs k+eb bs k-h) (left.erase k) (seen++[h]):=by
 by_cases i0:i=0
 .obtain⟨rfl,rfl⟩:=r.first i0
  obtain⟨kl,ka,kb,kab⟩:=r.lt k0 (AG ..);have s0:=Cs.mp (r.sl.trans i0);have er:(k0::ks).erase k0=ks:=List.erase_cons_head ..;refine⟨k0,stepsL bs h ks,De (uE at0),AG ..,at0,?_⟩;rw[er,s0];have nd':=(DC.mp r.nd).2;have lt':=λk hk=>r.lt k (AK _ hk);refine⟨by rw[i0,C9],nd',lt',xv ka at0 kb,by rw[i0];rfl,λe=>by lia,λ_=>⟨AG ..,λp hp=>.inl (BG.mp hp),?_⟩⟩;have xb:ea bs k0+eb bs k0-h≠h:=by lia
  rw[(Tq (z:=z) bz ks.length (ea bs k0+eb bs k0-h) ks rfl nd' (λk hk=>(lt' k hk).2) (xv ka at0 kb)).1 xb];show _↔acc z (idZ z) ((ea bs k0,eb bs k0)::edl (ea bs) (eb bs) ks);rcases at0 with c| c
  .rw[show ea bs k0+eb bs k0-h=eb bs k0 from zB c,c]
   exact⟨Fy (idZ_sym z) (by lia),Fy (idZ_sym z) (by lia)⟩
  .rw[show ea bs k0+eb bs k0-h=ea bs k0 from zC c,c]
 .obtain⟨bs',un,kK⟩:=r.go i0
  rw[uC i0] at c1;obtain⟨k,ek⟩:=Kj.mp c1;have km:k∈stepsL bs h left:=by rw[ek];exact AG ..
  obtain⟨kl,kp⟩:=BQ.mp km;have kp:=uG kp;obtain⟨_,ka,kb,kab⟩:=r.lt k kl;have hb:h≠b:=λe=>c2 (e ▸ bs');have el:=EN kl;have lp:=HU kl;have ll:=r.ll;obtain⟨n,en⟩:∃n,left.length=n+1:=⟨left.length-1,by lia⟩;refine⟨k,[],ek,kl,kp,by lia,r.nd.erase k,λu hu=>r.lt u (DA hu),xv ka kp kb,by rw[AZ,r.sl];rfl,λe=>by lia,λ_=>⟨EV _ bs',λp hp=>?_,?_⟩⟩
  .rcases Ct.mp hp with hp| hp
   .exact(un p hp).imp id λg u hu=>g u (DA hu)
   .rw[BG.mp hp]
    refine .inr λu hu=>?_;have no:¬ (ea bs u=h\/eb bs u=h):=λc=>by
     have um:u∈stepsL bs h left:=BQ.mpr ⟨DA hu,uE c⟩;rw[ek] at um;rw[BG.mp um] at hu;exact uH hu (by rw[r.nd.mem_erase_iff];exact λc=>c.1 rfl)
    exact⟨λc=>no (.inl c),λc=>no (.inr c)⟩
  .rw[el,en,EU,<- AGa (e:=b) en ek hb]
   exact kK
end
section
noncomputable abbrev rnN:uU:=["_law_rows_here","_law_some","_law_begin","_law_here","_law_left","_law_seen","_law_turn","_law_steps"]
theorem FJ:FnScope rnN ["_law_rows_here","_law_some"] (Ah Qv):=fscp (by decide+kernel)
set_option tactic.hygienic true in
theorem ABm(F:Fun K "_law_round" "_law_round" Qv f fd)(T:Txt K mg C):FnOk P w K mg base CX0 1 f fd zl33 (Qj K):=by
 refine F.ok FJ (λvs H Q E h=>?_) (λa7 A outer s H vs Q E hr h=>?_)
 .obtain⟨l,so,z,as,su,rfl,_⟩:=h
  rfl
 obtain⟨l,so,z,as,su,rfl,hT,ok,a12,dm,pw,lt,q⟩:=h;refine⟨_,Hu (Bl (Am (RW CT (Br hr)) (pv 1) (Cq Ac)) (Ai (Ao (Bm Ac))) BJ)
  (Ad (Ak (i:=2) FJ.nd (Av BW (Av BL (pv 0) (Av BW (pv 1) Ag)) Ag))
  (Ad (Ak (i:=3) FJ.nd (pv 2))
  (Ad (Ak (i:=4) FJ.nd (Bb Dl rfl T.list E6 (Aa (pv 1) Ac)))
  (Ad (Ak (i:=5) FJ.nd (Bm Ac))
  (Ad (DW C5 rfl (Cv rfl T.range (Aa (Ax Ar rfl T.len Cn (Aa (pv 1) Ac)) Ac)) (BX (i:=6) FJ.nd)
   (Ad (JM (i:=7) (Ah Qv) ["_law_k"] ["_law_here","_law_rows_here"] [3,0] FJ.nd rfl (K8 rfl) rfl rfl (by decide+kernel) ⟨⟨rfl,by decide+kernel⟩,⟨rfl,by decide+kernel⟩,trivial⟩ (Bt (pv 4))
     (λ_ _ _=>BK (i:=0))
     (λ_ _ _=>CK (Am (Er (K:=K) rfl) (pv 1) (Av (Vc (K:=K) rfl) (pv 2) (pv 0)) rfl))
     (λ_ _ _=>pv 0))
   (Ad (Bl (uq (Gg (Am JZ (Ax Ar rfl T.len Cn (Aa (pv 7) Ac)) (Az Cp Ag (Bb AAh rfl T.int Y8 (Aa (Cr DR (pv 6) Ag) Ac)))) (FT (Am Eo (pv 3) (pv 5) rfl)))) (Ai (Ao (Bm Ac))) BJ)
   (Ad (Cw (Hf C2 D7 D8 DP (pv 5) (Aa (pv 3) Ac)))
   (Ad (Cw (Hf C2 O9 Pc (Ox CT (Br hr)) (pv 4) (Aa (Av BL (pv 7) Ag) Ac)))
   (Ai (Ak (i:=3) FJ.nd (Az Fd (Az Cp (Av BW (Av BL (pv 0) (Av BL (pv 7) Ag)) Ag) (Av BW (Av BL (pv 0) (Av BL (pv 7) Ag)) Ag)) (pv 3)))))))))
  (Ad (Bl (Am JZ (pv 3) (pv 2)) (Ai (Ao (Bm Ac))) BJ)
  (Ai (Ao (pv 5))))))))),?_⟩
 have sl:=K32s.KR pw lt;have none_is:∀H1,Same H H1->¬ RingS false z as su->∀R,H1 R=none->Q (.ref R) (upd H1 R (.lst [])):=λH1 s1 nr R hR=>q R [] _ (s1.trans (u8 hR _)) (same_none s1 hR) Ab ⟨⟨λh=>uH rfl h,λh=>uH h nr⟩,λh=>uH rfl h⟩;refine⟨λσ H1=>σ=[uA (.ref l),uA (.ref so),uB,uB,uB,uB,uB,uB]/\Same H H1/\su≠[],?_,?_⟩
 .refine⟨_,rfl,AY _,λe0 he0=>?_⟩
  have s1:=u8 he0 (.tup []);have ee:(upd H e0 (.tup [])) e0=uA (.tup []):=Ab;generalize upd H e0 (.tup [])=H1 at s1 ee;refine⟨up su,[],⟨so,_,rfl,s1.ts.seq dm,paired_ints _⟩,⟨e0,_,rfl,uz ee,.nil⟩,_,rfl,?_⟩;by_cases c:su=[]
  .subst c
   exact iteP rfl ⟨AY _,none_is H1 s1 (λh=>h)⟩
  .exact iteN (λe=>c (DM.mp e)) ⟨rfl,s1,c⟩
 rintro σ H1 ⟨rfl,s1,ne⟩;obtain⟨k0,ks,rfl⟩:=List.exists_cons_of_ne_nil ne;obtain⟨xs,hl,pl⟩:=id hT;have lx:=AV pl;obtain⟨b,y0,e0,bz,y0z,by0,tT⟩:=Bf ok (lt k0 (AG ..));obtain⟨v0,hv0,rv0⟩:=uw pl e0;obtain⟨tq0,rfl,oP⟩:=CG rv0;have oP:=oP;have at0:=tT.imp (λh=>h.1) λh=>h.2;have bl:(as.map srt).length=as.length:=AB ..;refine⟨_,rfl,_,rfl,so,_,_,_,rfl,rfl,s1.ts.seq dm,(Bg rfl),l,xs,_,_,rfl,rfl,s1.seq hl,Bg hv0,tq0,_,_,_,rfl,rfl,s1.ts.seq oP,K32.at0,?_⟩;refine⟨_,rfl,_,rfl,so,_,rfl,.inr (s1.ts.seq dm),λL0 ky=>?_⟩;have s2:=s1.trans (u8 ky (.lst ((up (k0::ks)).map V.int)));have eL0:(upd H1 L0 (.lst ((up (k0::ks)).map V.int))) L0=uA (.lst (nI (k0::ks))):=by rw[Ab,Es]
 have nL0:=same_none s1 ky;generalize upd H1 L0 (.lst ((up (k0::ks)).map V.int))=H2 at s2 eL0;refine⟨AY _,λS0 n9=>?_⟩;have s3:=s2.trans (u8 n9 (.lst []));have eS0:(upd H2 S0 (.lst [])) S0=uA (.lst (nI [])):=Ab;have kB:=u8 n9 (.lst []) _ _ eL0;have nS0:=same_none s2 n9;have LS:L0≠S0:=λe=>by rw[e,n9] at eL0;cases eL0
 generalize upd H2 S0 (.lst [])=H3 at s3 eS0 kB;refine⟨_,rfl,so,_,rfl,.inr (s3.ts.seq dm),_,rfl,by lia,by rw[AB,Il];lia,?_⟩;rw[AB,Il];have R0:Rnd z (as.map srt) b (k0::ks) 0 b (k0::ks) []:=⟨rfl,pw.imp λh=>BU h,λk hk=>by
  obtain⟨x,y,e,xz,yz,n,h⟩:=Bf ok (lt k hk);rw[bl];refine⟨lt k hk,?_⟩;rcases h with⟨h1,h2⟩| ⟨h1,h2⟩<;>rw[h1,h2]
  .exact⟨xz,yz,n⟩
  .exact⟨yz,xz,Cb n⟩,bz,rfl,λ_=>⟨rfl,rfl⟩,λh=>uH rfl h⟩
 have rg:acc z (idZ z) (edl (ea (as.map srt)) (eb (as.map srt)) (k0::ks))↔RingS false z as (k0::ks):=Im.symm;refine Je (lo:=0) (n:=(((k0::ks).length:Nat):Int).toNat) (λi σ H4=>∃(o6 o7:Option V) (h:Nat) (left seen:uL),σ=[uA (.ref l),uA (.ref so),uA (.int (b:Int)),uA (.int (h:Int)),uA (.ref L0),uA (.ref S0),o6,o7]/\Same H H4/\H4 L0=uA (.lst (nI left))/\H4 S0=uA (.lst (nI seen))/\Rnd z (as.map srt) b (k0::ks) i h left seen)
  ⟨_,_,b,k0::ks,[],rfl,s3,kB,eS0,R0⟩ ?_ ?_
 .rintro i σ H4 hi ⟨o6,o7,h,left,seen,rfl,s4,eL,eS,R⟩
  rw[Cc] at hi;have ll:=R.ll;have lf:left.length<=12:=by lia
  have sn:=R.sl;refine⟨_,rfl,L0,rfl,⟨_,uy eL⟩,λZ hZ=>?_⟩;refine Bu (K:=K) (a:=L0) (xs:=nI left) (λj τ H5=>∃o:Option V,τ=[o,uA (.int (h:Int)),uA (.ref l)]/\Same H4 H5/\H5 Z=uA (.lst (nI (stepsL (as.map srt) h (left.take j))))) ⟨uB,rfl,u8 hZ _,Ab⟩ (by rintro j τ H5 _ ⟨_,_,sm,_⟩;exact sm.seq (uy eL)) ?_ ?_
  .rintro j v τ H5 hv ⟨o,rfl,s5,eZ⟩
   obtain⟨k,hk,rfl⟩:=Rb hv;obtain⟨x,y,e,xz,yz,ne,ends⟩:=Bf ok (bl ▸ (R.lt k (AX hk)).1);obtain⟨v,hv,rv⟩:=uw pl e;obtain⟨tq,rfl,dP⟩:=CG rv;have rX:=s4.trans s5;have lj:(stepsL (as.map srt) h (left.take j)).length<=12:=BY (Do ..) (by rw[B0];exact wA lf);refine⟨_,rfl,_,rfl,_,rfl,l,xs,_,_,rfl,rfl,rX.seq hl,Bg hv,tq,_,rfl,.inr (rX.ts.seq dP),rfl,K32s.DK _,_,rfl,?_⟩;rw[uC (show ¬ (false=true) by decide),Cz];have kK:(h:Int)∈[(x:Int),(y:Int)]↔(ea (as.map srt) k=h\/eb (as.map srt) k=h):=by
    simp only[BH,D5,or_false];lia
   have es:stepsL (as.map srt) h (left.take (j+1))=stepsL (as.map srt) h (left.take j)++if(h:Int)∈[(x:Int),(y:Int)] then [k] else []:=by
    unfold stepsL;rw[K32s.take_snoc hk,CL];by_cases c:(h:Int)∈[(x:Int),(y:Int)]
    .rw[uD c,De (p:=λk=>decide (ea (as.map srt) k=h\/eb (as.map srt) k=h)) (uE (kK.mp c))];rfl
    .rw[uC c,C3 (p:=λk=>decide (ea (as.map srt) k=h\/eb (as.map srt) k=h)) (by rw[decide_eq_true_iff];exact λd=>c (kK.mpr d))];rfl
   rw[es];by_cases c:(h:Int)∈[(x:Int),(y:Int)]
   .refine iteP c ⟨_,rfl,_,eZ,Ay (by rw[Cy];exact ww lj),_,rfl,λb o e=>?_,?_⟩
    .rw[Af (Ae e hZ)]
     exact s5 b o e
    .rw[Ab,uD c,GD]
   .refine iteN c ⟨_,rfl,s5,?_⟩
    rw[uC c,Co];exact eZ
  rintro τ H5 ⟨o,rfl,s5,eZ⟩;rw[Cy,CM] at eZ;have rX:=s4.trans s5;have eL5:=s5 _ _ eL;have qV:=s5 _ _ eS;have n0:left.length≠0:=by lia
  have no:(stepsL (as.map srt) h left).length≠1+(if i=0 then 1 else 0)\/h∈seen->∀R,H5 R=none->Q (.ref R) (upd H5 R (.lst [])):=λc=>none_is H5 rX λa=>R.stop at0 n0 c (rg.mpr a);have tz:(if decide (V.int (0+(i:Int))=V.int 0)=true then(1:Int) else 0)=((if i=0 then 1 else 0:Nat):Int):=by
   by_cases c:i=0
   .rw[uD c,c];rfl
   .rw[uC c,uC (λe=>c (by have:=uG e;injection this with this;lia))];rfl
  refine⟨_,rfl,Z,_,rfl,.inl (uy eZ),_,rfl,rfl,.inr ⟨_,rfl,_,_,rfl,rfl,rfl,_,rfl,?_⟩⟩;rw[Cy,tz];by_cases c1:(stepsL (as.map srt) h left).length=1+(if i=0 then 1 else 0)
  .have hS5:SqL K H5 S0 ((up seen).map V.int):=by rw[Es];exact uy qV
   refine iteNP (by rw[c1];exact congrArg V.int (Int.natCast_add 1 _)) ⟨_,rfl,_,rfl,S0,_,rfl,.inl hS5,rfl,K32s.DK _,_,rfl,?_⟩;rw[uC (show ¬ (false=true) by decide),Cz];by_cases c2:h∈seen
   .exact iteP (FZ.mpr c2) ⟨AY _,no (.inr c2)⟩
   refine iteN (λe=>c2 (FZ.mp e)) ?_;obtain⟨k,ss,ek,kl,kp,R'⟩:=R.next bz at0 c1 c2
   rw[ek] at eZ;obtain⟨j,hj⟩:=M8 kl;have jl:=(AH.mp hj).1;have ZS:Z≠S0:=λe=>by rw[e,eS] at hZ;cases hZ
   have ZL:Z≠L0:=λe=>by rw[e,eL] at hZ;cases hZ
   refine⟨_,rfl,.inl ⟨rfl,_,uy qV⟩,_,rfl,S0,nI seen,_,rfl,rfl,qV,Ay (by rw[Cy];lia),?_⟩;rw[<- GD];have s6:Same H (upd H5 S0 (.lst (nI (seen++[h])))):=λb o e=>by
    rw[Af (Ae e nS0)];exact rX b o e
   have qO:(upd H5 S0 (.lst (nI (seen++[h])))) S0=uA (.lst (nI (seen++[h]))):=Ab;have eL6:(upd H5 S0 (.lst (nI (seen++[h])))) L0=uA (.lst (nI left)):=by rw[Af LS];exact eL5
   have rD:(upd H5 S0 (.lst (nI (seen++[h])))) Z=uA (.lst (nI (k::ss))):=by rw[Af ZS];exact eZ
   generalize upd H5 S0 (.lst (nI (seen++[h])))=H6 at s6 qO eL6 rD;have az0:atI (nI (k::ss)) ((0:Nat):Int)=uA (V.int (k:Int)):=Bg rfl;refine⟨_,rfl,.inl ⟨rfl,_,uy eL6⟩,_,rfl,Z,_,_,_,rfl,rfl,uy rD,az0,?_⟩;refine⟨L0,nI left,_,(k:Int),up left,j,rfl,rfl,eL6,by rw[<- Es];exact paired_ints _,rfl,by unfold up;rw[AS,hj];rfl,λm hm e=>?_,?_⟩
   .unfold up at e
    rw[AS] at e;obtain⟨m',e1,e2⟩:=Kb.mp e;have e3:left[m]?=left[j]?:=by rw[e1,hj,show m'=k from uM e2]
    have:=(Kx (uT hm jl) R.nd).mp e3;exact vq hm this
   have eE:(nI left).eraseIdx j=nI (left.erase k):=by
    rw[<- KC R.nd hj];exact(Iw _ _ _).symm
   rw[eE];have s7:Same H (upd H6 L0 (.lst (nI (left.erase k)))):=λb o e=>by
    rw[Af (Ae e nL0)];exact s6 b o e
   have eZ7:(upd H6 L0 (.lst (nI (left.erase k)))) Z=uA (.lst (nI (k::ss))):=by rw[Af ZL];exact rD
   have eS7:(upd H6 L0 (.lst (nI (left.erase k)))) S0=uA (.lst (nI (seen++[h]))):=by rw[Af (Cb LS)];exact qO
   have rM:(upd H6 L0 (.lst (nI (left.erase k)))) L0=uA (.lst (nI (left.erase k))):=Ab;generalize upd H6 L0 (.lst (nI (left.erase k)))=H7 at s7 eZ7 eS7 rM;obtain⟨x,y,e,xz,yz,ne,ends⟩:=Bf ok (bl ▸ (R.lt k kl).1);obtain⟨v,hv,rv⟩:=uw pl e;obtain⟨tq,rfl,dP⟩:=CG rv;have dP:=dP;have ex:=Bg hv;refine⟨_,rfl,_,rfl,Z,_,_,_,rfl,rfl,uy eZ7,az0,l,xs,_,_,rfl,rfl,s7.seq hl,ex,tq,_,_,_,rfl,rfl,s7.ts.seq dP,K32.at0,_,rfl,_,rfl,Z,_,_,_,rfl,rfl,uy eZ7,az0,l,xs,_,_,rfl,rfl,s7.seq hl,ex,tq,_,_,_,rfl,rfl,s7.ts.seq dP,at1,_,_,rfl,rfl,_,rfl,_,_,rfl,rfl,?_⟩;have sum:(x:Int)+(y:Int)-(h:Int)=((ea (as.map srt) k+eb (as.map srt) k-h:Nat):Int):=by lia
   refine⟨uA (.int (0+(i:Int))),uA (.ref Z),_,_,_,?_,s7,rM,eS7,R'⟩;rw[<- sum];rfl
  .exact iteNN (λe=>c1 (by injection e with e;lia)) (iteT ⟨AY _,no (.inl c1)⟩)
 .rintro σ H4 ⟨o6,o7,h,left,seen,rfl,s4,eL,eS,R⟩
  rw[Cc] at R;have ll:=R.ll;have l0:left=[]:=Cs.mp (by lia);subst l0;have w:=(R.go (by rw[C9];exact wV)).2.2;have w:h=b↔RingS false z as (k0::ks):=by
   rw[<- rg,<- w];show _↔(decide (h=b)&&decide (([]:uL)=[]))=true;rw[uE (rfl:([]:uL)=[]),WI,decide_eq_true_iff]
  refine⟨_,rfl,_,rfl,rfl,_,rfl,?_⟩;by_cases c:h=b
  .refine iteNP (by rw[c]) ⟨_,rfl,q S0 seen H4 s4 nS0 eS ⟨⟨λ_=>w.mp c,λ_ e=>?_⟩,λ_=>R.sl⟩⟩
   have:=R.sl;rw[e] at this;cases this
  .exact iteNN (λe=>c (by injection e with e;exact uM e)) ⟨AY _,none_is H4 s4 λa=>c (w.mpr a)⟩
end
structure SetT(K:Ap)(H:Hp)(t:Addr)(n:Nat)(su:uL):Prop where
 at_:SqT K H t ((up su).map V.int)
 pw:su.Pairwise (· < ·)
 lt:∀x∈su,x<n
theorem SetT.same{t:Addr}(h:SetT K H t n su)(e:Same H H'):SetT K H' t n su:=⟨e.ts.seq h.at_,h.pw,h.lt⟩
def ZK(K:Ap):Sp:=λvs H Q _=>∃(l:Addr) (c:Int) (as:uJ),vs=[.ref l,.int c]/\TlAt K H l as/\as.length<=12 /\
 ∀(t:Addr) (su:uL) (H':Hp),Same H H'->SetT K H' t as.length su->Q (.ref t) H'
def Ry(K:Ap):Sp:=λvs H Q _=>∃(l:Addr) (z:Nat) (c:Int) (as:uJ),vs=[.int (z:Int),.ref l,.int c]/\TlAt K H l as/\OkTies (z:Int) as/\1<=z/\z<=10/\as.length<=12 /\
 ∀(t:Addr) (su:uL) (H':Hp),Same H H'->SetT K H' t as.length su->Q (.ref t) H'
theorem key{T G:Prop}(t:T)(g:T->G):G:=g t
theorem ACv{sm:uL}(nd:sm.Nodup)(lt:∀x∈sm,x<n)(pm:ms.Perm (up sm))(so:ms.Pairwise (·<=·)):∃su:uL,ms=up su/\su.Pairwise (· < ·)/\∀x∈su,x<n:=by
 have mem:∀x∈ms,∃k∈sm,x=(k:Int):=λx hx=>by
  obtain⟨k,hk,e⟩:=A1.mp (pm.mem_iff.mp hx);exact⟨k,hk,e.symm⟩
 have e:ms=up (ms.map Ff):=by
  unfold up;rw[G6]
  conv=>lhs;rw[<- List.map_id ms]
  refine HI λx hx=>?_;obtain⟨k,_,rfl⟩:=mem x hx;rfl
 refine⟨ms.map Ff,e,?_,λx hx=>?_⟩
 .have nd2:=pm.nodup_iff.mpr (by
   unfold up LP;rw[CY];exact ZU (λh e=>h (My e)) nd)
  rw[CY];refine EO (λ{a b} ha hb h=>?_) (List.pairwise_and_iff.mpr ⟨so,nd2⟩);obtain⟨i,_,rfl⟩:=mem a ha;obtain⟨j,_,rfl⟩:=mem b hb;obtain⟨h1,h2⟩:=h;have h2:=h2;lia
 .obtain⟨y,hy,rfl⟩:=A1.mp hx
  obtain⟨k,hk,rfl⟩:=mem y hy;exact lt k hk
theorem ADw:FnScope zl20 zl20 (Ah YB):=fscp (by decide+kernel)
theorem ACz(F:Fun K "_law_bits" "_law_bits" YB f fd)(T:Txt K mg C):FnOk P w K mg base CX0 1 f fd zl20 (ZK K):=by
 refine F.ok ADw (λvs H Q E h=>?_) (λa7 A outer s H vs Q E hr h=>?_)
 .obtain⟨l,c,as,rfl,_⟩:=h
  rfl
 obtain⟨l,c,as,rfl,⟨xs,hl,pl⟩,a12,q⟩:=h;have lx:=AV pl;refine⟨_,Ai (Ao (Bb Bo rfl T.tuple Db (Aa (Bq (Ah YB) ["_law_k"] ["_law_cell"] [1] rfl rfl (by decide+kernel) ⟨⟨rfl,by decide+kernel⟩,trivial⟩ (Cv rfl T.range (Aa (Ax Ar rfl T.len Cn (Aa (pv 0) Ac)) Ac))
   (λ_ _ _=>BK (i:=0))
   (λ_ _ _=>CK (Am DR (Az AFy (Az AHD (pv 1) (pv 0)) Ag) Ag))
   (λ_ _ _=>pv 0)) Ac))),?_⟩
 refine⟨_,rfl,l,xs,rfl,.inl hl,_,rfl,by lia,by lia,λZ hZ=>?_⟩;refine Ci (lo:=0) (n:=((xs.length:Nat):Int).toNat) (λj τ H2=>∃(o:Option V) (su:uL),τ=[o,uA (.int c)]/\Same H H2/\H2 Z=uA (.lst (nI su))/\su.Pairwise (· < ·)/\(∀x∈su,x<j)) ⟨uB,[],rfl,u8 hZ _,Ab,.nil,λx hx=>by cases hx⟩ ?_ ?_
 .rintro j τ H2 hj ⟨o,su,rfl,s2,eZ,pw,lt⟩
  have ej:(0:Int)+j=(j:Int):=vp;rw[ej];rw[Cc] at hj;have sl:=K32s.KR pw lt;refine⟨_,rfl,_,rfl,_,_,rfl,rfl,fv,_,_,rfl,rfl,rfl,_,rfl,ite2 (λ_=>?_) (λ_=>?_)⟩
  .refine⟨_,rfl,_,eZ,Ay (by rw[Cy];lia),_,su++[j],rfl,λb o e=>?_,?_,?_,λx hx=>?_⟩
   .rw[Af (Ae e hZ)]
    exact s2 b o e
   .rw[Ab,GD]
   .exact C8.mpr ⟨pw,JS ..,λx hx y hy=>by rw[BG.mp hy];exact lt x hx⟩
   .rcases Ct.mp hx with h| h
    .have:=lt x h;exact vb this
    .rw[BG.mp h];exact DI _
  .exact⟨_,su,rfl,s2,eZ,pw,λx hx=>FI (lt x hx)⟩
 .rintro τ H2 ⟨o,su,rfl,s2,eZ,pw,lt⟩
  rw[Cc,<- lx] at lt;refine⟨Z,_,rfl,.inl ⟨uy eZ,λt ht=>?_⟩⟩;exact q t su _ (s2.trans (u8 ht _)) ⟨uz (by rw[Ab,Es]),pw,lt⟩
noncomputable abbrev wkN:uU:=["_law_many","_law_rows_here","_law_cell","_law_begin","_law_here","_law_seen","_law_some","_law_turn","_law_steps","_law_k","_law_row"]
theorem Ce:FnScope wkN ["_law_many","_law_rows_here","_law_cell"] (Ah RG):=fscp (by decide+kernel)
theorem AAR(F:Fun K "_law_walked" "_law_walked" RG f fd)(T:Txt K mg C):FnOk P w K mg base CX0 1 f fd zl34 (Ry K):=by
 refine F.ok Ce (λvs H Q E h=>?_) (λa7 A outer s H vs Q E hr h=>?_)
 .obtain⟨l,z,c,as,rfl,_⟩:=h
  rfl
 obtain⟨l,z,c,as,rfl,hT,ok,z1,z10,a12,q⟩:=h;refine⟨_,Ad (Ak (i:=3) Ce.nd (Az Ca (pv 2) (pv 0)))
  (Ad (Ak (i:=2) Ce.nd (Az Ek (pv 2) (pv 0)))
  (Ad (Ak (i:=4) Ce.nd (pv 3))
  (Ad (Ak (i:=5) Ce.nd (Bm Ac))
  (Ad (Ak (i:=6) Ce.nd (Bm Ac))
  (Ad (DW C5 rfl (Cv rfl T.range (Aa Ag Ac)) (BX (i:=7) Ce.nd)
   (Ad (Ak (i:=8) Ce.nd (Bm Ac))
   (Ad (DW C5 rfl (HY rfl T.enum (Aa (pv 1) Ac)) (Ju rfl (Bd (BX (i:=9) Ce.nd) (Bd (BX (i:=10) Ce.nd) Dp)))
    (Ai (Bl (uq (Gj (Am Eo (pv 4) (pv 10) rfl) (Gj (Am Gd (pv 9) (pv 6) rfl) (Hs (Am Gd (Az Fd (Az Cp (Av BW (pv 10) Ag) (Av BW (pv 10) Ag)) (pv 4)) (pv 5) rfl)))))
     (Ai (Cw (Hf C2 D7 D8 DP (pv 8) (Aa (pv 9) Ac)))) BJ)))
   (Ai (Bl (uq (Gj (Am (Ie CT (Br hr)) (pv 8) (Bm Ac) rfl) (Hs (uq (Gg (Am (Kz CT (Br hr)) (pv 6) (Bm Ac) rfl) (FT (Am JZ (pv 4) (pv 3))))))))
    (Ad (Ak (i:=9) Ce.nd (Av BL (pv 8) (Az Ca (pv 2) (Ax Ar rfl T.len Cn (Aa (pv 8) Ac)))))
    (Ad (Ak (i:=2) Ce.nd (Az Ek (pv 2) (Ax Ar rfl T.len Cn (Aa (pv 8) Ac))))
    (Ad (Ak (i:=4) Ce.nd (Az Fd (Az Cp (Av BW (Av BL (pv 1) (pv 9)) Ag) (Av BW (Av BL (pv 1) (pv 9)) Ag)) (pv 4)))
    (Ad (Cw (Hf C2 D7 D8 DP (pv 5) (Aa (pv 4) Ac)))
    (Ai (Cw (Hf C2 D7 D8 DP (pv 6) (Aa (pv 9) Ac)))))))) BJ)))))
  (Ai (Ao (Bb Bo rfl T.tuple Db (Aa (Ax Gm rfl T.sorted IY (Aa (pv 6) Ac)) Ac))))))))),?_⟩
 obtain⟨xs,hl,pl⟩:=id hT;have lx:=AV pl;have row:∀{k:Nat},k<as.length->∃x y:Int,as[k]?=uA [x,y]/\∀{H':Hp},Same H H'->∃tq,xs[k]?=uA (.ref tq)/\SqT K H' tq [.int x,.int y]:=λ{k} kl=>by
  obtain⟨x,y,e,_⟩:=Bf ok kl;obtain⟨v,hv,rv⟩:=uw pl e;obtain⟨tq,rfl,dP⟩:=CG rv;exact⟨x,y,e,λs=>⟨tq,hv,s.ts.seq dP⟩⟩
 have zp:(0:Int)<(z:Int):=by lia
 refine⟨_,rfl,_,rfl,_,_,rfl,rfl,zp,_,rfl,_,rfl,_,_,rfl,rfl,⟨zp,by lia⟩,_,rfl,AY _,λS0 n9=>⟨AY _,λM0 tI=>?_⟩⟩;dsimp only;generalize c%(z:Int)=b;generalize c / (z:Int)=c0;have s1:=(u8 n9 (.lst [])).trans (u8 tI (.lst []));have eS1:(upd (upd H S0 (.lst [])) M0 (.lst [])) S0=uA (.lst (([]:uI).map V.int)):=(u8 tI _) _ _ Ab;have eM1:(upd (upd H S0 (.lst [])) M0 (.lst [])) M0=uA (.lst (nI [])):=Ab;have SM:S0≠M0:=λe=>by rw[<- e,Ab] at tI;cases tI
 have hM0':=(u8 n9 _).free tI;generalize upd (upd H S0 (.lst [])) M0 (.lst [])=H1 at s1 eS1 eM1;refine⟨_,rfl,by decide,by decide,?_⟩;refine Je (lo:=0) (n:=(10:Int).toNat) (λi σ H2=>∃(o7 o8 o9 dq:Option V) (h cc:Int) (seen:uI) (sm:uL),σ=[uA (.int (z:Int)),uA (.ref l),uA (.int cc),uA (.int b),uA (.int h),uA (.ref S0),uA (.ref M0),o7,o8,o9,dq]/\Same H H2/\H2 S0=uA (.lst (seen.map V.int))/\H2 M0=uA (.lst (nI sm))/\seen.length<=i/\sm.length<=i/\sm.Nodup/\∀k∈sm,k<as.length)
  ⟨uB,uB,uB,uB,b,c0,[],[],rfl,s1,eS1,eM1,AF _,AF _,KP,λk hk=>by cases hk⟩ ?_ ?_
 .rintro i σ H2 hi ⟨o7,o8,o9,dq,h,cc,seen,sm,rfl,s2,eS,eM,sl,ml,nd,hk⟩
  have hi:=hi;refine⟨AY _,λZ hZ=>?_⟩;have s3:=u8 hZ (.lst []);have SZ:=Ae eS hZ;have MZ:=Ae eM hZ;refine⟨_,rfl,l,rfl,⟨_,(s2.trans s3).seq hl⟩,?_⟩;refine Ld (xs:=xs) (λj σ H3=>∃(o9 dq:Option V) (ks:uL),σ=[uA (.int (z:Int)),uA (.ref l),uA (.int cc),uA (.int b),uA (.int h),uA (.ref S0),uA (.ref M0),uA (.int (0+(i:Int))),uA (.ref Z),o9,dq]/\Same H2 H3/\H3 Z=uA (.lst (nI ks))/\ks.length<=j/\∀k∈ks,k<as.length/\k∉sm)
   ⟨_,_,[],rfl,s3,Ab,AF _,λk hk=>by cases hk⟩ (by rintro j σ H3 _ ⟨_,_,_,_,sm,_⟩;exact(s2.trans sm).seq hl) ?_ ?_
  .rintro j v σ H3 T1 hv eJ ⟨o9,dq,ks,rfl,s3,eZ,kl,kp⟩
   have jl:j<as.length:=by rw[lx];exact(AH.mp hv).1
   obtain⟨x,y,e,at_⟩:=row jl;have sT:Same H3 (upd H3 T1 (.tup [.int j,v])):=u8 eJ _;have eT:(upd H3 T1 (.tup [.int j,v])) T1=uA (.tup [.int j,v]):=Ab;generalize upd H3 T1 (.tup [.int j,v])=H4 at sT eT;have iE:=s3.trans sT;obtain⟨tq,e2,dP⟩:=at_ (s2.trans iE);cases hv.symm.trans e2;have eS4:=iE _ _ eS;have eM4:SqL K H4 M0 ((up sm).map V.int):=by rw[Es];exact uy (iE _ _ eM)
   have eZ4:=sT _ _ eZ;have go:∃(o9 dq:Option V) (ks:uL),[uA (.int (z:Int)),uA (V.ref l),uA (.int cc),uA (.int b),uA (.int h),uA (.ref S0),uA (.ref M0),uA (.int (0+(i:Int))),uA (.ref Z),uA (.int (j:Int)),uA (.ref tq)]=[uA (.int (z:Int)),uA (.ref l),uA (.int cc),uA (.int b),uA (.int h),uA (.ref S0),uA (.ref M0),uA (.int (0+(i:Int))),uA (.ref Z),o9,dq]/\Same H2 H4/\H4 Z=uA (.lst (nI ks))/\ks.length<=j+1/\∀k∈ks,k<as.length/\k∉sm:=⟨_,_,ks,rfl,iE,eZ4,vd kl,kp⟩;refine⟨T1,_,rfl,uz eT,rfl,_,_,rfl,_,_,rfl,rfl,?_⟩;refine⟨_,rfl,_,rfl,tq,_,rfl,.inr dP,rfl,rfl,_,rfl,?_⟩;refine ite2 (λ_=>?_) (λ_=>iteF go);refine⟨_,rfl,_,rfl,M0,_,rfl,.inl eM4,rfl,K32s.DK _,_,rfl,?_⟩;rw[uD rfl,Cz];by_cases c1:j∈sm
   .exact iteNP (FZ.mpr c1) (iteF go)
   refine iteNN (λe=>c1 (FZ.mp e)) ?_;refine⟨_,rfl,tq,_,_,_,rfl,rfl,dP,at0,_,rfl,tq,_,_,_,rfl,rfl,dP,at1,_,_,rfl,rfl,_,rfl,_,_,rfl,rfl,_,rfl,S0,_,rfl,.inl (uy eS4),rfl,K32s.DK _,_,rfl,?_⟩;refine ite2 (λ_=>?_) (λ_=>go);refine⟨_,rfl,.inl ⟨rfl,_,uy eZ4⟩,_,rfl,Z,nI ks,_,rfl,rfl,eZ4,Ay (by rw[Cy];lia),_,_,ks++[j],rfl,λb o e=>?_,?_,by rw[AZ];show _+1<=_;lia,λk hk=>?_⟩
   .rw[Af (Ae e hZ)]
    exact iE b o e
   .rw[Ab,GD]
   .rcases Ct.mp hk with h| h
    .exact kp k h
    .rw[BG.mp h];exact⟨jl,c1⟩
  rintro σ H3 ⟨o9,dq,ks,rfl,s3,eZ,kl,kp⟩;have qi:=s2.trans s3;have stay:∀{o9 dq:Option V} (H4:Hp),Same H3 H4->∃(o7 o8 o9' o10':Option V) (h' cc':Int) (seen:uI) (sm:uL),[uA (.int (z:Int)),uA (V.ref l),uA (.int cc),uA (.int b),uA (.int h),uA (.ref S0),uA (.ref M0),uA (.int (0+(i:Int))),uA (.ref Z),o9,dq]=[uA (.int (z:Int)),uA (.ref l),uA (.int cc'),uA (.int b),uA (.int h'),uA (.ref S0),uA (.ref M0),o7,o8,o9',o10']/\Same H H4/\H4 S0=uA (.lst (seen.map V.int))/\H4 M0=uA (.lst (nI sm))/\seen.length<=i+1/\sm.length<=i+1/\sm.Nodup/\∀k∈sm,k<as.length:=λH4 s4=>⟨_,_,_,_,h,cc,seen,sm,rfl,qi.trans s4,(s3.trans s4) _ _ eS,(s3.trans s4) _ _ eM,vd sl,vd ml,nd,hk⟩;refine⟨_,rfl,AY _,λO1 gL=>?_⟩;have sO:=u8 gL (.lst []);have eO:(upd H3 O1 (.lst [])) O1=uA (.lst []):=Ab;generalize upd H3 O1 (.lst [])=H4 at sO eO;refine⟨up ks,[],⟨Z,_,rfl,uy (sO _ _ eZ),by rw[<- Es];exact paired_ints _⟩,⟨O1,_,rfl,uy eO,.nil⟩,_,rfl,?_⟩;by_cases c0:ks=[]
  .exact iteNP (by rw[c0];rfl) (iteF (stay H4 sO))
  refine iteNN (λe=>c0 (DM.mp e)) ?_;refine⟨_,rfl,AY _,λO2 tj=>?_⟩;have sP:=sO.trans (u8 tj (.lst []));have eP:(upd H4 O2 (.lst [])) O2=uA (.lst []):=Ab;generalize upd H4 O2 (.lst [])=H5 at sP eP;have fk:=s3.trans sP;have eZ5:=sP _ _ eZ;refine⟨up sm,[],⟨M0,_,rfl,uy (fk _ _ eM),by rw[<- Es];exact paired_ints _⟩,⟨O2,_,rfl,uy eP,.nil⟩,_,rfl,?_⟩;apply key
  rotate_left
  .intro body
   exact ite2 (λ_=>iteT body) λ_=>⟨_,rfl,_,rfl,rfl,_,rfl,ite2 (λ_=>body) (λ_=>stay H5 sP)⟩
  have kn:=JJ.mpr c0;have zp:(0:Int)<(((nI ks).length:Nat):Int):=by rw[Cy];exact xZ kn
  have m0:=Fa cc (show(((nI ks).length:Nat):Int)≠0 from wH zp);have m1:=EG cc zp;obtain⟨m,em⟩:=Hk m0;have ml':m<ks.length:=by rw[Cy] at em m1;exact xt m1 em
  obtain⟨k,ek⟩:∃k,ks[m]?=uA k:=⟨_,AI ml'⟩;have atk:atI (nI ks) (cc%(((nI ks).length:Nat):Int))=uA (.int (k:Int)):=by
   rw[em];exact Bg (by unfold nI;rw[AS,ek];rfl)
  refine⟨_,rfl,_,rfl,_,rfl,Z,_,rfl,.inl (uy eZ5),_,_,rfl,rfl,zp,Z,_,_,_,rfl,rfl,uy eZ5,atk,?_⟩;refine⟨_,rfl,_,rfl,Z,_,rfl,.inl (uy eZ5),_,_,rfl,rfl,⟨zp,by rw[Cy];lia⟩,?_⟩;obtain⟨sq,nk⟩:=kp k (AX ek);obtain⟨x,y,e,at_⟩:=row sq;obtain⟨tq,hv,dP⟩:=at_ (s2.trans fk);have lT:=(s2.trans fk).seq hl;have av:=Bg hv;refine⟨_,rfl,_,rfl,l,xs,_,_,rfl,rfl,lT,av,tq,_,_,_,rfl,rfl,dP,at0,_,rfl,_,rfl,l,xs,_,_,rfl,rfl,lT,av,tq,_,_,_,rfl,rfl,dP,at1,_,_,rfl,rfl,_,rfl,_,_,rfl,rfl,?_⟩;have qV:=fk _ _ eS;refine⟨_,rfl,.inl ⟨rfl,_,uy qV⟩,_,rfl,S0,_,_,rfl,rfl,qV,Ay (by rw[AB];exact zG sl hi),?_⟩;have eM5:(upd H5 S0 (.lst (seen.map V.int++[V.int (x+y-h)]))) M0=uA (.lst (nI sm)):=by rw[Af (Cb SM)];exact fk _ _ eM
  refine⟨_,rfl,.inl ⟨rfl,_,uy eM5⟩,_,rfl,M0,_,_,rfl,rfl,eM5,Ay (by rw[Cy];exact zG ml hi),?_⟩;refine⟨uA (.int (0+(i:Int))),uA (.ref Z),uA (.int (k:Int)),dq,x+y-h,cc / (((nI ks).length:Nat):Int),seen++[x+y-h],sm++[k],rfl,λb o e=>?_,?_,?_,by rw[AZ];show _+1<=_;exact vD sl,by rw[AZ];show _+1<=_;exact vD ml,?_,λk' a6=>?_⟩
  .rw[Af (Ae e hM0'),Af (Ae e n9)]
   exact fk _ _ (s2 b o e)
  .rw[Af SM,Ab,BM]
   rfl
  .rw[Ab,GD]
  .exact KB.mpr ⟨nd,DC.mpr ⟨D5,KP⟩,λp hp q hq e=>nk (by rw[<- BG.mp hq,<- e];exact hp)⟩
  .rcases Ct.mp a6 with h' | h'
   .exact hk k' h'
   .rw[BG.mp h']
    exact sq
 .rintro σ H2 ⟨o7,o8,o9,dq,h,cc,seen,sm,rfl,s2,eS,eM,sl,ml,nd,hk⟩
  have ml:=ml;refine⟨_,rfl,M0,up sm,rfl,.inl (uy (by rw[Es];exact eM)),by rw[Il];lia,λl5 ms lT pm so=>⟨l5,_,rfl,.inl ⟨uy Ab,λt ht=>?_⟩⟩⟩;obtain⟨su,rfl,pw,lt⟩:=ACv nd hk pm so;exact q t su _ (s2.trans ((u8 lT _).trans (u8 ht _))) ⟨uz Ab,pw,lt⟩
theorem JW(p:BI (rPair K H) (ss.map up) ys)(h:ys[i]?=uA v):∃s t,ss[i]?=uA s/\v=.ref t/\SqT K H t ((up s).map V.int):=by
 obtain⟨u,hu,rv⟩:=Paired.get p h;obtain⟨t,rfl,ht⟩:=CG rv;rw[AS] at hu;obtain⟨s,hs,rfl⟩:=Kb.mp hu;exact⟨s,t,hs,rfl,ht⟩
def ACO(K:Ap):Sp:=λvs H Q _=>∃(l L:Addr) (z:Nat) (c k:Int) (as:uJ) (ss:List uL),vs=[.int (z:Int),.ref l,.ref L,.int c,.int k]/\TlAt K H l as/\OkTies (z:Int) as/\1<=z/\z<=10/\as.length<=12/\Told K H L ss/\ss.length<=5000/\(∀s∈ss,s≠[]/\s.Pairwise (· < ·)/\∀x∈s,x<as.length) /\
 ∀(t:Addr) (su:uL) (H':Hp),Same H H'->SetT K H' t as.length su->Q (.ref t) H'
noncomputable abbrev stN:uU:=["_law_many","_law_rows_here","_law_told","_law_cell","_law_k","_law_some","_law_tie"]
theorem WR:FnScope stN ["_law_many","_law_rows_here","_law_told","_law_cell","_law_k"] (Ah Xu):=fscp (by decide+kernel)
theorem AEw(F:Fun K "_law_set" "_law_set" Xu f fd)(T:Txt K mg C)
  (GW:Cal P w K mg base 1 fW fdW "_law_walked" zl34 (Ry K))
  (GB:Cal P w K mg base 1 fB qZ "_law_bits" zl20 (ZK K)) :
  FnOk P w K mg base CX0 2 f fd zl35 (ACO K):=by
 refine F.ok WR (λvs H Q E h=>?_) (λa7 A outer s H vs Q E hr h=>?_)
 .obtain⟨l,L,z,c,k,as,ss,rfl,_⟩:=h
  rfl
 obtain⟨l,L,z,c,k,as,ss,rfl,hT,ok,z1,z10,a12,⟨ys,hL,pL⟩,s5k,sg,q⟩:=h;refine⟨_,Hu (Bl (uq (Gj (Am DR (Az Ca (pv 4) Ag) Ag) (Gj (Am (Ie (FN CT) (Br hr)) (pv 2) (Bm Ac) rfl) (Hs (Am (Ie (FN CT) (Br hr)) (pv 1) (Bm Ac) rfl)))))
   (Ad (Ak (i:=5) WR.nd (Av BL (pv 2) (Az Ca (pv 3) (Ax Ar rfl T.len Cn (Aa (pv 2) Ac)))))
   (Ad (Ak (i:=6) WR.nd (Az Ca (Az Ek (pv 3) (Ax Ar rfl T.len Cn (Aa (pv 2) Ac))) (Az Ij Ag (Ax Ar rfl T.len Cn (Aa (pv 1) Ac)))))
   (Hu (Bl (Am Eo (pv 6) (pv 5) rfl) (Ai (Ao (Bb Bo rfl T.tuple Db (Aa (Bq (Ah Xu) ["_law_one"] ["_law_tie"] [6] rfl rfl (by decide+kernel) ⟨⟨rfl,by decide+kernel⟩,trivial⟩ (AGN (pv 5))
      (λ_ _ _=>BK (i:=0)) (λ_ _ _=>CK (Am JZ (pv 0) (pv 1))) (λ_ _ _=>pv 0)) Ac)))) BJ)
   (Ad (Bl (Am Ln (pv 6) (Ax Ar rfl T.len Cn (Aa (pv 1) Ac))) (Ai (Ao (Bb Bo rfl T.tuple Db (Aa (Ax Gm rfl T.sorted IY (Aa (Az Yl (pv 5) (Cq (Aa (pv 6) Ac))) Ac)) Ac)))) BJ)
   (Ai (Ao (pv 5))))))) BJ)
  (Ad (Bl (Am DR (Az Ca (pv 4) Ag) Ag) (Ai (Ao (BP GW (hr.mono (by decide)) rfl (Aa (pv 0) (Aa (pv 1) (Aa (pv 3) Ac)))))) BJ)
  (Ai (Ao (BP GB (hr.mono (by decide)) rfl (Aa (pv 1) (Aa (pv 3) Ac)))))),?_⟩
 obtain⟨xs,hl,pl⟩:=id hT;have lx:=AV pl;have lL:=AV pL;rw[AB] at lL;refine⟨λσ H1=>σ=[uA (.int (z:Int)),uA (.ref l),uA (.ref L),uA (.int c),uA (.int k),uB,uB]/\Same H H1,?_,?_⟩
 .refine⟨_,rfl,_,_,rfl,rfl,(by show(0:Int)<3;decide),rfl,_,rfl,?_⟩
  refine ite2 (λ_=>?_) (λ_=>iteF ⟨rfl,u3 _⟩);refine⟨_,rfl,AY _,λO1 gL=>?_⟩;have s1:=u8 gL (.lst []);have eO:(upd H O1 (.lst [])) O1=uA (.lst []):=Ab;generalize upd H O1 (.lst [])=H1 at s1 eO;have tL:=u7 (λ_ _ r=>Aq Aw _ _ _ _ s1.ts r) pL;refine⟨_,_,⟨L,_,rfl,s1.seq hL,tL⟩,⟨O1,_,rfl,uy eO,.nil⟩,_,rfl,?_⟩;by_cases c0:ss.map up=[]
  .exact iteNP c0 (iteF ⟨rfl,s1⟩)
  refine iteNN c0 ?_;refine⟨_,rfl,AY _,λO2 tj=>?_⟩;have s2:=s1.trans (u8 tj (.lst []));have eO2:(upd H1 O2 (.lst [])) O2=uA (.lst []):=Ab;generalize upd H1 O2 (.lst [])=H2 at s2 eO2;have oQ:=s2.seq hL;have qR:=u7 (λ_ _ r=>Aq Aw _ _ _ _ s2.ts r) pL;have pl2:=u7 (λ_ _ r=>Aq Aw _ _ _ _ s2.ts r) pl;have fm:=s2.seq hl;refine⟨_,_,⟨l,_,rfl,fm,pl2⟩,⟨O2,_,rfl,uy eO2,.nil⟩,_,rfl,?_⟩;by_cases c1:as=[]
  .exact iteNP c1 ⟨rfl,s2⟩
  refine iteNN c1 ?_;have sp:0<ys.length:=by
   rw[<- lL];exact JJ.mpr λe=>c0 (by rw[e];rfl)
  have ap:=JJ.mpr c1;have zp:(0:Int)<((ys.length:Nat):Int):=xZ sp;have m0:=Fa c (show((ys.length:Nat):Int)≠0 by lia);have m1:=EG c zp;obtain⟨m,em⟩:=Hk m0;have ml:m<ys.length:=xt m1 em;obtain⟨su,t,es,ev,ht⟩:=JW qR (AI ml);have av:atI ys (c%((ys.length:Nat):Int))=uA (.ref t):=by
   rw[em];exact Bg (by rw[AI ml,ev])
  obtain⟨sne,pw,lt⟩:=sg su (AX es);have sl:=K32s.KR pw lt;have xp:(0:Int)<2*((xs.length:Nat):Int):=by lia
  refine⟨_,rfl,_,rfl,_,rfl,L,_,rfl,.inl oQ,_,_,rfl,rfl,zp,L,_,_,_,rfl,rfl,oQ,av,?_⟩;refine⟨_,rfl,_,rfl,L,_,rfl,.inl oQ,_,_,rfl,rfl,⟨zp,by lia⟩,_,rfl,l,_,rfl,.inl fm,_,_,rfl,rfl,.inl ⟨by decide,by decide⟩,_,_,rfl,rfl,xp,?_⟩;dsimp only;have d0:=Fa (c / ((ys.length:Nat):Int)) (show 2*((xs.length:Nat):Int)≠0 by lia);generalize c / ((ys.length:Nat):Int)%(2*((xs.length:Nat):Int))=d at d0;obtain⟨tt,rfl⟩:=Hk d0;refine⟨λσ H3=>σ=[uA (.int (z:Int)),uA (.ref l),uA (.ref L),uA (.int c),uA (.int k),uA (.ref t),uA (.int (tt:Int))]/\H3=H2/\tt∉su,?_,?_⟩
  .refine⟨_,rfl,_,rfl,t,_,rfl,.inr ht,rfl,K32s.DK _,_,rfl,?_⟩
   rw[uC (show ¬ (false=true) by decide),Cz];by_cases c2:tt∈su
   .refine iteP (FZ.mpr c2) ⟨_,rfl,t,rfl,⟨_,ht⟩,λZ hZ=>?_⟩
    refine AAq (K:=K) (a:=t) (xs:=(up su).map V.int) (λj τ H3=>∃o:Option V,τ=[o,uA (.int (tt:Int))]/\Same H2 H3/\H3 Z=uA (.lst (nI ((su.take j).filter λk=>decide (k≠tt))))) ⟨uB,rfl,u8 hZ _,Ab⟩ (by rintro j τ H3 _ ⟨_,_,sm,_⟩;exact sm.ts.seq ht) ?_ ?_
    .rintro j x τ H3 hx ⟨o,rfl,s3,eZ⟩
     rw[Es] at hx;obtain⟨i,hi,rfl⟩:=Rb hx;have lj:((su.take j).filter λk=>decide (k≠tt)).length<=12:=BY (Do ..) (by rw[B0];lia);refine⟨_,rfl,_,rfl,rfl,_,rfl,?_⟩;have e:(su.take (j+1)).filter (λk=>decide (k≠tt))=((su.take j).filter λk=>decide (k≠tt))++if i=tt then [] else [i]:=by
      rw[K32s.take_snoc hi,CL];by_cases c3:i=tt
      .rw[uD c3,C3 (by rw[decide_eq_true_iff];exact λh=>h c3)];rfl
      .rw[uC c3,De (p:=λk=>decide (k≠tt)) (uE c3)];rfl
     rw[e];by_cases c3:i=tt
     .refine iteNP (by rw[c3]) ⟨_,rfl,s3,?_⟩
      rw[uD c3,Co];exact eZ
     .refine iteNN (λe=>c3 (by injection e with e;exact uM e)) ⟨_,rfl,_,eZ,Ay (by rw[Cy];exact ww lj),_,rfl,λb o e=>?_,?_⟩
      .rw[Af (Ae e hZ)]
       exact s3 b o e
      .rw[Ab,uC c3,GD]
    .rintro τ H3 ⟨o,rfl,s3,eZ⟩
     rw[AB,Il,CM] at eZ;refine⟨Z,_,rfl,.inl ⟨uy eZ,λt2 oq=>?_⟩⟩;exact q t2 _ _ (s2.trans (s3.trans (u8 oq _))) ⟨uz (by rw[Ab,Es]),pw.filter _,λx hx=>lt x (BQ.mp hx).1⟩
   .exact iteN (λe=>c2 (FZ.mp e)) ⟨rfl,rfl,c2⟩
  rintro σ H3 ⟨rfl,rfl,c2⟩;refine⟨_,rfl,_,rfl,l,_,rfl,.inl fm,_,_,rfl,rfl,_,rfl,?_⟩;by_cases c3:tt<as.length
  .refine iteP (by lia) ⟨_,rfl,_,rfl,(by show 1<=sizeLine;decide),λt2 oq=>?_⟩
   have s4:=u8 oq (.tup [V.int (tt:Int)]);have e2:(upd H3 t2 (.tup [V.int (tt:Int)])) t2=uA (.tup [V.int (tt:Int)]):=Ab;generalize upd H3 t2 (.tup [V.int (tt:Int)])=H4 at s4 e2;have une:(up su).map V.int≠[]:=λe=>sne (DM.mp (DM.mp e));refine⟨t,t2,_,_,rfl,rfl,s4.ts.seq ht,uz e2,DB (Ay (by rw[AB,Il];show _+1<=_;lia)),λe=>uH e une,λ_ e=>(by cases e),λ_ _ t3 ht3=>?_⟩;have e3:(upd H4 t3 (.tup ((up su).map V.int++[V.int (tt:Int)]))) t3=uA (.tup ((up (su++[tt])).map V.int)):=by
    rw[Ab,Es,Es,GD]
   have s5:=s2.trans (s4.trans (u8 ht3 (.tup ((up su).map V.int++[V.int (tt:Int)]))));generalize upd H4 t3 (.tup ((up su).map V.int++[V.int (tt:Int)]))=H5 at e3 s5;refine⟨t3,up (su++[tt]),rfl,.inr (uz e3),by rw[Il,AZ,Eg];lia,λl5 ms lT pm so=>⟨l5,_,rfl,.inl ⟨uy Ab,λt6 ht6=>?_⟩⟩⟩;have nd:(su++[tt]).Nodup:=KB.mpr ⟨pw.imp λh=>BU h,DC.mpr ⟨D5,KP⟩,λp hp q hq e=>c2 (by rw[<- BG.mp hq,<- e];exact hp)⟩;obtain⟨sv,rfl,pw',lt'⟩:=ACv nd (n:=as.length) (λx hx=>by
    rcases Ct.mp hx with h| h
    .exact lt x h
    .rw[BG.mp h];exact c3) pm so
   exact q t6 sv _ (s5.trans ((u8 lT _).trans (u8 ht6 _))) ⟨uz Ab,pw',lt'⟩
  .exact iteN (by lia) ⟨_,rfl,q t su _ s2 ⟨ht,pw,lt⟩⟩
 rintro σ H1 ⟨rfl,s1⟩;refine⟨_,rfl,_,_,rfl,rfl,(by show(0:Int)<3;decide),rfl,_,rfl,?_⟩;refine ite2 (λ_=>?_) (λ_=>?_)
 .exact⟨_,rfl,_,rfl,_,rfl,l,z,c,as,rfl,hT.same s1,ok,z1,z10,a12,λt su H2 s2 st=>q t su H2 (s1.trans s2) st⟩
 .exact⟨_,rfl,_,rfl,l,c,as,rfl,hT.same s1,a12,λt su H2 s2 st=>q t su H2 (s1.trans s2) st⟩
end K32
namespace K32s
open PySem L2 G
theorem AHZ{s:uI}{i:Int}{v:Int}{Q:VK}(h:Sq K H p (s.map V.int))(e:atI (s.map V.int) i=uA (.int v))(q:Q (.int v) H):rIxA K (.ref p) (.int i) H Q :=
 h.elim (λz=>.inl ⟨p,_,i,_,rfl,rfl,z,e,q⟩) λz=>.inr ⟨p,_,i,_,rfl,rfl,z,e,q⟩
def meets(rows:List Row)(k:Nat)(s:uI):Bool:=hasW rows (k+1) k s
theorem Ig{rows:List Row}(o:Ok n rows){f k:Nat}(h:k<f)(kn:Knot rows k)(s:uI):hasW rows f k s=meets rows k s:=by
 unfold meets;rw[FL,MF o f k s h kn,MF o (k+1) k s (DI k) kn]
theorem Zj{rows:List Row}{k:Nat}(h:k<=1)(s:uI):meets rows k s=decide (k=1/\s=[]):=by
 unfold meets hasW;rw[uD h]
theorem Zh{rows:List Row}(o:Ok n rows){k:Nat}(h:2<=k)(kn:Knot rows k):meets rows k []=meets rows (rows.getD (k-2) (0,0,0)).2.1 []:=by
 obtain⟨t1,z1,z2,r1,r2,n1,n2⟩:=o.low (Bf kn h);rw[<- Ig o (f:=k) (vo z1 h) n1];show hasW rows (k+1) k []=_
 conv=>lhs;unfold hasW
 rw[uC (wa h)]
theorem Vn{rows:List Row}(o:Ok n rows){k:Nat}(h:2<=k)(kn:Knot rows k)(x:Int)(xs:uI):meets rows k (x::xs)=if x=((rows.getD (k-2) (0,0,0)).1:Int) then meets rows (rows.getD (k-2) (0,0,0)).2.2 xs else meets rows (rows.getD (k-2) (0,0,0)).2.1 (x::xs):=by
 obtain⟨t1,z1,z2,r1,r2,n1,n2⟩:=o.low (Bf kn h);rw[<- Ig o (f:=k) (vo z1 h) n1,<- Ig o (f:=k) (vo z2 h) n2];show hasW rows (k+1) k (x::xs)=_
 conv=>lhs;unfold hasW
 rw[uC (wa h)]
def AFm(K:Ap)(C:Addr):Sp:=λvs H Q _=>∃(p t:Addr) (n hd:Nat) (rows:List Row) (s:uI),vs=[.ref p,.ref t]/\SvAt K C H p n rows hd/\Ok n rows/\Knot rows hd/\Sq K H t (s.map V.int) /\
 ∀(H':Hp),Same H H'->Q (.bl (meets rows hd s)) H'
theorem Jw:FnScope ["sieve","some","rows","knot","met","row"] zl32 (Ah AGo):=fscp (by decide+kernel)
theorem AGg(F:Fun K "has_set" "has_set" AGo f fd)(T:Txt K mg C)
  (GK:FnOk P w K mg base CX0 1 fK oo zl3 (Qp K C)) (bK:Binds K oo zl3 []) (mK:Meth K C "knots" fK)
  (GT:FnOk P w K mg base CX0 1 fT cE zl3 (ADR K C)) (bT:Binds K cE zl3 []) (mT:Meth K C "top" fT) :
  FnOk P w K mg base CX0 2 f fd zl32 (AFm K C):=by
 refine F.ok Jw (λvs H Q E h=>?_) (λa7 A outer s H vs Q E hr h=>?_)
 .obtain⟨p,t,n,hd,rows,s,rfl,_⟩:=h
  rfl
 obtain⟨p,t,n,hd,rows,s0,rfl,hV,ok,kn,hS,q⟩:=h;have bm:Room 1 _:=hr.mono (by decide);refine⟨_,Ad (Ak (i:=2) Jw.nd (CW (pv 0) T.cl mK GK bm bK .nil pass0))
  (Ad (Ak (i:=3) Jw.nd (CW (pv 0) T.cl mT GT bm bT .nil pass0))
  (Ad (Ak (i:=4) Jw.nd Ag)
  (Ad (Ud C5 (Am Yh (pv 3) Ag)
   (Ad (Ak (i:=5) Jw.nd (Av BL (pv 2) (Az Fd (pv 3) Ag)))
   (Ai (Bl (uq (Gj (Am Ln (pv 4) (Ax Ar rfl T.len Cn (Aa (pv 1) Ac))) (Hs (Am DR (Av Ga (pv 1) (pv 4)) (Av BW (pv 5) Ag)))))
    (Ad (Ak (i:=4) Jw.nd (Az Cp (pv 4) Ag)) (Ai (Ak (i:=3) Jw.nd (Av BW (pv 5) Ag))))
    (Ai (Ak (i:=3) Jw.nd (Av BW (pv 5) Ag)))))))
  (Ai (Ao (Vh (Cr DR (pv 3) Ag) (Ww (Cr DR (pv 4) (Ax Ar rfl T.len Cn (Aa (pv 1) Ac)))))))))),?_⟩
 obtain⟨dx,jj,hp,_⟩:=id hV;refine⟨_,rfl,p,dx,_,rfl,hp,rfl,p,n,hd,rows,rfl,hV,λl ys H1 s1 hl el px=>?_⟩;refine⟨_,rfl,p,dx,_,rfl,s1 _ _ hp,rfl,p,n,hd,rows,rfl,hV.same s1,?_⟩;have hL:rLst K (rRow K) H1 rows (.ref l):=⟨l,ys,rfl,uy el,px⟩;have hT:=Sq.same hS s1;have lt:(((s0.map V.int).length:Nat):Int)=s0.length:=by rw[AB]
 refine⟨λm σ H2=>∃(k' at_:Nat) (o5:Option V),m=k'/\H2=H1/\σ=[uA (.ref p),uA (.ref t),uA (.ref l),uA (.int k'),uA (.int at_),o5]/\Knot rows k'/\at_<=s0.length/\meets rows hd s0=meets rows k' (s0.drop at_),⟨hd,hd,0,uB,rfl,rfl,rfl,kn,AY _,rfl⟩,?_⟩;rintro m σ H2 ⟨k',at_,o5,rfl,rfl,rfl,kn',al,e⟩;refine⟨_,rfl,_,_,rfl,rfl,_,rfl,?_⟩;refine ite2 (λc=>?_) (λc=>?_)
 .have m2:2<=m:=by have:=uG c;lia
  obtain⟨xs,b,hS2,ha,hb⟩:=ABt hL kn' m2;obtain⟨t1,z1,z2,r1,r2,n1,n2⟩:=ok.low (Bf kn' m2);refine⟨λσ' H'=>∃m',m'<m/\_,λσ' H' h=>h,?_⟩;refine⟨_,rfl,_,rfl,_,_,rfl,rfl,l,xs,_,_,rfl,rfl,hS2,ha,?_⟩;refine⟨_,rfl,_,rfl,t,_,rfl,hT,_,_,rfl,rfl,_,rfl,?_⟩;rw[lt];by_cases c1:at_<s0.length
  .have cz:=LD c1
   have hv:atI (s0.map V.int) (at_:Int)=uA (.int s0[at_]):=Bg (by rw[AS,AI c1];rfl);have ec:=Vn ok m2 kn' s0[at_] (s0.drop (at_+1));rw[cz,ec] at e;refine iteP (uP c1) ?_;refine⟨_,rfl,_,rfl,AHZ hT hv ⟨_,rfl,b,_,_,_,rfl,rfl,hb,at0,rfl,_,rfl,?_⟩⟩;by_cases c3:s0[at_]=((rows.getD (m-2) (0,0,0)).1:Int)
   .refine iteP (by rw[c3]) ?_
    rw[uD c3] at e;exact⟨_,rfl,_,_,rfl,rfl,_,rfl,b,_,_,_,rfl,rfl,hb,at2,_,(vo z2 m2),_,at_+1,_,rfl,rfl,rfl,n2,c1,e⟩
   .refine iteN (λz=>c3 (by injection z with z)) ?_
    rw[uC c3,<- cz] at e;exact⟨_,rfl,b,_,_,_,rfl,rfl,hb,at1,_,(vo z1 m2),_,at_,_,rfl,rfl,rfl,n1,al,e⟩
  .have cz:s0.drop at_=[]:=FV (uR c1)
   refine iteN (by lia) (iteF ?_);rw[cz,Zh ok m2 kn',<- cz] at e;exact⟨_,rfl,b,_,_,_,rfl,rfl,hb,at1,_,(vo z1 m2),_,at_,_,rfl,rfl,rfl,n1,al,e⟩
 .have m1:m<=1:=by
   have:¬ (1:Int)<m:=λz=>c (uE z);lia
  have q':=q H2 s1;rw[e,Zj m1] at q';refine⟨_,rfl,rfl,_,rfl,?_⟩;by_cases c1:m=1
  .subst c1
   refine iteP rfl ?_;refine⟨_,rfl,_,rfl,t,_,rfl,hT,rfl,?_⟩;rw[lt];have eb:decide (V.int (at_:Int)=V.int (s0.length:Int))=decide (1=1/\s0.drop at_=[]):=by
    by_cases c2:at_=s0.length
    .rw[uE (show V.int (at_:Int)=V.int (s0.length:Int) by rw[c2]),uE ⟨rfl,FV (vk c2)⟩]
    .rw[uF (λz=>c2 (by injection z with z;exact uM z)),uF (λz=>c2 (by have:=List.drop_eq_nil_iff.mp z.2;exact xH al this))]
   rw[eb];exact q'
  .refine iteN (λz=>by injection z with z;lia) ?_
   rw[uF (λz=>c1 z.1)] at q';exact q'
end K32s
namespace K32
open PySem L2 G
theorem ABd{rows:List Row}(ok:Ok n rows){k:Nat}(kn:Knot rows k)(s:uL):K32s.meets rows k (up s)=led rows k s:=by
 rw[FL];refine(MF ok (k+1) k (up s) (DI k) kn).trans ⟨λhq=>?_,λh=>⟨s,rfl,h⟩⟩;obtain⟨u,e,h⟩:=hq;rw[Ml e];exact h
structure Grw(rd:Bool)(K:Ap)(S:Addr)(H:Hp)(p:Addr)(z:Nat)(as:uJ)(ae:List Row)(hd:Nat):Prop where
 at_:K32s.SvAt K S H p as.length ae hd
 cn:Canon as.length ae hd
 ld:∀s:uL,s.Pairwise (· < ·)->(∀x∈s,x<as.length)->(led ae hd s=true↔RingS rd z as s)
 few:ae.length<=4000
theorem Grw.same{ae:List Row}(h:Grw rd K S H p z as ae hd)(e:Same H H'):Grw rd K S H' p z as ae hd:=⟨h.at_.same e,h.cn,h.ld,h.few⟩
theorem Grw.sol{ae:List Row}(h:Grw rd K S H p z as ae hd):Sol as.length (RingS rd z as) (setsOf ae hd):=QJ h.cn h.ld
theorem Lh(ok:OkTies (z:Int) as){s:uL}(lt:∀x∈s,x<as.length):RingS true z as s↔RingS false z as s/\s.length=z:=by
 have bl:(as.map srt).length=as.length:=AB ..;have r:=Ji (z:=z) (Oo (JL ok) (Fq ok) λx hx=>by rw[bl];exact lt x hx);unfold RingS;rw[Im];exact r
theorem RoundOk.all{ps:uL}(r:RoundOk z as su ps)(ok:OkTies (z:Int) as)(lt:∀x∈su,x<as.length)(z1:1<=z):ps.length=z↔RingS true z as su:=by
 rw[Lh ok lt,<- r.ring];constructor
 .intro e
  have ne:ps≠[]:=λh=>by rw[h] at e;have e:0=z:=e;lia
  exact⟨ne,by rw[<- r.len ne];exact e⟩
 .rintro⟨ne,e⟩
  rw[r.len ne];exact e
theorem AGB{cs:uJ}(h:OkTies (z:Int) as)(sb:cs.Sublist as):OkTies (z:Int) cs.reverse:=⟨λt ht=>h.ok t (sb.subset (HP.mp ht)),by
  rw[List.map_reverse];exact ML.mpr ((h.nd.sublist (sb.map srt)).imp Cb)⟩
theorem Wi{R:α->β->Prop}:∀{l:List α}{m:List β},BI R l m->BI R l.reverse m.reverse:=by
 intro l m h
 induction h with
 | nil=>exact .nil
 | cons h t ih=>rw[LZ,LZ];exact u4 ih (u5 h)
structure Rls(K:Ap)(D D2:Addr)(R r0 r1:Addr)(H:Hp):Prop where
 at_:H R=uA (.lst [.ref r0,.ref r1])
 r0:∃dx,H r0=uA (.ins D dx [])
 r1:∃dx,H r1=uA (.ins D2 dx [])
theorem Rls.same(h:Rls K D D2 R r0 r1 H)(e:Same H H'):Rls K D D2 R r0 r1 H':=⟨e _ _ h.at_,by obtain⟨dx,g⟩:=h.r0;exact⟨dx,e _ _ g⟩,by obtain⟨dx,g⟩:=h.r1;exact⟨dx,e _ _ g⟩⟩
def Qq(rd:Bool)(K:Ap)(C D S:Addr):Sp:=λvs H Q _=>∃(W r p so dr:Addr) (z:Nat) (as:uJ) (ae:List Row) (hd:Nat) (su:uL) (kM fe:Bool),vs=[.ref W,.ref r,.ref p,.ref so,.bl kM,.bl fe]/\WebAt K C H W z (as.map srt)/\H r=uA (.ins D dr [])/\Grw rd K S H p z as ae hd/\SetT K H so as.length su/\OkTies (z:Int) as/\1<=z/\z<=10/\as.length<=12/\(kM=true↔RingS rd z as su)/\∀H',Same H H'->Q (.bl true) H'
def ADL(K:Ap)(D D2:Addr):Sp:=λvs H Q _=>∃(R r0 r1 l:Addr) (z:Nat) (as:uJ),vs=[.ref R,.int (z:Int),.ref l]/\Rls K D D2 R r0 r1 H/\In K l z as H/\∀H',Same H H'->Q (.bl true) H'
theorem AFc:FnScope zl21 zl21 (Ah Xj):=fscp (by decide+kernel)
theorem Ug(F:Fun K "_law_right" "_law_right" Xj f fd)(cD:Cls K D)
  (GF:FnOk P w K mg base CX0 5 fF rQ zl19 (Ly rd K C)) (bF:Binds K rQ zl19 []) (mF:Meth K D "fits" fF)
  (GH:Cal P w K mg base 2 fH fdH "has_set" zl32 (K32s.AFm K S)) :
  FnOk P w K mg base CX0 6 f fd zl21 (Qq rd K C D S):=by
 refine F.ok AFc (λvs H Q E h=>?_) (λa7 A outer s H vs Q E hr h=>?_)
 .obtain⟨W,r,p,so,dr,z,as,ae,hd,su,kM,fe,rfl,_⟩:=h
  rfl
 obtain⟨W,r,p,so,dr,z,as,ae,hd,su,kM,fe,rfl,hW,hR,G,st,ok,z1,z10,a12,tM,q⟩:=h;have hr5:Room 5 _:=hr.mono (by decide);have c6:Room 2 _:=hr.mono (by decide);refine⟨_,Hu (Bl (uq (Gj (Ei (pv 5)) (Hs (Am JZ (CN (pv 1) cD mF GF hr5 bF .nil pass0 (Aa (pv 0) (Aa (pv 3) Ac))) (pv 4))))) (Ai (Ao Fo)) BJ)
  (Ai (Ao (Cr DR (BP GH c6 rfl (Aa (pv 2) (Aa (pv 3) Ac))) (pv 4)))),?_⟩
 have bl:(as.map srt).length=as.length:=AB ..;refine⟨λσ H1=>σ=[uA (.ref W),uA (.ref r),uA (.ref p),uA (.ref so),uA (.bl kM),uA (.bl fe)]/\Same H H1,?_,?_⟩
 .refine⟨_,rfl,_,rfl,?_⟩
  refine ite2 (λ_=>?_) (λ_=>iteF ⟨rfl,u3 _⟩);refine⟨_,rfl,r,dr,_,rfl,hR,rfl,_,rfl,_,rfl,.ref r,W,so,z,as.map srt,su,rfl,hW,.inr st.at_,st.pw,by rw[bl];exact st.lt,z1,z10,by rw[bl];exact a12,JL ok,Fq ok,λv H1 s1 hv=>?_⟩;have ev:v=kM:=by
   rw[FL];exact hv.trans tM.symm
  subst ev;exact⟨_,rfl,rfl,_,rfl,iteNP rfl ⟨rfl,s1⟩⟩
 rintro σ H1 ⟨rfl,s1⟩;refine⟨_,rfl,_,rfl,p,so,_,hd,ae,up su,rfl,(G.same s1).at_,G.cn.least.ok,G.cn.knot,.inr (st.same s1).at_,λH2 s2=>⟨_,rfl,rfl,?_⟩⟩;have ev:K32s.meets ae hd (up su)=kM:=by
  rw[ABd G.cn.least.ok G.cn.knot,FL,tM];exact G.ld su st.pw st.lt
 rw[ev];have:=q H2 (s1.trans s2);rw[uE rfl];exact this
noncomputable abbrev elN:uU:=["_law_rules","_law_many","_law_rows_here","_law_others","_law_other","_law_some"]
theorem Lf:FnScope elN ["_law_rules","_law_many","_law_rows_here"] (Ah Xv):=fscp (by decide+kernel)
theorem AFQ(F:Fun K "_law_elsewhere" "_law_elsewhere" Xv f fd)(T:Txt K mg C)(M:Mk K C fI)(cD:Cls K D)(cD2:Cls K D2)
  (GI:FnOk P w K mg base CX0 3 fI ku zl2 (Jo K C)) (bI:Binds K ku zl2 [])
  (GG:FnOk P w K mg base CX0 18 fG p6 zl28 (Hh false K C D S)) (GG2:Cal P w K mg base 18 fG p6 "grown" zl28 (Hh true K C D2 S))
  (GE:Cal P w K mg base 2 fE fdE "sets_of" ["sieve"] (K32s.WQ K S))
  (GF:FnOk P w K mg base CX0 5 fF rQ zl19 (Ly false K C)) (bF:Binds K rQ zl19 []) (mF:Meth K D "fits" fF)
  (GO:FnOk P w K mg base CX0 5 fO ny zl19 (Ly true K C)) (bO:Binds K ny zl19 []) (mO:Meth K D2 "fits" fO)
  (GY:Cal P w K mg base 1 fY fdY "_law_round" zl33 (Qj K)) :
  FnOk P w K mg base CX0 19 f fd zl36 (ADL K D D2):=by
 refine F.ok Lf (λvs H Q E h=>?_) (λa7 A outer s H vs Q E hr h=>?_)
 .obtain⟨R,r0,r1,l,z,as,rfl,_⟩:=h
  rfl
 obtain⟨R,r0,r1,l,z,as,rfl,hR,B,q⟩:=h;have bm:Room 1 _:=hr.mono (by decide);have c6:Room 2 _:=hr.mono (by decide);have kT:Room (3+1) _:=hr.mono (by decide);have hr5:Room 5 _:=hr.mono (by decide);have ii:Room 18 _:=hr.mono (by decide);refine⟨_,Ad (JM (i:=3) (Ah Xv) ["_law_k","_law_row"] [] [] Lf.nd rfl (K8 rfl) rfl rfl (by decide+kernel) trivial (HY rfl T.enum (Aa (pv 2) Ac))
    (λ_ _ _=>Hj (K:=K) (n:=2) rfl rfl (Bd (BK (i:=0)) (Bd (BK (i:=1)) Dp)))
    (λ_ _ _=>CK (Am JZ (Az Ca (pv 0) Ag) Ag))
    (λ_ _ _=>pv 1))
  (Ad (Cw (AGC C2 PySem.F.slot_list_reverse PySem.F.type_list_reverse Wn (pv 3)))
  (Ad (Ak (i:=4) Lf.nd (Kr M GI kT rfl T.mgC bI .nil pass0 (Aa (pv 1) (Aa (pv 3) Ac))))
  (Ad (DW C5 rfl (Bt (BP GE c6 rfl (Aa (JX GG ii rfl GG2.m GG2.k GG2.b .nil pass0 (Aa (pv 4) (Aa (Av BL (pv 0) Ag) Ac))) Ac))) (BX (i:=5) Lf.nd)
   (Ai (Bl (uq (Gg (Am (Kz CT (Br hr)) (BP GY bm rfl (Aa (pv 3) (Aa (pv 5) Ac))) (Bm Ac) rfl) (FT (Io (Ei (CN (Av BL (pv 0) Ag) cD mF GF hr5 bF .nil pass0 (Aa (pv 4) (Aa (Bb Dl rfl T.list E6 (Aa (pv 5) Ac)) Ac)))))))) (Ai (Ao Fo)) BJ)))
  (Ad (DW C5 rfl (Bt (BP GE c6 rfl (Aa (BP GG2 ii rfl (Aa (pv 4) (Aa (Av BL (pv 0) Ag) Ac))) Ac))) (BX (i:=5) Lf.nd)
   (Ai (Bl (uq (Gg (Am JZ (Ax Ar rfl T.len Cn (Aa (BP GY bm rfl (Aa (pv 3) (Aa (pv 5) Ac))) Ac)) (pv 1)) (FT (Io (Ei (CN (Av BL (pv 0) Ag) cD2 mO GO hr5 bO .nil pass0 (Aa (pv 4) (Aa (pv 5) Ac)))))))) (Ai (Ao Fo)) BJ)))
  (Ai (Ao Fo)))))),?_⟩
 obtain⟨xs,hl,pl⟩:=B.tl;have lx:=AV pl;have a12:=B.a12;have z10:=B.z10;have z1:=B.z1;refine⟨_,rfl,l,rfl,⟨_,hl⟩,λZ hZ=>?_⟩;refine Gf (xs:=xs) (λj τ H2=>∃(n t:Option V) (cs:uJ) (ys:List V),τ=[n,t]/\Same H H2/\H2 Z=uA (.lst ys)/\BI (rPair K H2) cs ys/\cs.Sublist (as.take j)) ⟨uB,uB,[],[],rfl,u8 hZ _,Ab,.nil,List.nil_sublist _⟩ (by rintro j τ H2 _ ⟨_,_,_,_,_,sm,_⟩;exact sm.seq hl) ?_ ?_
 .rintro j v τ H2 T1 hv eJ ⟨n,t,cs,ys,rfl,s2,eZ,pc,sb⟩
  obtain⟨tie,ht,rt⟩:=Paired.get pl hv;have sT:Same H2 (upd H2 T1 (.tup [.int j,v])):=u8 eJ _;have eT:(upd H2 T1 (.tup [.int j,v])) T1=uA (.tup [.int j,v]):=Ab;generalize upd H2 T1 (.tup [.int j,v])=H3 at sT eT;have s3:=s2.trans sT;have sw:=u7 (λ_ _ r=>Aq Aw _ _ _ _ sT.ts r) pc;have qc:=sT _ _ eZ;have tk:=K32s.take_snoc ht;have cl:ys.length<=12:=by
   rw[<- AV pc];exact BY sb.length_le (by rw[B0];exact wA a12)
  refine⟨T1,_,rfl,uz eT,rfl,_,_,rfl,_,_,rfl,rfl,?_⟩;refine⟨_,rfl,_,_,rfl,rfl,(by show(0:Int)<3;decide),rfl,_,rfl,ite2 (λ_=>?_) (λ_=>?_)⟩
  .refine⟨_,rfl,_,qc,Ay (ww cl),?_⟩
   have tl:=u6 (o:=.lst (ys++[v])) qc;refine⟨_,_,cs++[tie],ys++[v],rfl,λb o e=>?_,Ab,u4 (u7 (λ_ _ r=>Aq Aw _ _ _ _ tl r) sw) (u5 (Aq Aw _ _ _ _ (s3.ts.trans tl) rt)),?_⟩
   .rw[Af (Ae e hZ)]
    exact s3 b o e
   .rw[tk]
    exact sb.append (ZY _)
  .refine⟨_,_,cs,ys,rfl,s3,qc,sw,?_⟩
   rw[tk];exact sb.trans (List.sublist_append_left ..)
 rintro τ H2 ⟨n,t,cs,ys,rfl,s2,eZ,pc,sb⟩;rw[<- lx,CM] at sb;have lc:=AV pc;refine⟨_,rfl,.inl ⟨rfl,_,uy eZ⟩,Z,ys,rfl,rfl,eZ,?_⟩;have tl:=u6 (o:=.lst ys.reverse) eZ;have pr:=Wi (u7 (λ_ _ r=>Aq Aw _ _ _ _ tl r) pc);have s3:Same H (upd H2 Z (.lst ys.reverse)):=λb o e=>by
  rw[Af (Ae e hZ)];exact s2 b o e
 have qc:(upd H2 Z (.lst ys.reverse)) Z=uA (.lst ys.reverse):=Ab;generalize upd H2 Z (.lst ys.reverse)=H3 at s3 qc pr tl;have qN:=AGB B.ok sb;have kg:cs.reverse.length<=12:=by
  rw[Sc];exact BY sb.length_le a12
 generalize cs.reverse=ds at qN kg pr;have tlZ:TlAt K H3 Z ds:=⟨_,uy qc,pr⟩;refine⟨_,rfl,_,rfl,λW dW nW ndW nWd=>?_⟩;have sW:Same H3 (upd (upd H3 dW (.own W)) W (.ins C dW [])):=λb o e=>by
  rw[Af (Ae e nW),Af (Ae e ndW)];exact e
 refine⟨W,dW,Z,(z:Int),_,ds,rfl,Ab,sW.seq (uy qc),u7 (λt x h=>.inr (Aq Aw _ _ _ _ sW.ts h)) pr,qN,kg,vN z1,vO z10,λH4 k4 hW=>⟨rfl,?_⟩⟩;have iE:Same H3 H4:=λb o e=>k4 b o (sW b o e) (Ae e nW);have s4:=s3.trans iE;have i7:=hR.same s4;have tl4:=tlZ.same iE;have bl:(ds.map srt).length=ds.length:=AB ..;obtain⟨d0,h0⟩:=id i7.r0;have oks:=JL qN;have aps:=Fq qN;have x0:atI [V.ref r0,V.ref r1] 0=uA (V.ref r0):=rfl;have x1:atI [V.ref r0,V.ref r1] 1=uA (V.ref r1):=rfl;refine⟨_,rfl,_,rfl,R,_,_,_,rfl,rfl,uy i7.at_,x0,W,r0,d0,z,ds.map srt,rfl,hW,h0,z1,z10,by rw[bl];exact kg,oks,aps,λp ae hd H5 s5 hV cn ld r4=>?_⟩;rw[bl] at hV cn ld;refine⟨p,_,hd,ae,rfl,hV,cn.least.ok,cn.knot,kg,r4,λL us H6 s6 nL eL pL=>?_⟩;have sol:=QJ cn ld;have pL:=HX pL;have s46:=s5.trans s6;refine⟨L,rfl,⟨_,uy eL⟩,?_⟩;refine Eh (K:=K) (a:=L) (xs:=us) (λi σ H7=>∃o5:Option V,σ=[uA (.ref R),uA (.int (z:Int)),uA (.ref l),uA (.ref Z),uA (.ref W),o5]/\Same H6 H7) ⟨uB,rfl,u3 _⟩ (by rintro i σ H7 _ ⟨_,_,sm⟩;exact uy (sm _ _ eL)) ?_ ?_
 .rintro i v σ H7 hv ⟨o5,rfl,s7⟩
  obtain⟨su,t,es,rfl,ht⟩:=JW pL hv;obtain⟨pw,lt,ring⟩:=(sol.mem su).mp (AX es);have lP:=s46.trans s7;have st:SetT K H7 t ds.length su:=⟨s7.ts.seq ht,pw,lt⟩;refine⟨_,rfl,_,rfl,Z,t,z,ds,su,rfl,tl4.same lP,qN,kg,st.at_,pw,lt,λY ps H8 s8 nY eY ro=>?_⟩;refine⟨AY _,λO1 gL=>?_⟩;have s9:=s8.trans (u8 gL (.lst []));have eO:(upd H8 O1 (.lst [])) O1=uA (.lst []):=Ab;have eY9:=u8 gL (.lst []) _ _ eY;generalize upd H8 O1 (.lst [])=H9 at s9 eO eY9;refine⟨up ps,[],⟨Y,_,rfl,uy eY9,by rw[<- Es];exact paired_ints _⟩,⟨O1,_,rfl,uy eO,.nil⟩,_,rfl,iteN (λe=>ro.ring.mpr ring (DM.mp e)) ?_⟩;have s49:=lP.trans s9;obtain⟨d9,h9⟩:=(i7.same s49).r0;refine⟨_,rfl,R,_,_,_,rfl,rfl,uy (i7.same s49).at_,x0,r0,d9,_,rfl,h9,rfl,_,rfl,_,rfl,t,_,rfl,.inr (st.same s9).at_,λY2 hY2=>?_⟩;have qQ:=s49.trans (u8 hY2 (.lst ((up su).map V.int)));have ud:=s7.trans (s9.trans (u8 hY2 (.lst ((up su).map V.int))));have t8:(upd H9 Y2 (.lst ((up su).map V.int))) Y2=uA (.lst ((up su).map V.int)):=Ab;generalize upd H9 Y2 (.lst ((up su).map V.int))=H10 at qQ t8 ud;refine⟨.ref r0,W,Y2,z,ds.map srt,su,rfl,hW.same qQ,.inl (uy t8),pw,by rw[bl];exact lt,z1,z10,by rw[bl];exact kg,oks,aps,λv H11 mN hv=>?_⟩;cases hv.mpr ring;exact⟨true,rfl,iteF ⟨_,rfl,ud.trans mN⟩⟩
 rintro σ H7 ⟨o5,rfl,s7⟩;have lP:=s46.trans s7;have hR7:=i7.same lP;have tl7:=tl4.same lP;have hW7:=hW.same lP;have q:=λH' (s':Same H7 H')=>q H' (s4.trans (lP.trans s'));clear i7 tl4 hW pL sol s46 s7 lP;obtain⟨d1,h1⟩:=id hR7.r1;refine⟨_,rfl,_,rfl,R,_,_,_,rfl,rfl,uy hR7.at_,x1,W,r1,d1,z,ds.map srt,rfl,hW7,h1,z1,z10,by rw[bl];exact kg,oks,aps,λp ae hd H8 s8 hV cn ld r4=>?_⟩;rw[bl] at hV cn ld;refine⟨p,_,hd,ae,rfl,hV,cn.least.ok,cn.knot,kg,r4,λL us H9 s9 nL eL pL=>?_⟩;have sol:=QJ cn ld;have pL:=HX pL;have s79:=s8.trans s9;refine⟨L,rfl,⟨_,uy eL⟩,?_⟩;refine Eh (K:=K) (a:=L) (xs:=us) (λi σ HA=>∃o5:Option V,σ=[uA (.ref R),uA (.int (z:Int)),uA (.ref l),uA (.ref Z),uA (.ref W),o5]/\Same H9 HA) ⟨_,rfl,u3 _⟩ (by rintro i σ HA _ ⟨_,_,sm⟩;exact uy (sm _ _ eL)) ?_ ?_
 .rintro i v σ HA hv ⟨o5,rfl,sA⟩
  obtain⟨su,t,es,rfl,ht⟩:=JW pL hv;obtain⟨pw,lt,ring⟩:=(sol.mem su).mp (AX es);have s7A:=s79.trans sA;have st:SetT K HA t ds.length su:=⟨sA.ts.seq ht,pw,lt⟩;refine⟨_,rfl,_,rfl,Z,t,z,ds,su,rfl,tl7.same s7A,qN,kg,st.at_,pw,lt,λY ps HB sB nY eY ro=>?_⟩;refine⟨Y,_,rfl,.inl (uy eY),_,rfl,rfl,_,rfl,?_⟩;rw[Cy,(ro.all qN lt z1).mpr ring];have s7B:=s7A.trans sB;obtain⟨d9,h9⟩:=(hR7.same s7B).r1;refine iteNP rfl ⟨_,rfl,R,_,_,_,rfl,rfl,uy (hR7.same s7B).at_,x1,r1,d9,_,rfl,h9,rfl,_,rfl,_,rfl,.ref r1,W,t,z,ds.map srt,su,rfl,hW7.same s7B,.inr (st.same sB).at_,pw,by rw[bl];exact lt,z1,z10,by rw[bl];exact kg,oks,aps,λv HC sC hv=>?_⟩;cases hv.mpr ring;exact⟨true,rfl,iteF ⟨_,rfl,sA.trans (sB.trans sC)⟩⟩
 rintro σ HA ⟨o5,rfl,sA⟩;exact q HA (s79.trans sA)
noncomputable abbrev lawN:uU:=["_law_script","_law_many","_law_rows_here","_law_web_here","_law_rules","_law_sieves","_law_told","_law_some","_law_k","_law_cell","_law_points","_law_due"]
theorem ABV(ns:uI)(lo hi:Option Int):∃cs:uI,cutV (ns.map V.int) lo hi=cs.map V.int:=by
 unfold cutV;exact⟨(ns.drop (HT.sIx (ns.map V.int).length 0 lo)).take (HT.sIx (ns.map V.int).length (ns.map V.int).length hi-HT.sIx (ns.map V.int).length 0 lo),by rw[R7,R8]⟩
theorem AGf{c:Prop}{i:Decidable c}{b:Bool}(h:b=true↔c):decide c=b:=by
 rw[FL,decide_eq_true_iff];exact h.symm
theorem AFY[DecidableEq α]{l m:List α}(hl:l.Nodup)(hm:m.Nodup)(h:∀x,x∈l↔x∈m):l.Perm m:=by
 rw[Sj];intro a;rw[hl.count,hm.count];by_cases c:a∈l
 .rw[uD c,uD ((h a).mp c)]
 .rw[uC c,uC λz=>c ((h a).mpr z)]
theorem Sol.nd{A:uL->Prop}(h:Sol n A ss):ss.Nodup:=h.ord.imp λ{a b} l e=>by rw[e] at l;exact EX _ l
theorem Sol.uniq{A:uL->Prop}{uu:List uL}(h:Sol n A ss)(g:Sol n A uu):ss=uu:=by
 have p:=AFY h.nd g.nd λs=>(h.mem s).trans (g.mem s).symm;exact p.eq_of_pairwise (λa b _ _ h1 h2=>uH h1 (Nat.lt_asymm h2)) h.ord g.ord
theorem Grw.few_sets{ae:List Row}(h:Grw rd K S H p z as ae hd)(a12:as.length<=12):(setsOf ae hd).length<=4096 :=
 BY (K32s.Qt (HN _ _ rfl h.cn.least.ok _ h.cn.knot)) (IL (n:=2) (by decide) a12)
theorem AEQ(ok:OkTies (z:Int) as)(h:Sol as.length (RingS false z as) ss):Sol as.length (RingS true z as) (ss.filter λs=>decide ((s.length:Int)=(z:Int))):=by
 refine⟨λs=>?_,h.ord.filter _⟩;rw[BQ,decide_eq_true_iff,h.mem];constructor
 .rintro⟨⟨pw,lt,r⟩,e⟩
  exact⟨pw,lt,(Lh ok lt).mpr ⟨r,uM e⟩⟩
 .rintro⟨pw,lt,r⟩
  obtain⟨h1,h2⟩:=(Lh ok lt).mp r;exact⟨⟨pw,lt,h1⟩,by lia⟩
structure Bs(K:Ap)(C D D2 S a l W R V0 r0 r1 p0 p1 L:Addr)(ns:uI)(z:Nat)(as:uJ)(n0 n1:List Row)(h0 h1:Nat)(H:Hp):Prop where
 sc:SqL K H a (ns.map V.int)
 rows:In K l z as H
 web:WebAt K C H W z (as.map srt)
 rls:Rls K D D2 R r0 r1 H
 svs:H V0=uA (.lst [.ref p0,.ref p1])
 g0:Grw false K S H p0 z as n0 h0
 g1:Grw true K S H p1 z as n1 h1
 told:Told K H L (setsOf n0 h0)
theorem Bs.same{W p0 p1 L:Addr}{n0 n1:List Row}{h1:Nat}(b:Bs K C D D2 S a l W R V0 r0 r1 p0 p1 L ns z as n0 n1 h0 h1 H)(e:Same H H'):Bs K C D D2 S a l W R V0 r0 r1 p0 p1 L ns z as n0 n1 h0 h1 H' :=
 ⟨e.seq b.sc,b.rows.same e,b.web.same e,b.rls.same e,e _ _ b.svs,b.g0.same e,b.g1.same e,b.told.same e⟩
theorem AFh(e:TSm H H'){ds:uJ}(h:BI (rPair K H) ds ys):BI (rPair K H') ds ys:=u7 (λa b r=>Aq Aw _ _ _ _ e r) h
theorem AHq(z:Int)(j:Addr)(h:Int){m:Str}(h1:¬ m = "head")(h2:¬ m = "rows")(h3:¬ m = "amount"):(K32s.flds z j h).lookup m=uB:=K32s.ZM z j h h1 h2 h3
noncomputable abbrev lawS(a l W R V0 L:Addr)(z:Nat)(o7 o8 o9 dq uf:Option V):St:=[uA (.ref a),uA (.int (z:Int)),uA (.ref l),uA (.ref W),uA (.ref R),uA (.ref V0),uA (.ref L),o7,o8,o9,dq,uf]
theorem Grw.put{ae:List Row}{nX:List V}(g:Grw rd K S H p z as ae hd)(e:H V0=uA (.lst ys)):Grw rd K S (upd H V0 (.lst nX)) p z as ae hd:=by
 obtain⟨dx,j,h1,h2⟩:=g.at_;refine⟨⟨dx,j,?_,Aq K32s.Cu _ _ _ _ (u6 e) h2⟩,g.cn,g.ld,g.few⟩;rw[Af (λh=>by rw[h,e] at h1;cases h1)];exact h1
def Svs(K:Ap)(S:Addr)(z:Nat)(as:uJ)(H:Hp)(ys:List V):Nat->Prop
 | 0=>ys=[]
 | 1=>∃p n h,ys=[.ref p]/\Grw false K S H p z as n h
 | _=>∃p n h p' n' h',ys=[.ref p,.ref p']/\Grw false K S H p z as n h/\Grw true K S H p' z as n' h'
def dOf(D D2:Addr):Bool->Addr
 | false=>D
 | true=>D2
theorem AHF:CallR X (.builtin "isinstance") (λxs H Q=>∃p ys,xs=[.ref p,.ty "tuple"]/\SqL X.K H p ys/\Q (.bl false) H):=by
 intro aa s σ H xs us Q I r h;obtain⟨p,ys,rfl,hq,q⟩:=h;obtain⟨u,v,rfl,ru,rv⟩:=r.two;cases ru;cases rv;obtain⟨ag,_,⟨o,n,ho,hc,_⟩,_⟩:=I.list hq;exact IsiPair.list_tuple ho hc ⟨.bl false,H,I.tok _,rfl,q⟩
theorem AHi{ι:Type}{k:Nat}{sp:ι->Sp}(h:∀i,FnOk P w K mg base CX k f fd ps (sp i)):FnOk P w K mg base CX k f fd ps (λvs H Q E=>∃i,sp i vs H Q E) :=
 ⟨by rintro vs H Q E ⟨i,s⟩;exact(h i).1 vs H Q E s,by rintro A outer s H args us vs Q E r e b v ⟨i,q⟩;exact(h i).2 A outer s H args us vs Q E r e b v q⟩
theorem Fv:FnScope lawN ["_law_script"] (Ah Rg):=fscp (by decide+kernel)
theorem AGR{U fV fM:Addr}{fdV fdM:Bn}(F:Fun K "law" "law" Rg f fd)(T:Txt K mg C)(TS:K32s.Txt K mg S)(M:Mk K C fI)(cD:Cls K D)(oD:Own K D)(is:KW K (.ref D) (.ref U)=uA true)(cD2:Cls K D2)(oD2:Own K D2)(is2:KW K (.ref D2) (.ref U)=uA true)(mgU:mg "Rule" = uA (.ref U))
  (mkD:Ix K D=true) (hiD:CS K (.ref D) "__init__" = uA (uA (.builtin "object.__init__"))) (kpD:DL K (.ref D)=true) (mgD:mg "Rings" = uA (.ref D))
  (mkO:Ix K D2=true) (hiO:CS K (.ref D2) "__init__" = uA (uA (.builtin "object.__init__"))) (kpO:DL K (.ref D2)=true) (mgO:mg "Rounds" = uA (.ref D2))
  (GC:Cal P w K mg base 1 fC pM "_law_at" zl14 (ABR K))
  (GV:Cal P w K mg base 3 fV fdV "_law_web" zl29 (ABq K))
  (GI:FnOk P w K mg base CX0 3 fI ku zl2 (Jo K C)) (bI:Binds K ku zl2 [])
  (GG:FnOk P w K mg base CX0 18 fG p6 zl28 (Hh false K C D S)) (GG2:Cal P w K mg base 18 fG p6 "grown" zl28 (Hh true K C D2 S))
  (GE:Cal P w K mg base 2 fE fdE "sets_of" ["sieve"] (K32s.WQ K S))
  (GY:Cal P w K mg base 1 fY fdY "_law_round" zl33 (Qj K))
  (GL:Cal P w K mg base 19 fL qM "_law_elsewhere" zl36 (ADL K D D2))
  (GT:Cal P w K mg base 2 fT cE "_law_set" zl35 (ACO K))
  (GR:FnOk P w K mg base CX0 6 fR qW zl21 (Qq false K C D S)) (GR2:Cal P w K mg base 6 fR qW "_law_right" zl21 (Qq true K C D2 S))
  (GM:FnOk P w K mg base CX0 1 fM fdM zl3 (K32s.ADb K S)) (bM:Binds K fdM zl3 []) (mM:Meth K S "many" fM) :
  FnOk P w K mg base CX0 20 f fd ["_law_script"] (Uj K):=by
 refine F.ok Fv (λvs H Q E h=>?_) (λa7 A outer s H vs Q E hr h=>?_)
 .obtain⟨a,ns,rfl,_⟩:=h
  rfl
 obtain⟨a,ns,rfl,hS,n63,q⟩:=h;have bm:Room 1 _:=hr.mono (by decide);have c6:Room 2 _:=hr.mono (by decide);have mr:Room 3 _:=hr.mono (by decide);have kT:Room (3+1) _:=hr.mono (by decide);have hr6:Room 6 _:=hr.mono (by decide);have ii:Room 18 _:=hr.mono (by decide);have hr19:Room 19 _:=hr.mono (by decide);have GX:=AHi (sp:=λi=>Hh i K C (dOf D D2 i) S) (λi=>by cases i;exact GG;exact GG2.G);obtain⟨t4,h4,q4⟩:∃t,PSs (cxOf CX0 P w K mg base lawN "law" (Ah Rg) f a7 A outer s H E).nox ((Dd Rg).drop 9) t/\∀(σ:St) (H0:Hp),(∃(a l W R V0 r0 r1 p0 p1 L:Addr) (ns:uI) (z:Nat) (as:uJ) (n0 n1:List Row) (h0 h1:Nat) (o7:Option V),σ=lawS a l W R V0 L z o7 uB uB uB uB/\Bs K C D D2 S a l W R V0 r0 r1 p0 p1 L ns z as n0 n1 h0 h1 H0)->t {nx:=λ_ H'=>Q .non H',rt:=Q} σ H0:=by
  refine⟨_,Ad (DW C5 rfl (HY rfl T.enum (Aa (ACr AEO (pv 0) (Xy Ag) (Xy Ag)) Ac)) (Ju rfl (Bd (BX (i:=8) Fv.nd) (Bd (BX (i:=9) Fv.nd) Dp)))
    (Ad (Ak (i:=7) Fv.nd (BP GT c6 rfl (Aa (pv 1) (Aa (pv 2) (Aa (pv 6) (Aa (pv 9) (Aa (pv 8) Ac)))))))
    (Ad (Ak (i:=10) Fv.nd (BP GY bm rfl (Aa (pv 2) (Aa (pv 7) Ac))))
    (Ad (Ak (i:=11) Fv.nd (Cr (Ie CT (Br hr)) (pv 10) (Bm Ac) rfl))
    (Ad (Bl (uq (Gg (Io (Ei (JX GR hr6 rfl GR2.m GR2.k GR2.b .nil pass0 (Aa (pv 3) (Aa (Av BL (pv 4) Ag) (Aa (Av BL (pv 5) Ag) (Aa (pv 7) (Aa (pv 11) (Aa (Cr Ln (Az Ca (pv 8) Ag) Ag) Ac))))))))) (FT (Am JZ (Cr (ABj (FN CT) (Br hr)) (pv 7) (pv 6) rfl) (pv 11))))) (Ai (Ao Fo)) BJ)
    (Ai (Bl (Io (Ei (BP GR2 hr6 rfl (Aa (pv 3) (Aa (Av BL (pv 4) Ag) (Aa (Av BL (pv 5) Ag) (Aa (pv 7) (Aa (Cr DR (Ax Ar rfl T.len Cn (Aa (pv 10) Ac)) (pv 1)) (Aa (Cr DR (Az Ca (pv 8) Ag) Ag) Ac))))))))) (Ai (Ao Fo)) BJ)))))))
   (Ai (Ao (Cr (Kz (FN CT) (Br hr)) (BP GE c6 rfl (Aa (JX GG ii rfl GG2.m GG2.k GG2.b .nil pass0 (Aa (pv 3) (Aa (Av BL (pv 4) Ag) Ac))) Ac)) (pv 6)))),?_⟩
  rintro σ H0 ⟨a,l,W,R,V0,r0,r1,p0,p1,L,ns,z,as,n0,n1,h0,h1,o7,rfl,B⟩;have z1:=B.rows.z1;have z10:=B.rows.z10;have a12:=B.rows.a12;have ok:=B.rows.ok;obtain⟨cs,ec⟩:=ABV ns (uA 1) (uA 63);refine⟨_,rfl,_,rfl,_,rfl,a,_,rfl,B.sc,λSl hSl=>?_⟩;rw[ec];have s1:=u8 hSl (.lst (cs.map V.int));have eSl:(upd H0 Sl (.lst (cs.map V.int))) Sl=uA (.lst (cs.map V.int)):=Ab;generalize upd H0 Sl (.lst (cs.map V.int))=H1 at s1 eSl;have B1:=B.same s1;clear B s1;have sol:=B1.g0.sol;have few:=B1.g0.few_sets a12;have x0:atI [V.ref r0,V.ref r1] 0=uA (V.ref r0):=rfl;have x1:atI [V.ref r0,V.ref r1] 1=uA (V.ref r1):=rfl;have y0:atI [V.ref p0,V.ref p1] 0=uA (V.ref p0):=rfl;have y1:atI [V.ref p0,V.ref p1] 1=uA (V.ref p1):=rfl;refine⟨Sl,rfl,⟨_,uy eSl⟩,?_⟩;refine Ld (xs:=cs.map V.int) (λi σ HA=>∃(o7 o8 o9 dq uf:Option V),σ=lawS a l W R V0 L z o7 o8 o9 dq uf/\Same H1 HA) ⟨_,_,_,_,_,rfl,u3 _⟩ (by rintro i σ HA _ ⟨_,_,_,_,_,_,sm⟩;exact uy (sm _ _ eSl)) ?_ ?_
  .rintro i v σ HA T1 hv eJ ⟨o7,o8,o9,dq,uf,rfl,sA⟩
   obtain⟨c,_,rfl⟩:=int_at hv;have sT:Same HA (upd HA T1 (.tup [.int i,.int c])):=u8 eJ _;have eT:(upd HA T1 (.tup [.int i,.int c])) T1=uA (.tup [.int i,.int c]):=Ab;generalize upd HA T1 (.tup [.int i,.int c])=HB at sT eT;have sB:=sA.trans sT;have BB:=B1.same sB;refine⟨T1,_,rfl,uz eT,rfl,_,_,rfl,_,_,rfl,rfl,?_⟩;refine⟨_,rfl,_,rfl,_,rfl,_,rfl,_,rfl,l,L,z,c,i,as,_,rfl,BB.rows.tl,ok,z1,z10,a12,BB.told,by lia,λs hs=>?_,λt su HC sC st=>?_⟩
   .obtain⟨h1,h2,h3⟩:=(sol.mem s).mp hs
    exact⟨λe=>by rw[e] at h3;exact h3,h1,h2⟩
   have BC:=BB.same sC;refine⟨_,rfl,_,rfl,l,t,z,as,su,rfl,BC.rows.tl,ok,a12,st.at_,st.pw,st.lt,λY ps HD sD nY eY ro=>?_⟩;refine⟨_,rfl,AY _,λO1 gL=>?_⟩;have sE:=sD.trans (u8 gL (.lst []));have eO:(upd HD O1 (.lst [])) O1=uA (.lst []):=Ab;have eYE:=u8 gL (.lst []) _ _ eY;generalize upd HD O1 (.lst [])=HE at sE eO eYE;have BE:=BC.same sE;have st:=st.same sE;have s1E:=sB.trans (sC.trans sE);refine⟨up ps,[],⟨Y,_,rfl,uy eYE,by rw[<- Es];exact paired_ints _⟩,⟨O1,_,rfl,uy eO,.nil⟩,?_⟩;have d1:(!decide (up ps=[]))=true↔RingS false z as su:=by
    rw[<- ro.ring,Bool.not_eq_true',decide_eq_false_iff_not];exact not_congr DM
   generalize (!decide (up ps=[]))=kM at d1;obtain⟨dr,dv⟩:=BE.rls.r0;refine⟨_,rfl,_,rfl,R,_,_,_,rfl,rfl,uy BE.rls.at_,x0,_,rfl,V0,_,_,_,rfl,rfl,uy BE.svs,y0,_,rfl,_,rfl,_,rfl,_,_,rfl,rfl,(by show(0:Int)<5;decide),_,_,rfl,rfl,?_⟩;refine⟨W,r0,p0,t,dr,z,as,n0,h0,su,kM,_,rfl,BE.web,dv,BE.g0,st,ok,z1,z10,a12,d1,λHF sF=>⟨true,rfl,iteF ?_⟩⟩;have BF:=BE.same sF;have st:=st.same sF;obtain⟨us,hL,pL⟩:=BF.told;refine⟨_,rfl,_,rfl,up su,_,⟨t,_,rfl,st.at_,paired_ints _⟩,.inl ⟨L,us,rfl,hL,pL⟩,_,rfl,rfl,_,rfl,iteNP ?_ ?_⟩
   .rw[uC (show ¬ (false=true) by decide)]
    congr 1
    refine AGf (d1.trans ⟨λh=>A1.mpr ⟨su,(sol.mem su).mpr ⟨st.pw,st.lt,h⟩,rfl⟩,λh=>?_⟩);obtain⟨u,hu,eu⟩:=A1.mp h;rw[Ml eu] at hu;exact((sol.mem su).mp hu).2.2
   obtain⟨dr1,bm⟩:=BF.rls.r1;refine⟨_,rfl,_,rfl,R,_,_,_,rfl,rfl,uy BF.rls.at_,x1,_,rfl,V0,_,_,_,rfl,rfl,uy BF.svs,y1,_,rfl,_,rfl,Y,_,rfl,.inl (uy (sF _ _ eYE)),_,rfl,rfl,_,rfl,_,_,rfl,rfl,(by show(0:Int)<5;decide),rfl,?_⟩;refine⟨W,r1,p1,t,dr1,z,as,n1,h1,su,_,_,rfl,BF.web,bm,BF.g1,st,ok,z1,z10,a12,?_,λHG sG=>⟨true,rfl,iteF ?_⟩⟩
   .rw[decide_eq_true_iff,<- ro.all ok st.lt z1,Cy]
    exact⟨λe=>by injection e with e;exact uM e,λe=>by rw[e]⟩
   exact⟨_,_,_,_,_,rfl,s1E.trans (sF.trans sG)⟩
  rintro σ H2 ⟨o7,o8,o9,dq,uf,rfl,s2⟩;have B2:=B1.same s2;obtain⟨dr,dv⟩:=id B2.rls.r0;have bl:(as.map srt).length=as.length:=AB ..;refine⟨_,rfl,_,rfl,R,_,_,_,rfl,rfl,uy B2.rls.at_,x0,W,r0,dr,z,as.map srt,rfl,B2.web,dv,z1,z10,by rw[bl];exact a12,JL ok,Fq ok,λp ae hd H3 s3 hV cn ld r4=>?_⟩;rw[bl] at hV cn ld;refine⟨p,_,hd,ae,rfl,hV,cn.least.ok,cn.knot,a12,r4,λL2 sK H4 s4 nL2 eL2 qR=>?_⟩;have e2:=Sol.uniq (QJ cn ld) sol;have qR:=HX qR;rw[e2] at qR;obtain⟨us,hL,pL⟩:=(B2.same (s3.trans s4)).told;refine⟨_,rfl,_,_,⟨L2,sK,rfl,uy eL2,qR⟩,⟨L,us,rfl,hL,pL⟩,?_⟩;rw[uE rfl];exact q _
 refine⟨_,Ad (Jp (BP GV mr rfl (Aa (BP GC bm rfl (Aa (pv 0) (Aa Ag Ac))) Ac)) (Ju rfl (Bd (BX (i:=1) Fv.nd) (Bd (BX (i:=2) Fv.nd) Dp))))
  (Ad (Ak (i:=3) Fv.nd (Kr M GI kT rfl T.mgC bI .nil pass0 (Aa (pv 1) (Aa (pv 2) Ac))))
  (Ad (Ak (i:=4) Fv.nd (Bm (Aa (YT mkD hiD kpD rfl mgD) (Aa (YT mkO hiO kpO rfl mgO) Ac))))
  (Ad (JM (i:=5) (Ah Rg) ["_law_rule"] ["_law_web_here"] [3] Fv.nd rfl (K8 rfl) rfl rfl (by decide+kernel) ⟨⟨rfl,by decide+kernel⟩,trivial⟩ (Bt (pv 4))
    (λ_ _ _=>BK (i:=0)) (λ_ _ _=>DY)
    (λ_ _ _=>JX GX ii rfl GG2.m GG2.k GG2.b .nil pass0 (Aa (pv 1) (Aa (pv 0) Ac))))
  (Ad (Ak (i:=6) Fv.nd (BP GE c6 rfl (Aa (Av BL (pv 5) Ag) Ac)))
  (Ad (Bl (uq (Gg (Io (Ei (Ax (Uw cD oD is) rfl T.isi K0 (Aa (Av BL (pv 4) Ag) (Aa (FP (v:=.ref U) rfl mgU rfl) Ac)))))
    (Gg (Io (Ei (Ax (Uw cD2 oD2 is2) rfl T.isi K0 (Aa (Av BL (pv 4) Ag) (Aa (FP (v:=.ref U) rfl mgU rfl) Ac)))))
    (FT (Ei (Ax AHF rfl T.isi K0 (Aa (pv 6) (Aa (AFJ (v:=.ty "tuple") rfl T.tuple Db rfl) Ac)))))))) (Ai (Ao Fo)) BJ)
  (Ad (DW C5 rfl (Bt (pv 6)) (BX (i:=7) Fv.nd)
   (Ai (Bl (Am (Kz CT (Br hr)) (BP GY bm rfl (Aa (pv 2) (Aa (pv 7) Ac))) (Bm Ac) rfl) (Ai (Ao Fo)) BJ)))
  (Ad (Bl (Am (Ie (FN CT) (Br hr)) (BP GE c6 rfl (Aa (Av BL (pv 5) Ag) Ac))
    (Bq (Ah Rg) ["_law_some"] ["_law_many"] [1] rfl rfl (by decide+kernel) ⟨⟨rfl,by decide+kernel⟩,trivial⟩ (Bt (pv 6))
     (λ_ _ _=>BK (i:=0))
     (λ_ _ _=>CK (Am DR (Ax (Fe (K:=K) rfl) rfl T.len Cn (Aa (pv 0) Ac)) (pv 1))) (λ_ _ _=>pv 0)) rfl) (Ai (Ao Fo)) BJ)
  (Ad (Bl (uq (Gg (Io (Ei (BP GL hr19 rfl (Aa (pv 4) (Aa (pv 1) (Aa (pv 2) Ac))))))
    (FT (Am (Ie CT (Br hr)) (Bq (Ah Rg) ["_law_sieve"] [] [] rfl rfl (by decide+kernel) trivial (Bt (pv 5))
      (λ_ _ _=>BK (i:=0)) (λ_ _ _=>DY)
      (λ_ _ _=>CW (pv 0) TS.cl mM GM bm bM .nil pass0)) (Bm (Aa (Ax Ar rfl T.len Cn (Aa (pv 2) Ac)) (Aa (Ax Ar rfl T.len Cn (Aa (pv 2) Ac)) Ac))) rfl)))) (Ai (Ao Fo)) BJ)
  h4)))))))),?_⟩
 refine⟨_,rfl,a,ns,0,rfl,hS,by lia,λc0=>⟨c0,rfl,λt l z as H1 s1 ht hT ok z1 z10 a12=>?_⟩⟩;refine⟨t,_,rfl,ht,rfl,_,_,rfl,_,_,rfl,rfl,?_⟩;have sc1:=s1.seq hS;have B1:In K l z as H1:=⟨hT,ok,z1,z10,a12⟩;have bl:(as.map srt).length=as.length:=AB ..;obtain⟨ts,el,pl⟩:=id hT;refine⟨_,rfl,_,rfl,λW dW nW ndW nWd=>?_⟩;have sp:Same H1 (upd (upd H1 dW (.own W)) W (.ins C dW [])):=λb o e=>by
  rw[Af (Ae e nW),Af (Ae e ndW)];exact e
 refine⟨W,dW,l,(z:Int),ts,as,rfl,Ab,sp.seq el,u7 (λt x h=>.inr (Aq Aw _ _ _ _ sp.ts h)) pl,ok,a12,vN z1,vO z10,λH2 k2 hW=>⟨rfl,?_⟩⟩;have s2:Same H1 H2:=λb o e=>k2 b o (sp b o e) (Ae e nW);refine λr0 d0 dv hd0 nd0=>λr1 d1 i6 hd1 nd1=>⟨(by show 2<=sizeLine;decide),λR hR=>?_⟩;have sa:Same H2 (upd (upd H2 d0 (.own r0)) r0 (.ins D d0 [])):=λb o e=>by
  rw[Af (Ae e dv),Af (Ae e hd0)];exact e
 have ea0:(upd (upd H2 d0 (.own r0)) r0 (.ins D d0 [])) r0=uA (.ins D d0 []):=Ab;generalize upd (upd H2 d0 (.own r0)) r0 (.ins D d0 [])=H2a at sa ea0 i6 hd1 hR;have sb:Same H2a (upd (upd H2a d1 (.own r1)) r1 (.ins D2 d1 [])):=λb o e=>by
  rw[Af (Ae e i6),Af (Ae e hd1)];exact e
 have eb0:(upd (upd H2a d1 (.own r1)) r1 (.ins D2 d1 [])) r1=uA (.ins D2 d1 []):=Ab;generalize upd (upd H2a d1 (.own r1)) r1 (.ins D2 d1 [])=H2b at sb eb0 hR;have sc:=u8 hR (.lst [V.ref r0,V.ref r1]);have R3:Rls K D D2 R r0 r1 (upd H2b R (.lst [V.ref r0,V.ref r1])):=⟨Ab,⟨d0,sc _ _ (sb _ _ ea0)⟩,⟨d1,sc _ _ eb0⟩⟩;have s3:=sa.trans (sb.trans sc);generalize upd H2b R (.lst [V.ref r0,V.ref r1])=H3 at R3 s3;clear sa sb sc;have rW:=hW.same s3;refine⟨_,rfl,R,rfl,⟨_,uy R3.at_⟩,λV0 hV0=>?_⟩;refine Bu (K:=K) (a:=R) (xs:=[V.ref r0,V.ref r1]) (λj τ HA=>∃(o:Option V) (ys:List V),τ=[o,uA (.ref W)]/\Same H3 HA/\HA V0=uA (.lst ys)/\ys.length=j/\Svs K S z as HA ys j) ⟨uB,[],rfl,u8 hV0 _,Ab,rfl,rfl⟩ (by rintro j τ HA _ ⟨_,_,_,sm,_⟩;exact uy (sm _ _ R3.at_)) ?_ ?_
 .rintro j v τ HA hv ⟨o,ys,rfl,sA,eV,yl,sv⟩
  have RA:=R3.same sA;obtain⟨rd,r,dr,rfl,hr',fin⟩:∃(rd:Bool) (r dr:Addr),v=.ref r/\HA r=uA (.ins (dOf D D2 rd) dr [])/\∀(p:Addr) (ae:List Row) (hd:Nat) (H':Hp),(∀{rd:Bool}{p:Addr}{n:List Row}{h:Nat},Grw rd K S HA p z as n h->Grw rd K S H' p z as n h)->Grw rd K S H' p z as ae hd->Svs K S z as H' (ys++[.ref p]) (j+1):=by
   match j,hv,sv with
   | 0,hv,sv =>
    cases hv;obtain⟨dx,h⟩:=RA.r0;have sv:=sv;exact⟨false,r0,dx,rfl,h,λp ae hd H' kp g=>by rw[sv];exact⟨p,ae,hd,rfl,g⟩⟩
   | 1,hv,sv =>
    cases hv;obtain⟨dx,h⟩:=RA.r1;obtain⟨p',n',h',e,g'⟩:=sv;exact⟨true,r1,dx,rfl,h,λp ae hd H' kp g=>by rw[e];exact⟨p',n',h',p,ae,hd,rfl,kp g',g⟩⟩
   | j+2,hv,_=>cases hv
  have j2:j<2:=(AH.mp hv).1;refine yesN ⟨_,rfl,_,rfl,rd,W,r,dr,z,as.map srt,rfl,rW.same sA,hr',z1,z10,by rw[bl];exact a12,JL ok,Fq ok,λp ae hd H' s' hV cn ld r4=>?_⟩;rw[bl] at hV cn ld;have eV':=s' _ _ eV;refine⟨_,eV',Ay (by lia),_,ys++[.ref p],rfl,λb o e=>?_,Ab,by rw[AZ,yl];rfl,fin p ae hd _ (λg=>(g.same s').put eV') (Grw.put ⟨hV,cn,ld,r4⟩ eV')⟩;rw[Af (Ae e hV0)];exact s' _ _ (sA b o e)
 rintro τ H4 ⟨o,ys,rfl,s4,eV,yl,sv⟩;obtain⟨p0,n0,h0,p1,n1,h1,rfl,g0,g1⟩:∃p n h p' n' h',ys=[.ref p,.ref p']/\Grw false K S H4 p z as n h/\Grw true K S H4 p' z as n' h':=sv;have y0:atI [V.ref p0,V.ref p1] 0=uA (V.ref p0):=rfl;have y1:atI [V.ref p0,V.ref p1] 1=uA (V.ref p1):=rfl;have x0:atI [V.ref r0,V.ref r1] 0=uA (V.ref r0):=rfl;have x1:atI [V.ref r0,V.ref r1] 1=uA (V.ref r1):=rfl;refine⟨_,rfl,V0,_,_,_,rfl,rfl,uy eV,y0,p0,_,h0,n0,rfl,g0.at_,g0.cn.least.ok,g0.cn.knot,a12,g0.few,λL us H5 s5 nL eL pL=>?_⟩;have pL:=HX pL;have fk:=s4.trans s5;have s15:=s2.trans (s3.trans fk);have B5:Bs K C D D2 S a l W R V0 r0 r1 p0 p1 L ns z as n0 n1 h0 h1 H5:=⟨s15.seq sc1,B1.same s15,rW.same fk,R3.same fk,s5 _ _ eV,g0.same s5,g1.same s5,us,uy eL,pL⟩;have sol:=g0.sol;have few:=g0.few_sets a12;obtain⟨dr0,e0⟩:=B5.rls.r0;obtain⟨dr1,e1⟩:=B5.rls.r1;refine⟨_,rfl,R,_,_,_,rfl,rfl,uy B5.rls.at_,x0,r0,dr0,_,rfl,e0,true,rfl,iteF ?_⟩;refine⟨_,rfl,R,_,_,_,rfl,rfl,uy B5.rls.at_,x1,r1,dr1,_,rfl,e1,true,rfl,iteF ?_⟩;refine⟨_,rfl,L,us,rfl,uy eL,false,rfl,iteF ?_⟩;refine⟨_,rfl,L,rfl,⟨_,uy eL⟩,?_⟩;refine Eh (K:=K) (a:=L) (xs:=us) (λi σ HA=>∃(o7:Option V),σ=lawS a l W R V0 L z o7 uB uB uB uB/\Same H5 HA) ⟨uB,rfl,u3 _⟩ (by rintro i σ HA _ ⟨_,_,sm⟩;exact uy (sm _ _ eL)) ?_ ?_
 .rintro i v σ HA hv ⟨o7,rfl,sA⟩
  obtain⟨su,u,es,rfl,hu⟩:=JW pL hv;obtain⟨pw,lt,ring⟩:=(sol.mem su).mp (AX es);have BA:=B5.same sA;refine⟨_,rfl,_,rfl,l,u,z,as,su,rfl,BA.rows.tl,ok,a12,sA.ts.seq hu,pw,lt,λY ps HB sB nY eY ro=>?_⟩;refine⟨AY _,λO1 gL=>?_⟩;have sC:=sB.trans (u8 gL (.lst []));have eO:(upd HB O1 (.lst [])) O1=uA (.lst []):=Ab;have eYC:=u8 gL (.lst []) _ _ eY;generalize upd HB O1 (.lst [])=HC at sC eO eYC;exact⟨up ps,[],⟨Y,_,rfl,uy eYC,by rw[<- Es];exact paired_ints _⟩,⟨O1,_,rfl,uy eO,.nil⟩,_,rfl,iteN (λe=>ro.ring.mpr ring (DM.mp e)) ⟨_,rfl,sA.trans sC⟩⟩
 rintro σ H6 ⟨o7,rfl,s6⟩;have B6:=B5.same s6;clear B5 eL pL;refine⟨_,rfl,V0,_,_,_,rfl,rfl,uy B6.svs,y1,p1,_,h1,n1,rfl,B6.g1.at_,g1.cn.least.ok,g1.cn.knot,a12,g1.few,λL1 q5 H7 s7 nL1 eL1 tL=>?_⟩;have tL:=HX tL;have B7:=B6.same s7;obtain⟨us7,rM,pL7⟩:=id B7.told;have l7:=AV pL7;rw[AB] at l7;refine⟨_,rfl,L,rfl,⟨_,rM⟩,λZ hZ=>?_⟩;refine Bu (K:=K) (a:=L) (xs:=us7) (λj τ HA=>∃(o:Option V) (ys:List V),τ=[o,uA (.int (z:Int))]/\Same H7 HA/\HA Z=uA (.lst ys)/\ys.length<=j/\BI (rPair K HA) ((((setsOf n0 h0).take j).filter λs=>decide ((s.length:Int)=(z:Int))).map up) ys) ⟨uB,[],rfl,u8 hZ _,Ab,AF _,.nil⟩ (by rintro j τ HA _ ⟨_,_,_,sm,_⟩;exact sm.seq rM) ?_ ?_
 .rintro j v τ HA hv ⟨o,ys,rfl,sA,eZ,yl,py⟩
  obtain⟨su,u,es,rfl,hu⟩:=JW pL7 hv;have jl:=(AH.mp hv).1;have hu:=sA.ts.seq hu;refine⟨_,rfl,u,_,rfl,.inr hu,_,rfl,rfl,_,rfl,?_⟩;rw[AB,Il];have e:((setsOf n0 h0).take (j+1)).filter (λs=>decide ((s.length:Int)=(z:Int)))=((setsOf n0 h0).take j).filter (λs=>decide ((s.length:Int)=(z:Int)))++if(su.length:Int)=(z:Int) then [su] else []:=by
   rw[K32s.take_snoc es,CL];by_cases c:(su.length:Int)=(z:Int)
   .rw[uD c,De (p:=λs:uL=>decide ((s.length:Int)=(z:Int))) (uE c)];rfl
   .rw[uC c,C3 (p:=λs:uL=>decide ((s.length:Int)=(z:Int))) (by rw[decide_eq_true_iff];exact c)];rfl
  rw[e];by_cases c:(su.length:Int)=(z:Int)
  .have ts':=u6 (o:=.lst (ys++[.ref u])) eZ
   refine iteP (congrArg V.int c) ⟨_,rfl,_,eZ,EB (show ys.length<=4096 by lia) (by decide),_,ys++[.ref u],rfl,λb o e=>?_,Ab,by rw[AZ];show _+1<=_;exact vD yl,?_⟩
   .rw[Af (Ae e hZ)]
    exact sA b o e
   .rw[uD c,BM]
    exact u4 (AFh ts' py) (u5 ⟨u,_,rfl,ts'.seq hu,paired_ints _⟩)
  .refine iteN (λe=>c (V.int.inj e)) ⟨_,ys,rfl,sA,eZ,vd yl,?_⟩
   rw[uC c,Co];exact py
 rintro τ H8 ⟨o,ys,rfl,s8,eZ,yl,py⟩;rw[<- l7,CM] at py;have B8:=B7.same s8;have es:=Sol.uniq g1.sol (AEQ ok sol);refine⟨_,_,⟨L1,q5,rfl,uy (s8 _ _ eL1),AFh s8.ts tL⟩,⟨Z,ys,rfl,uy eZ,py⟩,_,rfl,iteNP (by rw[es]) ?_⟩;refine⟨_,rfl,_,rfl,_,rfl,R,r0,r1,l,z,as,rfl,B8.rls,B8.rows,λH9 s9=>⟨true,rfl,iteF ?_⟩⟩;have B9:=B8.same s9;refine⟨_,rfl,V0,rfl,⟨_,uy B9.svs⟩,λY hY=>?_⟩;refine Bu (K:=K) (a:=V0) (xs:=[V.ref p0,V.ref p1]) (λj τ HA=>∃(o:Option V),τ=[o]/\Same H9 HA/\HA Y=uA (.lst (CC j (V.int (as.length:Int))))) ⟨uB,rfl,u8 hY _,Ab⟩ (by rintro j τ HA _ ⟨_,_,sm,_⟩;exact uy (sm _ _ B9.svs)) ?_ ?_
 .rintro j v τ HA hv ⟨o,rfl,sA,eY⟩
  have BA:=B9.same sA;have j2:j<2:=(AH.mp hv).1;obtain⟨p,n,h,rfl,hV⟩:∃p n h,v=.ref p/\K32s.SvAt K S HA p as.length n h:=by
   match j,hv with
   | 0,hv=>cases hv;exact⟨p0,n0,h0,rfl,BA.g0.at_⟩
   | 1,hv=>cases hv;exact⟨p1,n1,h1,rfl,BA.g1.at_⟩
   | j+2,hv=>cases hv
  obtain⟨dx,jj,hp,_⟩:=id hV;refine yesN ⟨_,rfl,p,dx,_,rfl,hp,AHq _ _ _ (by decide+kernel) (by decide+kernel) (by decide+kernel),p,_,_,n,rfl,hV,?_⟩;refine⟨_,eY,Ay (by rw[QH];lia),_,rfl,λb o e=>?_,?_⟩
  .rw[Af (Ae e hY)]
   exact sA b o e
  .rw[Ab,<- List.replicate_succ']
 rintro τ H10 ⟨o,rfl,qQ,eY⟩;have B10:=B9.same qQ;obtain⟨xs,hl,pl⟩:=id B10.rows.tl;have lx:=AV pl;refine⟨_,rfl,l,_,rfl,.inl hl,_,rfl,l,_,rfl,.inl hl,(by show 2<=sizeLine;decide),λO2 tj=>?_⟩;have mN:=u8 tj (.lst [V.int (xs.length:Int),V.int (xs.length:Int)]);have eO:(upd H10 O2 (.lst [V.int (xs.length:Int),V.int (xs.length:Int)])) O2=uA (.lst (([(as.length:Int),(as.length:Int)]:uI).map V.int)):=by rw[Ab,lx];rfl
 have sM:=mN _ _ eY;generalize upd H10 O2 (.lst [V.int (xs.length:Int),V.int (xs.length:Int)])=H11 at mN eO sM;refine⟨[(as.length:Int),(as.length:Int)],[(as.length:Int),(as.length:Int)],⟨Y,_,rfl,uy sM,paired_ints [(as.length:Int),(as.length:Int)]⟩,⟨O2,_,rfl,uy eO,paired_ints _⟩,_,rfl,iteNP rfl ?_⟩;exact q4 _ _ ⟨a,l,W,R,V0,r0,r1,p0,p1,L,ns,z,as,n0,n1,h0,h1,o7,rfl,B10.same mN⟩
end K32
namespace L2
open PySem PySem.Spec PyProof.Rows
section
variable{p r s:Str}
theorem cons1{us:List α}(h:us.length=n+1):∃a vs,us=a::vs/\vs.length=n:=by
 cases us with
 | nil=>cases h
 | cons a vs=>exact⟨a,vs,rfl,Nat.succ.inj h⟩
theorem bn1(h:∀kV be pm an a7 ct a,B kV be pm an a7 ct [a]=pure [(p,a)])(kV be pm:As)(an:Option Addr)(a7 ct:As)(us:List As)(hl:us.length=([p]:uU).length):B kV be pm an a7 ct us=pure (([p]:uU).zip us):=by
 obtain⟨_,ug,rfl,io⟩:=cons1 (n:=0) hl;obtain rfl:=Cs.mp io;exact h ..
theorem bn2(h:∀kV be pm an a7 ct a b,B kV be pm an a7 ct [a,b]=pure [(p,a),(q,b)])(kV be pm:As)(an:Option Addr)(a7 ct:As)(us:List As)(hl:us.length=([p,q]:uU).length):B kV be pm an a7 ct us=pure (([p,q]:uU).zip us):=by
 obtain⟨_,ug,rfl,io⟩:=cons1 (n:=1) hl;obtain⟨_,q5,rfl,d5⟩:=cons1 (n:=0) io;obtain rfl:=Cs.mp d5;exact h ..
theorem bn3(h:∀kV be pm an a7 ct a b c,B kV be pm an a7 ct [a,b,c]=pure [(p,a),(q,b),(r,c)])(kV be pm:As)(an:Option Addr)(a7 ct:As)(us:List As)(hl:us.length=([p,q,r]:uU).length):B kV be pm an a7 ct us=pure (([p,q,r]:uU).zip us):=by
 obtain⟨_,ug,rfl,io⟩:=cons1 (n:=2) hl;obtain⟨_,q5,rfl,d5⟩:=cons1 (n:=1) io;obtain⟨_,sK,rfl,fm⟩:=cons1 (n:=0) d5;obtain rfl:=Cs.mp fm;exact h ..
theorem bn4(h:∀kV be pm an a7 ct a b c d,B kV be pm an a7 ct [a,b,c,d]=pure [(p,a),(q,b),(r,c),(s,d)])(kV be pm:As)(an:Option Addr)(a7 ct:As)(us:List As)(hl:us.length=([p,q,r,s]:uU).length):B kV be pm an a7 ct us=pure (([p,q,r,s]:uU).zip us):=by
 obtain⟨_,ug,rfl,io⟩:=cons1 (n:=3) hl;obtain⟨_,q5,rfl,d5⟩:=cons1 (n:=2) io;obtain⟨_,sK,rfl,fm⟩:=cons1 (n:=1) d5;obtain⟨_,us3,rfl,uk⟩:=cons1 (n:=0) fm;obtain rfl:=Cs.mp uk;exact h ..
end
section
variable{st:Stmt}
theorem bn5{p r s o:Str}(h:∀kV be pm an a7 ct a b c d e,B kV be pm an a7 ct [a,b,c,d,e]=pure [(p,a),(q,b),(r,c),(s,d),(o,e)])(kV be pm:As)(an:Option Addr)(a7 ct:As)(us:List As)(hl:us.length=([p,q,r,s,o]:uU).length):B kV be pm an a7 ct us=pure (([p,q,r,s,o]:uU).zip us):=by
 obtain⟨_,ug,rfl,io⟩:=cons1 (n:=4) hl;obtain⟨_,q5,rfl,d5⟩:=cons1 (n:=3) io;obtain⟨_,sK,rfl,fm⟩:=cons1 (n:=2) d5;obtain⟨_,us3,rfl,uk⟩:=cons1 (n:=1) fm;obtain⟨_,us4,rfl,hl4⟩:=cons1 (n:=0) uk;obtain rfl:=Cs.mp hl4;exact h ..
inductive Df (K:Ap) (x:Str) (st:Stmt):Prop
 | mk (f:Addr) (od an:Option Addr) (sl:Array (Option As)) (oc kV dc pm cd ct:As) (a:Ha K DD x=uA (uA (.ref f))) (l:K.lookup f=uA ⟨oc,od,.func (Fh x x (Dz st) (Dd st) (Ah st) .none kV dc pm an cd ct),sl⟩) (c:IP K cd x=true) (k:DL K (.ref f)=true):Df K x st
inductive Md (K:Ap) (C:Addr) (x q:Str) (st:Stmt):Prop
 | mk (f:Addr) (od an:Option Addr) (sl:Array (Option As)) (oc kV dc pm cd ct:As) (a:CS K (.ref C) x=uA (uA (.ref f))) (i:MR K (.ref f)=true) (l:K.lookup f=uA ⟨oc,od,.func (Fh x q (Dz st) (Dd st) (Ah st) .none kV dc pm an cd ct),sl⟩) (c:IP K cd q=true) (k:DL K (.ref f)=true):Md K C x q st
inductive DfO (K:Ap) (mg:Str->Option As) (x:Str) (st:Stmt) (ps:uU):Prop
 | mk (f:Addr) (fd:Bn) (F:Fun K x x st f fd) (b:Binds K fd ps []) (m:mg x=uA (.ref f)) (k:DL K (.ref f)=true):DfO K mg x st ps
inductive MdO (K:Ap) (C:Addr) (x q:Str) (st:Stmt) (ps:uU):Prop
 | mk (f:Addr) (fd:Bn) (F:Fun K x q st f fd) (b:Binds K fd ps []) (m:Meth K C x f):MdO K C x q st ps
theorem Df.get(D:Df K x st)(X:K.In h)(G:h.Ns DD mg)(hb:∀(kV be pm:As) (an:Option Addr) (a7 ct:As) (us:List As),us.length=ps.length->UE (Fh x x (Dz st) (Dd st) (Ah st) .none kV be pm an a7 ct) ⟨us,[]⟩=pure (ps.zip us)):DfO K mg x st ps:=by
 cases D with
 | mk f od an sl oc kV dc pm cd ct a l c k=>exact⟨f,_,MP l c k,(MP l c k).binds hb,FA X G a,k⟩
theorem Md.get(D:Md K C x q st)(hb:∀(kV be pm:As) (an:Option Addr) (a7 ct:As) (us:List As),us.length=ps.length->UE (Fh x q (Dz st) (Dd st) (Ah st) .none kV be pm an a7 ct) ⟨us,[]⟩=pure (ps.zip us)):MdO K C x q st ps:=by
 cases D with
 | mk f od an sl oc kV dc pm cd ct a i l c k=>exact⟨f,_,MP l c k,(MP l c k).binds hb,⟨a,i,k⟩⟩
theorem Df.of{kV:As}(a:Ha K DD x=uA (uA (.ref f)))(l:K.lookup f=uA ⟨oc,od,.func (Fh x x (Dz st) (Dd st) (Ah st) .none kV dc pm an cd ct),sl⟩)(c:IP K cd x=true)(k:DL K (.ref f)=true):Df K x st:=⟨f,od,an,sl,oc,kV,dc,pm,cd,ct,a,l,c,k⟩
theorem Md.of{kV:As}(a:CS K (.ref C) x=uA (uA (.ref f)))(i:MR K (.ref f)=true)(l:K.lookup f=uA ⟨oc,od,.func (Fh x q (Dz st) (Dd st) (Ah st) .none kV dc pm an cd ct),sl⟩)(c:IP K cd q=true)(k:DL K (.ref f)=true):Md K C x q st:=⟨f,od,an,sl,oc,kV,dc,pm,cd,ct,a,i,l,c,k⟩
structure Kl(K:Ap)(n:Str)(D:Addr):Prop where
 y:Ha K DD n=uA (uA (.ref D))
 c:Cls K D
 mk_:Ix K D=true
 kp:DL K (.ref D)=true
theorem Kl.of(y:Ha K DD x=uA (uA (.ref C)))(a:K4 K C Str.empty=true)(b:LX K C=true)(c:Oy K C=true)(d:CS K (.ref C) "__setattr__" = uA (uA (.builtin "object.__setattr__")))(m:Ix K C=true)(k:DL K (.ref C)=true):Kl K x C:=⟨y,⟨a,b,c,d⟩,m,k⟩
def Nn(K:Ap):uU->Prop
 | []=>True
 | x::l=>Ha K DD x=uA uB/\Nn K l
def Na(K:Ap)(C:Addr):uU->Prop
 | []=>True
 | x::l=>CS K (.ref C) x=uA uB/\Na K C l
theorem Nn.one{l:uU}(a:Ha K DD x=uA uB)(b:Nn K l):Nn K (x::l):=⟨a,b⟩
theorem Na.one{l:uU}(a:CS K (.ref C) x=uA uB)(b:Na K C l):Na K C (x::l):=⟨a,b⟩
end
end L2
namespace PySem.W.Fast
def tw1067282569964211337:=True
def tw283336538328327300:=True
def tw16257604554842751891:=True
def tw1717421421964970121:=True
def tw5545238415377666625:=True
def tw12233174911642123772:=True
def tw7964481156545112875:=True
def tw16779803329351095688:=True
def tw1069998461900804678:=True
def tw6829536124059887449:=True
def tw5531487757185939504:=True
def tw13743127493944210537:=True
def tw14706862588361361627:=True
def tw4486870849111167667:=True
def tw16945902837363369241:=True
def tw16977492186341339899:=True
def tw18058295651202607386:=True
def tw13261339058589603993:=True
def tw15337325462811151697:=True
def tw16519127895545098040:=True
def tw14666279064102508664:=True
def tw3828143152976551187:=True
def tw4687166956589420264:=True
def tw13683149511431885426:=True
def tw10274392274257615178:=True
def tw12424346705803100574:=True
def tw14065807125746240698:=True
def tw16269867404638794340:=True
def tw13319531130320837920:=True
def tw3350961711955209535:=True
def tw3677307975024665493:=True
def tw12874807022158337300:=True
def tw38036630331743843:=True
def tw18231361533702512005:=True
def tw13789992126111810775:=True
def tw5542097258275013157:=True
def tw5864433673318466878:=True
def tw6020567835080464646:=True
def tw17271673643683883775:=True
def tw5143331058084095881:=True
def tw13120064331885115679:=True
def tw9677251310822012751:=True
def tw9063486702969026535:=True
def tw16431269549938130396:=True
def tw11132096080717388489:=True
def tw2696244001053195686:=True
def tw9140995139005117933:=True
def tw11512112619743649774:=True
def tw7418607359601163638:=True
def tw507999314573363541:=True
def tw14640501846307562517:=True
def tw10080402761363857166:=True
def tw1019397732696838622:=True
def tw10241779881471769271:=True
def tw10291025996255689975:=True
def tw10375588722244204825:=True
def tw10406576603239802768:=True
def tw10451601096579963174:=True
def tw1053463198308885793:=True
def tw10638225730515119484:=True
def tw10656118229387683774:=True
def tw1068773067119133947:=True
def tw10737645783269104850:=True
def tw10741425163370816728:=True
def tw10748038313981172093:=True
def tw10886005007153919168:=True
def tw11041977469139987510:=True
def tw11049043391495114356:=True
def tw11109127702316010424:=True
def tw11276764802813422755:=True
def tw11279004744903946230:=True
def tw1129096853660034488:=True
def tw1134643071562037763:=True
def tw11396568348573352360:=True
def tw11536232933609373344:=True
def tw11688346957907240762:=True
def tw11804464075578779886:=True
def tw11834643991112196311:=True
def tw11865901634324969923:=True
def tw11951736455303546314:=True
def tw11959038981626447043:=True
def tw12133061345902433902:=True
def tw12197721195248345810:=True
def tw12454711983757587446:=True
def tw12540362437465085967:=True
def tw12544719315620520120:=True
def tw12575928501343301929:=True
def tw12596143080129607177:=True
def tw12695838485739841918:=True
def tw12784594814331118331:=True
def tw12874943896508708938:=True
def tw12927761225150784544:=True
def tw12964525122550638850:=True
def tw13041641580548275018:=True
def tw13126111234134618598:=True
def tw1312876411066923652:=True
def tw13147882074942653394:=True
def tw13179542487454940589:=True
def tw13254217062079630556:=True
def tw13386892540166949106:=True
def tw13462827706383870263:=True
def tw13506502470664553995:=True
def tw13634995459108658249:=True
def tw13852915928342673412:=True
def tw13914727861058511922:=True
def tw14004295192044323191:=True
def tw14007909375502122685:=True
def tw1403826868251630651:=True
def tw14095211819249571089:=True
def tw1411813656454335830:=True
def tw14216277632823739201:=True
def tw14239679537788497754:=True
def tw14287705721438577224:=True
def tw14296916422784538041:=True
def tw14492523362110235132:=True
def tw1453819821205820934:=True
def tw14780710447566997387:=True
def tw14802681526507625042:=True
def tw14859736304238355319:=True
def tw14902172924383151549:=True
def tw14930382916852741949:=True
def tw14943641483088327194:=True
def tw14948336123675161213:=True
def tw15036332339117798452:=True
def tw15048507265318312450:=True
def tw15052000674656093010:=True
def tw15059199547114361536:=True
def tw15067160205410178628:=True
def tw1508546526827896295:=True
def tw15088213175330437339:=True
def tw15154279160307669538:=True
def tw15198231974043252983:=True
def tw15225712904834061787:=True
def tw15226301669939529740:=True
def tw15244934233112444726:=True
def tw15286721117920011819:=True
def tw15334502957320970927:=True
def tw15521430388010449025:=True
def tw1555406886069428166:=True
def tw15608427172384588838:=True
def tw15634879112410851892:=True
def tw15665893595975136750:=True
def tw1567949675075259150:=True
def tw15713826408816610535:=True
def tw15716537470279619035:=True
def tw15755580950919431286:=True
def tw15787744369791643788:=True
def tw1581696635444871625:=True
def tw15903738585615572636:=True
def tw16072668209788291085:=True
def tw16090783802739774154:=True
def tw16093850071733679574:=True
def tw16099140931375215010:=True
def tw16143608670321923469:=True
def tw16155035190454676989:=True
def tw16268748941811088581:=True
def tw16408104820822790022:=True
def tw16425161279970982280:=True
def tw16460723072554594564:=True
def tw16470450806465784168:=True
def tw16496655584006557556:=True
def tw16604348675454556003:=True
def tw16639448564087291570:=True
def tw16686552537429185339:=True
def tw16727061618165737695:=True
def tw16753098006244615664:=True
def tw16805238529649574760:=True
def tw16883874612213083140:=True
def tw17011052583989022123:=True
def tw17147516617208904333:=True
def tw17470605289594444546:=True
def tw1749895053398361587:=True
def tw17583477899871439023:=True
def tw17587175489582670554:=True
def tw1766844854491667253:=True
def tw17743491682920892493:=True
def tw17857375178561761874:=True
def tw1786183010171578025:=True
def tw18157883988484274056:=True
def tw18176200152513017405:=True
def tw18213954941689941133:=True
def tw18411393121998547831:=True
def tw18424483347182573621:=True
def tw194611615083272447:=True
def tw1997386247340159117:=True
def tw2025649886036193238:=True
def tw2035611208925269478:=True
def tw2118852425150873722:=True
def tw2196931529602880909:=True
def tw2220826823874715372:=True
def tw2233287981180968267:=True
def tw2265603438994208585:=True
def tw2301999276661558045:=True
def tw236598878845941770:=True
def tw2537428468198993121:=True
def tw258334608028641813:=True
def tw262850812151862331:=True
def tw2641591496505159143:=True
def tw2667147624489709027:=True
def tw2699123486615069055:=True
def tw2715250278019204332:=True
def tw2745820499847435572:=True
def tw2914738037756147757:=True
def tw3132510587375780394:=True
def tw3224995067261308910:=True
def tw3300330499337586539:=True
def tw3332642817291516803:=True
def tw3354676313144812831:=True
def tw3456360412606325409:=True
def tw35721329182323184:=True
def tw3655793828530357097:=True
def tw3785165915007351258:=True
def tw3792577835076611884:=True
def tw3846509471586670871:=True
def tw3850876036109795250:=True
def tw3897952612068620579:=True
def tw3993422916851904147:=True
def tw4090172068422391612:=True
def tw4105237292685488397:=True
def tw4126930341645835984:=True
def tw4156791886221241946:=True
def tw4283256126227843657:=True
def tw4396397009176225849:=True
def tw4495795311209200001:=True
def tw4675459200266595031:=True
def tw4709800777700694450:=True
def tw4753208906775448150:=True
def tw4820255342937279654:=True
def tw4874970321548384065:=True
def tw4888419188699523325:=True
def tw4970352112396121046:=True
def tw5027559018811492407:=True
def tw5070988884234963070:=True
def tw5268831511733094766:=True
def tw5303781024384487576:=True
def tw5408724768658431247:=True
def tw5437547944685145821:=True
def tw5616747199912473251:=True
def tw5619104209549928158:=True
def tw5726840678341713866:=True
def tw5879153282143113106:=True
def tw5963705433747039432:=True
def tw5980208304752606658:=True
def tw59880270387496984:=True
def tw6040697068579620550:=True
def tw6114641356331019298:=True
def tw6145431364542485147:=True
def tw622395436408729578:=True
def tw6273868317484515788:=True
def tw6294139101494309231:=True
def tw6451209711829538989:=True
def tw6494454531889011130:=True
def tw6523632620985024761:=True
def tw66829876729038538:=True
def tw6772196073982845038:=True
def tw6871001921931518627:=True
def tw6923144574586962118:=True
def tw7016982124425446611:=True
def tw7079580402899659985:=True
def tw7205151483276223988:=True
def tw7240505572258367811:=True
def tw7253964587650516778:=True
def tw7266567478376194657:=True
def tw7288456269986574205:=True
def tw7375470129773990467:=True
def tw7759407728301470980:=True
def tw7762066910529381552:=True
def tw7835470112707153503:=True
def tw7856994136050746162:=True
def tw7903451785267493903:=True
def tw7940901216782793257:=True
def tw7960696975978119223:=True
def tw7980578738161989769:=True
def tw8074959072794987200:=True
def tw8146062985858902144:=True
def tw8228467395387296000:=True
def tw8245380075998176278:=True
def tw8251043630254158836:=True
def tw8502305503549307577:=True
def tw8554684578201929885:=True
def tw8566515852049793229:=True
def tw8592244385027541361:=True
def tw8617160806848951674:=True
def tw8637898731500998531:=True
def tw8657595321118517163:=True
def tw8671680444680962392:=True
def tw8688594807690366646:=True
def tw8760967077674796389:=True
def tw8773472092049055830:=True
def tw8797949996271402615:=True
def tw8821377340580336641:=True
def tw8879126903213094182:=True
def tw9026087473919201299:=True
def tw9155004020091444723:=True
def tw9222106582399325657:=True
def tw9368527187820404984:=True
def tw9372343739391269007:=True
def tw9409980211815108538:=True
def tw9452843178241109391:=True
def tw9478566588429112873:=True
def tw9499107002032215652:=True
def tw9505963342500881087:=True
def tw9526307038225461925:=True
def tw9544815118552860504:=True
def tw9556855626200765430:=True
def tw9561769065446740732:=True
def tw9581827555037749108:=True
def tw9681062276500218123:=True
def tw9754832302592698307:=True
def tw9863046535312789520:=True
def tw9917180007813122796:=True
end PySem.W.Fast
namespace K32
open PySem L2 G
theorem bn6{p r s o n:Str}(h:∀kV be pm an a7 ct a b c d e f,B kV be pm an a7 ct [a,b,c,d,e,f]=pure [(p,a),(q,b),(r,c),(s,d),(o,e),(n,f)])(kV be pm:As)(an:Option Addr)(a7 ct:As)(us:List As)(hl:us.length=([p,q,r,s,o,n]:uU).length):B kV be pm an a7 ct us=pure (([p,q,r,s,o,n]:uU).zip us):=by
 obtain⟨_,ug,rfl,io⟩:=cons1 (n:=5) hl;obtain⟨_,q5,rfl,d5⟩:=cons1 (n:=4) io;obtain⟨_,sK,rfl,fm⟩:=cons1 (n:=3) d5;obtain⟨_,us3,rfl,uk⟩:=cons1 (n:=2) fm;obtain⟨_,us4,rfl,hl4⟩:=cons1 (n:=1) uk;obtain⟨_,us5,rfl,lT⟩:=cons1 (n:=0) hl4;obtain rfl:=Cs.mp lT;exact h ..
theorem all_mk{l:Ps}{Rd Sv Gw:Addr}(X:K.In h)(G:h.Ns DD mg)(hfa:mg "law" = uA (.ref fa))
  (U_C:Kl K "Web" C) (U_D:Kl K "Rings" D) (U_Rd:Kl K "Rounds" Rd) (U_Sv:Kl K "Sieve" Sv) (U_Gw:Kl K "Growth" Gw) (h_init:Md K C "__init__" "Web.__init__" Lr) (h_size:Md K C "size" "Web.size" ACW) (h_ties:Md K C "ties" "Web.ties" ADi) (h_at:Md K C "at" "Web.at" sAt) (h_amt:Df K "refuse_amounts" AGu) (h_chk:Df K "checked_ties" AGq) (h_pts:Df K "refuse_points" AGy) (h_parts:Df K "web_parts" Ql) (h_heads:Df K "part_heads" Vd) (h_one:Df K "parts_as_one" AFO) (h_under:Df K "points_under" QZ) (h_counts:Df K "tie_counts" Kv) (h_within:Df K "ties_within" KY) (h_none2:Df K "none_or_two" Qm) (h_onep:Df K "is_one_piece" Yk) (h_cell:Df K "_law_at" ABc) (h_mix:Df K "_law_mixed" AGW) (h_graph:Df K "least_graph" K32s.MJ) (h_reach:Df K "reached_knots" K32s.RL) (h_in:Df K "row_in_places" K32s.sIn) (h_sets:Df K "sets_of" K32s.YG) (h_has:Df K "has_set" K32s.AGo) (h_grown:Df K "grown" Wm) (h_behp:Df K "points_behind" Ke) (h_tied:Df K "strands_tied" ABY) (h_rows:Df K "_law_rows" Qy) (h_webl:Df K "_law_web" ADG) (h_bits:Df K "_law_bits" YB) (h_walked:Df K "_law_walked" RG) (h_round:Df K "_law_round" Qv) (h_setl:Df K "_law_set" Xu) (h_right:Df K "_law_right" Xj) (h_else:Df K "_law_elsewhere" Xv) (h_law:Df K "law" Rg) (h_taken:Md K D "taken" "Strands.taken" RP) (h_passed:Md K D "passed" "Strands.passed" JR) (h_ful:Md K D "fulfilled" "Strands.fulfilled" AFG) (h_left:Md K D "left" "Rule.left" YM) (h_closed:Md K D "closed" "Strands.closed" Hy) (h_begun:Md K D "begun" "Strands.begun" QK) (h_otaken:Md K Rd "taken" "Strands.taken" RP) (h_opassed:Md K Rd "passed" "Strands.passed" JR) (h_oful:Md K Rd "fulfilled" "Strands.fulfilled" AFG) (h_oleft:Md K Rd "left" "Rule.left" YM) (h_oclosed:Md K Rd "closed" "Strands.closed" Hy) (h_obegun:Md K Rd "begun" "Strands.begun" QK) (h_stay:Md K D "may_stay" "Strands.may_stay" ACg) (h_ostay:Md K Rd "may_stay" "Rounds.may_stay" Wa) (h_fits:Md K D "fits" "Rings.fits" Vj) (h_ofits:Md K Rd "fits" "Rounds.fits" Ws) (h_sinit:Md K Sv "__init__" "Sieve.__init__" K32s.Lr) (h_knots:Md K Sv "knots" "Sieve.knots" K32s.Xi) (h_stop:Md K Sv "top" "Sieve.top" K32s.AGr) (h_smany:Md K Sv "many" "Sieve.many" K32s.ADJ) (h_ginit:Md K Gw "__init__" "Growth.__init__" QS) (h_knotat:Md K Gw "knot_at" "Growth.knot_at" Ko) (h_past:Md K Gw "past_points" "Growth.past_points" ABu) (N_C:Na K C ["amount","joints"]) (N_Sv:Na K Sv ["amount","rows","head"]) (N_Gw:Na K Gw ["web","rule","amount","behind","rows","known"]) (N_N:Nn K ["len","range","int","max","min","sorted","tuple","list","bool","enumerate","isinstance","all","set","reversed"]) {t0:Tok} (v0:Ha K DD "MOST_POINTS" = uA (uA (.int 10 t0))) {t1:Tok} (v1:Ha K DD "MOST_TIES" = uA (uA (.int 12 t1))) (p8:CS K (.ref D) "__class__" = uA (uA (.builtin "object.__class__"))) (qd:TN K (.builtin "object.__class__") "__get__" = uA (uA (.builtin "getset_descriptor.__get__"))) (qe:VT K (.builtin "object.__class__")=uA true) (qg:WZ K D (.type "object")=uA true) (qj:KW K (.ref D) (.ref D)=uA true) (nu:CS K (.ref Rd) "__class__" = uA (uA (.builtin "object.__class__"))) (nF:TN K (.builtin "object.__class__") "__get__" = uA (uA (.builtin "getset_descriptor.__get__"))) (nG:VT K (.builtin "object.__class__")=uA true) (nO:WZ K Rd (.type "object")=uA true) (nQ:KW K (.ref Rd) (.ref Rd)=uA true) (qJ:Ha K DD "Rule" = uA (uA (.ref R))) (qm:KW K (.ref D) (.ref R)=uA true) (nZ:KW K (.ref Rd) (.ref R)=uA true) (qt:CS K (.ref D) "__init__" = uA (uA (.builtin "object.__init__"))) (oh:CS K (.ref Rd) "__init__" = uA (uA (.builtin "object.__init__"))){odd:Option Addr}{ndd:Nat}{sld:Array (Option As)} (y_done:Ha K DD "DONE" = uA (uA (.ref da))) (jR:K.lookup da=uA ⟨.type "tuple",odd,.seq #[] ndd,sld⟩) :
  ∃fd:Bn,(∀(s:AA) (v:As),QA s fd ⟨[v],[]⟩ [("_law_script",v)])/\∀base:Heap,K.In base->base.Ns DD mg->FnOk l.prog w K mg base CX0 20 fa fd ["_law_script"] (Uj K):=by
 obtain⟨_,_,jT,bV,aC⟩:=h_init.get (ps:=["self","many","ties"]) (bn3 (by intros;rfl));obtain⟨_,_,jU,aj,m_size⟩:=h_size.get (ps:=["self"]) (bn1 (by intros;rfl));obtain⟨_,_,jV,au,aA⟩:=h_ties.get (ps:=["self"]) (bn1 (by intros;rfl));obtain⟨_,_,qu,jW,jX⟩:=h_at.get (ps:=["self","point"]) (bn2 (by intros;rfl));obtain⟨_,_,ou,oA,oE,oF⟩:=h_amt.get X G (ps:=["points","ties"]) (bn2 (by intros;rfl));obtain⟨_,_,oG,oH,oJ,oK⟩:=h_chk.get X G (ps:=["many","ties"]) (bn2 (by intros;rfl));obtain⟨_,_,oM,oN,oO,oR⟩:=h_pts.get X G (ps:=["many","tie"]) (bn2 (by intros;rfl));obtain⟨_,_,gW,gY,gZ,g8⟩:=h_parts.get X G (ps:=["web","some"]) (bn2 (by intros;rfl));obtain⟨_,_,iu,iw,iB,iC⟩:=h_heads.get X G (ps:=["web","some"]) (bn2 (by intros;rfl));obtain⟨_,_,oU,oW,oX,k_one⟩:=h_one.get X G (ps:=["heads","one","other"]) (bn3 (by intros;rfl));obtain⟨_,_,iD,iG,iH,iI⟩:=h_under.get X G (ps:=["heads","head"]) (bn2 (by intros;rfl));obtain⟨_,_,dG,aG,aH,aJ⟩:=h_counts.get X G (ps:=["web","some"]) (bn2 (by intros;rfl));obtain⟨_,_,dH,dI,dJ,dM⟩:=h_within.get X G (ps:=["numbers","some"]) (bn2 (by intros;rfl));obtain⟨_,_,iJ,iK,iM,iQ⟩:=h_none2.get X G (ps:=["counts"]) (bn1 (by intros;rfl));obtain⟨_,_,jY,bW,bY,bZ⟩:=h_onep.get X G (ps:=["web","some"]) (bn2 (by intros;rfl));obtain⟨_,_,jZ,j4,j5,j6⟩:=h_cell.get X G (ps:=["_law_script","_law_k"]) (bn2 (by intros;rfl));obtain⟨_,_,oY,gw,gA,gC⟩:=h_mix.get X G (ps:=["_law_cell"]) (bn1 (by intros;rfl));obtain⟨_,_,iR,aL,aM,aN⟩:=h_graph.get X G (ps:=["n","rows","top"]) (bn3 (by intros;rfl));obtain⟨_,_,iT,iU,iV,iW⟩:=h_reach.get X G (ps:=["rows","top"]) (bn2 (by intros;rfl));obtain⟨_,_,qw,qy,qC,k_in⟩:=h_in.get X G (ps:=["places","row"]) (bn2 (by intros;rfl));obtain⟨_,_,j7,cg,cj,cu⟩:=h_sets.get X G (ps:=["sieve"]) (bn1 (by intros;rfl));obtain⟨_,_,oZ,gF,gG,gH⟩:=h_has.get X G (ps:=["sieve","some"]) (bn2 (by intros;rfl));obtain⟨_,_,aO,aP,aQ,aR⟩:=h_grown.get X G (ps:=["web","rule"]) (bn2 (by intros;rfl));obtain⟨_,_,j8,cA,cB,cC⟩:=h_behp.get X G (ps:=["web","number"]) (bn2 (by intros;rfl));obtain⟨_,_,j9,cF,cG,cH⟩:=h_tied.get X G (ps:=["state","tie"]) (bn2 (by intros;rfl));obtain⟨_,_,kj,kE,kI,kJ⟩:=h_rows.get X G (ps:=["_law_many","_law_number"]) (bn2 (by intros;rfl));obtain⟨_,_,kO,kW,kY,kZ⟩:=h_webl.get X G (ps:=["_law_cell"]) (bn1 (by intros;rfl));obtain⟨_,_,lg,lu,lA,lC⟩:=h_bits.get X G (ps:=["_law_rows_here","_law_cell"]) (bn2 (by intros;rfl));obtain⟨_,_,dN,dR,dU,dX⟩:=h_walked.get X G (ps:=["_law_many","_law_rows_here","_law_cell"]) (bn3 (by intros;rfl));obtain⟨_,_,iY,aU,aV,aW⟩:=h_round.get X G (ps:=["_law_rows_here","_law_some"]) (bn2 (by intros;rfl));obtain⟨_,_,lD,lE,lF,lG⟩:=h_setl.get X G (ps:=["_law_many","_law_rows_here","_law_told","_law_cell","_law_k"]) (bn5 (by intros;rfl));obtain⟨_,_,aX,iZ,jc,jd⟩:=h_right.get X G (ps:=["_law_web_here","_law_rule","_law_sieve","_law_some","_law_due","_law_asked"]) (bn6 (by intros;rfl));obtain⟨_,_,lH,lJ,lK,lM⟩:=h_else.get X G (ps:=["_law_rules","_law_many","_law_rows_here"]) (bn3 (by intros;rfl));obtain⟨_,_,je,jf,jg⟩:=h_taken.get (ps:=["self","web","state","number"]) (bn4 (by intros;rfl));obtain⟨_,_,dY,dZ,d7⟩:=h_passed.get (ps:=["self","web","state","point"]) (bn4 (by intros;rfl));obtain⟨_,_,pA,pC,pD⟩:=h_ful.get (ps:=["self","web","state"]) (bn3 (by intros;rfl));obtain⟨_,_,lN,lQ,lR⟩:=h_left.get (ps:=["self","web","state","number"]) (bn4 (by intros;rfl));obtain⟨_,_,d8,eF,eG⟩:=h_closed.get (ps:=["self","state","tie"]) (bn3 (by intros;rfl));obtain⟨_,_,jk,jo,jq⟩:=h_begun.get (ps:=["self","web"]) (bn2 (by intros;rfl));obtain⟨_,_,eN,eU,fj⟩:=h_otaken.get (ps:=["self","web","state","number"]) (bn4 (by intros;rfl));obtain⟨_,_,cI,cJ,cL⟩:=h_opassed.get (ps:=["self","web","state","point"]) (bn4 (by intros;rfl));obtain⟨_,_,lU,lV,lW⟩:=h_oful.get (ps:=["self","web","state"]) (bn3 (by intros;rfl));obtain⟨_,_,jr,jt,ju⟩:=h_oleft.get (ps:=["self","web","state","number"]) (bn4 (by intros;rfl));obtain⟨_,_,cM,cN,cO⟩:=h_oclosed.get (ps:=["self","state","tie"]) (bn3 (by intros;rfl));obtain⟨_,_,fD,fJ,fQ⟩:=h_obegun.get (ps:=["self","web"]) (bn2 (by intros;rfl));obtain⟨_,_,lX,cP,cQ⟩:=h_stay.get (ps:=["self","state","point"]) (bn3 (by intros;rfl));obtain⟨_,_,jx,aY,aZ⟩:=h_ostay.get (ps:=["self","state","point"]) (bn3 (by intros;rfl));obtain⟨_,_,lY,cR,cT⟩:=h_fits.get (ps:=["self","web","some"]) (bn3 (by intros;rfl));obtain⟨_,_,jy,bf,bw⟩:=h_ofits.get (ps:=["self","web","some"]) (bn3 (by intros;rfl));obtain⟨_,_,jA,jB,bx⟩:=h_sinit.get (ps:=["self","n","rows","head"]) (bn4 (by intros;rfl));obtain⟨_,_,jC,bC,bD⟩:=h_knots.get (ps:=["self"]) (bn1 (by intros;rfl));obtain⟨_,_,lZ,cU,cV⟩:=h_stop.get (ps:=["self"]) (bn1 (by intros;rfl));obtain⟨_,_,jD,jE,jF⟩:=h_smany.get (ps:=["self"]) (bn1 (by intros;rfl));obtain⟨_,_,bG,bH,aB⟩:=h_ginit.get (ps:=["self","web","rule"]) (bn3 (by intros;rfl));obtain⟨_,_,aK,ak,ao⟩:=h_knotat.get (ps:=["self","number","reached"]) (bn3 (by intros;rfl));obtain⟨_,_,cW,cX,cY⟩:=h_past.get (ps:=["self","number","reached"]) (bn3 (by intros;rfl));obtain⟨n0,n1,_⟩:=N_C;obtain⟨fZ,mj,mq,_⟩:=N_Sv;obtain⟨pF,mC,f9,gj,mD,jG,_⟩:=N_Gw;obtain⟨z0,z1,z2,z3,z4,z5,z6,z7,z8,z9,z10,aF,pG,bR,_⟩:=N_N;obtain⟨_,_,_,_,_,_,_,_,_,_,pH,pI,pJ,pK⟩:=h_law;have e:=hfa.symm.trans (FA X G pH);cases e;have pN:=MP (st:=Rg) pI pJ pK;have law_all:∀base:Heap,FnOk l.prog w K mg base CX0 20 _ _ ["_law_script"] (Uj K):=λbase=>by
  have T:Txt K mg C:=⟨U_C.c,n0,n1,FA X G U_C.y,⟨_,FA X G v0⟩,⟨_,FA X G v1⟩,BO X G z0,BO X G z1,BO X G z2,BO X G z3,BO X G z4,BO X G z5,BO X G z6,BO X G z7,BO X G z8,BO X G z9,BO X G z10⟩;have pO:=AEf (P:=l.prog) (w:=w) (base:=base) jZ T;have mG:=AGT (P:=l.prog) (w:=w) (mg:=mg) (base:=base) oY;have qD:=AGF (P:=l.prog) (w:=w) (base:=base) ou T;have qF:=AGk (P:=l.prog) (w:=w) (mg:=mg) (base:=base) oM;have qG:=AGH oG T ⟨qF,oN,oR,oO⟩;have gJ:=JD jT T ⟨qD,oA,oF,oE⟩ ⟨qG,oH,oK,oJ⟩;have aq:=ADm (P:=l.prog) (w:=w) (base:=base) jU T;have aD:=ADl (P:=l.prog) (w:=w) (base:=base) jV T;have p7:=AHW (P:=l.prog) (w:=w) (base:=base) qu T;have jH:=AAb (P:=l.prog) (w:=w) (mg:=mg) (base:=base) dH;have bJ:=Zk dG T aq aj m_size p7 jW jX ⟨jH,dI,dM,dJ⟩;have TS:K32s.Txt K mg Sv:=⟨U_Sv.c,fZ,mj,mq,FA X G U_Sv.y,BO X G z0,BO X G z1,BO X G z2,BO X G z5,BO X G pG,BO X G z6,BO X G z7,BO X G z8,BO X G z9,BO X G aF,BO X G z10,BO X G z4,BO X G bR⟩;have Nd:Dn K mg da:=⟨FA X G y_done,λH=>.inr ⟨_,#[],ndd,jR,rfl,rfl,AY _,.nil⟩⟩;have O:Gro K mg Gw:=⟨U_Gw.c,FA X G U_Gw.y,pF,mC,f9,gj,mD,jG⟩;have qH:=AGl (P:=l.prog) (w:=w) (base:=base) oU T;have mH:=ABK (P:=l.prog) (w:=w) (base:=base) iD T;have mJ:=ADT iu T aq aj m_size aD au aA ⟨qH,oW,k_one,oX⟩;have mQ:=ACJ gW T aq aj m_size ⟨mJ,iw,iC,iB⟩ ⟨mH,iG,iI,iH⟩;have GNone2:=ACV (P:=l.prog) (w:=w) (base:=base) iJ (BO X G aF);have gK:=AFd jY T ⟨mQ,gY,g8,gZ⟩;have mR:=K32s.JD (P:=l.prog) (w:=w) (base:=base) jA TS;have cZ:=K32s.ADe (P:=l.prog) (w:=w) (base:=base) jC TS;have gM:=K32s.AGL (P:=l.prog) (w:=w) (base:=base) lZ TS;have mV:=K32s.ADx (P:=l.prog) (w:=w) (base:=base) jD TS;have qK:=K32s.AHr (P:=l.prog) (w:=w) (mg:=mg) (base:=base) qw;have mW:=K32s.ADg (P:=l.prog) (w:=w) (base:=base) iT TS;have c7:=K32s.ACX iR TS ⟨U_Sv.mk_,bx.at_,bx.fn,U_Sv.kp⟩ ⟨mW,iU,iW,iV⟩ ⟨qK,qy,k_in,qC⟩ mR jB;have gO:=K32s.AFa j7 TS cZ bC bD gM cU cV;have mX:=K32s.AGg oZ TS cZ bC bD gM cU cV;have gP:=ADo j8 T aq aj m_size p7 jW jX;have dj:=ADu (P:=l.prog) (w:=w) (base:=base) j9 T;have cD:Cls K D:=U_D.c;have gQ:=AEU (P:=l.prog) (w:=w) (mg:=mg) (base:=base) lX;have jJ:=Ow (rd:=false) (hf:=noF) d8 T cD (BO X G aF) Nd gQ cP cQ;have mY:=UJ (rd:=false) (hf:=noF) je T cD Nd jJ eF eG aD au aA ⟨dj,cF,cH,cG⟩;have jK:=Px (rd:=false) (hf:=noF) dY T cD Nd gQ cP cQ;have qI:=ADN (rd:=false) (hf:=noF) (P:=l.prog) (w:=w) (base:=base) pA Nd;have pP:=Yd (P:=l.prog) (w:=w) (mg:=mg) (base:=base) lN;have mZ:=Ss (u:=uK false) (D:=D) bG T O aD au aA ⟨gP,cA,cC,cB⟩;have pQ:=Yg (u:=uK false) (C:=C) cW cD O jK dZ d7;have jL:=Jr (u:=uK false) aK T cD O pQ cX cY pP lQ lR mY jf jg qI pC pD ak ao;have m5:=Rx jk T aq aj m_size;have dz:=Uy (rd:=false) aO cD O ⟨U_Gw.mk_,aB.at_,aB.fn,U_Gw.kp⟩ mZ bH jL ak ao m5 jo jq ⟨c7,aL,aN,aM⟩;have kR:Cls K Rd:=U_Rd.c;have dB:=ADh (P:=l.prog) (w:=w) (mg:=mg) (base:=base) jx;have gk:=Ow (rd:=true) (hf:=noF) cM T kR (BO X G aF) Nd dB aY aZ;have jM:=UJ (rd:=true) (hf:=noF) eN T kR Nd gk cN cO aD au aA ⟨dj,cF,cH,cG⟩;have gn:=Px (rd:=true) (hf:=noF) cI T kR Nd dB aY aZ;have pR:=ADN (rd:=true) (hf:=noF) (P:=l.prog) (w:=w) (base:=base) lU Nd;have m7:=Yd (P:=l.prog) (w:=w) (mg:=mg) (base:=base) jr;have jN:=Ss (u:=uK true) (D:=Rd) bG T O aD au aA ⟨gP,cA,cC,cB⟩;have m8:=Yg (u:=uK true) (C:=C) cW kR O gn cJ cL;have gq:=Jr (u:=uK true) aK T kR O m8 cX cY m7 jt ju jM eU fj pR lV lW ak ao;have jO:=Rx fD T aq aj m_size;have bQ:=Uy (rd:=true) aO kR O ⟨U_Gw.mk_,aB.at_,aB.fn,U_Gw.kp⟩ jN bH gq ak ao jO fJ fQ ⟨c7,aL,aN,aM⟩;have gU:=ABh lY ⟨bJ,aG,aJ,aH⟩ ⟨GNone2,iK,iQ,iM⟩ ⟨gK,bW,bZ,bY⟩;have dD:=ABf jy T ⟨bJ,aG,aJ,aH⟩ aq aj m_size ⟨gK,bW,bZ,bY⟩;have pU:=ACm kj T ⟨mG,gw,gC,gA⟩;have pW:=AEx kO ⟨mG,gw,gC,gA⟩ ⟨pU,kE,kJ,kI⟩;have pX:=ACz (P:=l.prog) (w:=w) (base:=base) lg T;have jP:=AAR (P:=l.prog) (w:=w) (base:=base) dN T;have dF:=ABm (P:=l.prog) (w:=w) (base:=base) iY T;have pY:=AEw lD T ⟨jP,dR,dX,dU⟩ ⟨pX,lu,lC,lA⟩;have m9:=Ug aX cD gU cR cT ⟨mX,gF,gH,gG⟩;have jQ:=Ug aX kR dD bf bw ⟨mX,gF,gH,gG⟩;have pZ:=AFQ lH T ⟨U_C.mk_,aC.at_,aC.fn,U_C.kp⟩ cD kR gJ bV dz ⟨bQ,aP,aR,aQ⟩ ⟨gO,cg,cu,cj⟩ gU cR cT dD bf bw ⟨dF,aU,aW,aV⟩;exact AGR pN T TS ⟨U_C.mk_,aC.at_,aC.fn,U_C.kp⟩ cD ⟨p8,qd,qe,qg,qj⟩ qm kR ⟨nu,nF,nG,nO,nQ⟩ nZ (FA X G qJ) U_D.mk_ qt U_D.kp (FA X G U_D.y) U_Rd.mk_ oh U_Rd.kp (FA X G U_Rd.y) ⟨pO,j4,j6,j5⟩ ⟨pW,kW,kZ,kY⟩ gJ bV dz ⟨bQ,aP,aR,aQ⟩ ⟨gO,cg,cu,cj⟩ ⟨dF,aU,aW,aV⟩ ⟨pZ,lJ,lM,lK⟩ ⟨pY,lE,lG,lF⟩ m9 ⟨jQ,iZ,jd,jc⟩ mV jE jF
 exact⟨_,λs v=>.of_eq rfl,λbase _ _=>law_all base⟩
theorem walk{l:Ps}{q:AL}{d:DefRec}{K:X6->Ap}(hn:l.most=uA 63)(tX:d.params.defaults=[])
  (hY:∀(w:AQ) (h:Heap),YP w h->(K w.params).In h)
  (F:∀(w:AQ) (mg:Str->Option As) (fa:Addr) (h:Heap),(K w.params).In h->h.Ns DD mg->mg d.name=uA (.ref fa) ->
   ∃fd:Bn,(∀(s:AA) (u:As),QA s fd ⟨[u],[]⟩ [("_law_script",u)])/\∀base:Heap,(K w.params).In base->base.Ns DD mg->FnOk l.prog w (K w.params) mg base CX0 20 fa fd ["_law_script"] (Uj (K w.params))) :
  WH q c5 XP YP l.row.toRowW d [] (λf vs=>U4 f vs) :=
 L2.AEt (n:=63) (k:=20) (x:="_law_script") (CX:=λ_=>CX0) (sp:=λw=>Uj (K w.params)) hn (by decide) tX ⟨rfl,by decide,by decide,rfl⟩ hY F (λ_ _ a ns hl _ hS=>⟨a,ns,rfl,hS,hl,λ_=>rfl⟩) λ_ _ _ _ _ z=>z
end K32
open PySem PySem.W PyProof.Rows
set_option maxRecDepth 100000 in
set_option maxHeartbeats 0 in
theorem PySem.Challenge.cw_frontways_k32_whole_rings_holds : PySem.Challenge.rw_frontways_k32_whole_rings.Holds := by
 w_on;o_law;k_head;(case hw=>w_witness2)
 k_fill
 refine K32.walk (l:=PySem.Challenge.rw_frontways_k32_whole_rings) rfl rfl (λw h Y=>PySem.W.kIn_of Y) ?F
 case F =>
  intro w mg fa h KX G hmg;apply K32.all_mk KX G hmg
  all_goals first
   | (refine' L2.Df.of ?a ?l ?c ?k;(case a=>k_is);(case l=>k_is);(case c=>k_is);(case k=>k_is))
   | (refine' L2.Md.of ?a ?i ?l ?c ?k;(case a=>k_is);(case i=>k_is);(case l=>k_is);(case c=>k_is);(case k=>k_is))
   | (refine' L2.Kl.of ?y ?a ?b ?c ?d ?m ?k;(case y=>k_is);(case a=>k_is);(case b=>k_is);(case c=>k_is);(case d=>k_is);(case m=>k_is);(case k=>k_is))
   | ((first| refine L2.Nn.one ?_ ?_| refine L2.Na.one ?_ ?_);(repeat' first| exact True.intro| refine L2.Nn.one ?_ ?_| refine L2.Na.one ?_ ?_);all_goals k_is)
   | k_is| kit_is
