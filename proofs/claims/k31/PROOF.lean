import PyProof.Rows.All
import Wide.All
import OpenK.AllK
import Wide.FinOn
import PyProof.EqAt
import PyProof.EqKinds
import PyProof.NeKinds
import PyProof.TupleCall
import KE.KIsAll
import KE.KIsNot
import KE.RegKIsAll
import OpenK.KOwn
import PyProof.NsDelKeeps
import PyProof.ReprRoads
import PyProof.ExcArgsOwn
import PyProof.IsiH_list
import Lean
import PyProof.StationsW
import PyProof.Rows.Catch
import OpenK.KMake
import PyProof.DictIter
import KE.KDictList
import PyProof.DictItems
import PyProof.DictWalks
import PyProof.TupleOfSeq
import PySem.SetTable
import PyProof.SetKind
import PyProof.IsRules
import PyProof.Rows.SetFrom
import PyProof.FactsAll.set
import KE.KSortTup
import PyProof.Meets
import PyProof.AutoListH
import PyProof.ListMulRoad
import PyProof.FactsAll.tuple_2
import Wide.Seal
import PyProof.Rows.Range3
import PyProof.CallType
import PyProof.EnumMake
import PyProof.Rows.CallKwBuiltin
import KE.LcSums
import KE.KRevIter
import PyProof.Rows.SortLt
import PyProof.SetRoads
import PyProof.ZipIter
import PyProof.Rows.FactsT2
import PySem.Challenge.RW_frontways_k31_whole_ways
set_option linter.all false
set_option autoImplicit false
set_option Elab.async false
set_option maxRecDepth 100000
set_option maxHeartbeats 4000000
set_option maxHeartbeats 8000000
set_option tactic.hygienic false
universe u
noncomputable section
set_option compiler.extract_closed false
theorem zA0(h:True:=by rfl):True:=h
theorem zA1(h:True:=by decide):True:=h
theorem zA2(h:True:=by intro _;rfl):True:=h
open Option renaming some->uA,none->uB
def uC{c:Prop}{h:Decidable c}(n:¬c){α:Sort u}{t e:α}:ite c t e=e:=if_neg n
def uD{c:Prop}{h:Decidable c}(n:c){α:Sort u}{t e:α}:ite c t e=t:=if_pos n
def uE{p:Prop}[Decidable p](h:p):decide p=true:=decide_eq_true h
def uF{p:Prop}[Decidable p](h:¬p):decide p=false:=decide_eq_false h
def uG{p:Prop}[Decidable p](h:decide p=true):p:=of_decide_eq_true h
def uH{a b:Prop}(h:a)(k:¬a):b:=(k h).elim
abbrev uI:=List Int
abbrev uJ:=List uI
abbrev uL:=List Nat
abbrev uQ:=List (PySem.Addr×PySem.Obj)
abbrev uU:=List PySem.Str
abbrev uV:=List PySem.Expr
abbrev uX:=Option Nat
abbrev uY:=List PySem.Addr
open PySem.W renaming Frag->As,mg_none_of->BS,keepIn->DI,findIn->DL,emptyDict->E6,fnOf->Fm,mg_of->FD,instObj->F7,nsIn->G7,codeIn->IH,plainGet->KL,hasDictIn->LV,isFn->MU,makesIn->MV,plainGet_of->No,lookIn->NF,callWith_K->NX,plainOver->OE,takerIn->Pp,OpenLaw->Pw,cellsFrom_some->P4,methodCall_KW->QH,kitOne->Q5,handedIn->T6,WalkO->WB,kas_item->X6
open PySem renaming wpAny_bind->Au,Value->AA,Shared->AC,wpAny_pure->AE,Program->AM,model->AN,World->AS,FuncData->Bz,Paired->BN,Around->B0,starEach->CC,boot_len->CI,cLine->C2,SetTable->Db,mainGlobals->DC,wpAny_newObj_type->DU,wpAny_call_entry->D5,compareOp->D8,wpAny_holding->Ee,sysModules->Eg,codeAny_builtin->EA,wpAny_mono->EI,wpAny_setState_of->FI,codeAny_mono->FM,wpAny_forIn_list->FS,Scope->F5,sizeLine_eq->F6,wpAny_truthy_bool->G9,wpAny_typeNameOfWhole_keyiter->Hd,rawInt->He,mem_of_lookup->Hk,binaryOp->HK,wpAny_Call_Name_kw->HQ,wpAny_passesOwn->HZ,wpAny_specialOf->Ic,wpAny_rule->IE,wpAny_setField->IJ,bootBuiltins->IL,NameKind->IM,wpAny_typeNameOf_keyiter->IN,wpAny_isInstance->IP,behindInMarks->JE,plainId_quiet->JJ,backTo->JO,atKey->JY,wpAny_seqItems->Kk,firstArgMember->Kt,assignEach->KI,wpAny_askSetting->KS,attributeBase->K0,sliceBounds->K2,wpAny_ite_split->K8,wpAny_pyIter_tuple->Ll,tupleKind_room_in1->LF,intKind->LL,wpAny_dictEntries->L4,pyNext->L8,wpAny_of_eq->Mc,swapsWith->MD,isSubtype_tuple_tuple->ML,wpAny_execs_nil->MS,letOwnedTupleGo->MT,wpAny_typeOf->M3,tupleKeyHash->M6,holding->NE,wpAny_runValue->NH,tupleKind->NS,DictEntry->N0,wpAny_tupleItemsOf->N4,wpAny_newList->N9,wpAny_attempt->Op,setSearchFrom->Oy,wpAny_pyIter_list->OB,foldedSetIterable->OC,wpAny_pyIter_enum->OF,wpAny_pyIter_slot->OG,call_meets->OL,getItem->OS,callerA->OT,valueAt->OU,wpAny_execs_cons->OW,concat_meets->OY,noFill_tuple_add->OZ,wpAny_comprehension_free->O0,wpAny_dictEpoch->PD,wpAny_updateSeq->PM,wpAny_pyNext_range_end->PV,wpAny_pyIter_rangeiter->PY,keywordEach->P3,subscripted->P6,wpAny_field->P8,wpAny_Assign_Subscript->P9,wpAny_isTrue_Compare1->Qr,pyIter->QA,BindsTo->QE,collect->QI,wpAny_fieldsOf->QO,wpAny_isOneOf_keyiter->QP,wpAny_eqIsQuiet_tuple->QU,builtinLookup_eq_fast->QY,isSubtype_type->Q0,wpAny_load->Q6,bindL->Q7,bindC->Q8,numAt->Rs,reduceHash->RA,wpAny_standAt->RH,rangeSize_one->RI,seq_tuple_add->RO,wpAny_handled->RR,wpAny_setEntries_of->Sb,Within->Sr,assign->Sz,wpAny_pyIter_range->SA,getMethod->SC,IsEnum->SF,wpAny_getItem_heap->SK,wpAny_setItem_heap->SL,call_meetsIn->SO,wpAny_pyHash_tuple->SR,wpAny_eqBool_tuple->SS,eqIsQuiet->SU,pickOrder->SY,storedH->S8,wpAny_assign_Name->Tb,slot_list_getitem->Th,eqIsQuiet_byValue->Tl,ofAClassStatement->To,searchCouldBeSeen->Ts,wpAny_storeSet_of->Tu,seqIndex_of->TJ,wpAny_throw->TL,wpAny_pyHash_int->TZ,wpAny_eqBool_int->T3,GenState->T4,bindArgs->T7,backToKw->T8,numAt_eq->UC,beq_builtin_none->UF,wpAny_pyIter_zip->UM,builtinsNs->UO,isTrue->UP,wpAny_Name->UQ,CmpOp->UR,Result->UT,wpAny_call->UU,call->UY,IsTupleKey->U0,wpAny_ret_mkInt->U1,isInstance->U2,codeAny_of_tree->U6,typeLookup_type->U8,setsByText->U9,standAt->VQ,setItem->VS,recursionLimit->VU,Keyword->VX,isSubtype_stop->V2,carriedByValue->V4,small_one->V7,cellsFrom->V8,Model->WN,data2->W4,Params->XW,compEnvC->XX,setRelay->XZ,entryFor->X1,argsOk->X3
open List renaming length_map->AB,getD_eq_getElem?_getD->AD,getElem?_eq_some_iff->AG,getElem?_eq_getElem->AI,mem_cons_self->AJ,mem_cons_of_mem->AK,range->AR,mem_of_getElem?->AT,getElem?_map->AU,size_toArray->AV,mem_cons->AW,mem_range->AZ,mem_map->A7,getElem?_append_left->Be,length_append->BF,map_append->BG,mem_filter->BO,mem_singleton->B2,length_take->B4,map_cons->B8,append_nil->Cc,length_range->Cf,mem_append->Co,pairwise_cons->Cs,mem_append_right->Ct,getElem?_append_right->CH,pairwise_iff_getElem->CL,filter_append->CM,length_eq_zero_iff->CO,length_filter_le->CS,take_length->CU,pairwise_map->C0,mem_iff_getElem->C4,append_assoc->C5,pairwise_append->C9,not_mem_nil->Da,filter_cons_of_neg->Dx,mem_iff_getElem?->DD,nodup_cons->DM,length_cons->DS,filter_cons_of_pos->DT,take_add_one->D9,mem_append_left->Ev,lookup_cons->EE,filter_cons->EF,length_singleton->EK,getElem?_eq_none->EL,length_erase_of_mem->EM,length_set->EU,all_eq_true->EW,getElem?_range->E7,range_succ->Fa,mem_of_mem_erase->Ff,getElem_mem->FA,length->FC,lookup->FL,drop_eq_nil_of_le->FO,length_drop->FU,take_append_drop->F4,getElem?_take_of_lt->F9,find?_cons->Go,map_map->G0,reverse_reverse->G6,ext_getElem?->Hc,mem_map_of_mem->Hm,map_congr_left->Hn,reverse_append->HG,map_eq_nil_iff->HH,nodup_range->HL,mem_reverse->HM,perm_append_comm->Iq,drop_sublist->IB,mem_erase_of_ne->IF,filterMap_cons->IT,length_pos_iff->IX,pairwise_singleton->Jn,any_cons->JI,length_nil->JS,map_singleton->JU,getElem?_set_self->J3,pairwise_lt_range->J4,take_sublist->J7,getElem_take->J8,getElem?_inj->J9,getElem?_set_ne->KG,perm_cons_erase->KP,filter_map->K7,drop_eq_getElem_cons->K9,map_nil->Lv,toArray->LI,nodup_nil->LM,Nodup->LN,reverse_cons->LX,nodup_append->L7,length_pos_of_mem->Me,filter_eq_nil_iff->Mm,take_of_length_le->Mn,length_eq_one_iff->My,getElem_map->MB,pairwise_reverse->MM,mem_of_mem_take->M9,length_eraseIdx->Nc,take_succ_cons->NC,mem_filterMap->NV,getElem?_drop->N5,getElem_drop->OH,reverse_perm->OI,getLast?_eq_none_iff->ON,getLast?_eq_some_iff->OO,cons_append->O3,map_set->O9,getElem?_replicate->Pe,of_mem_zip->Ps,foldl_cons->PF,filter_nil->PH,drop_drop->Q2,take_zero->Q3,getElem_toArray->Re,mem_of_mem_drop->RC,map_take->RU,map_drop->RY,length_reverse->R9,filter_sublist->Sa,getElem_of_mem->Se,perm_iff_count->Sf,zip_cons_cons->SE,extract->S3,all_map->S4,mapM_toArray->Tx,getElem_inj->T5,nil_append->VE,replicate->VW,take->We,all_cons->WA,map_id'->X5
open Nat renaming le_refl->AF,zero_le->By,le_trans->BV,ne_of_lt->BY,lt_of_lt_of_le->CF,le_of_lt->C1,lt_or_ge->DA,add_sub_cancel->D2,lt_of_le_of_lt->EV,lt_succ_self->Fk,lt_irrefl->FB,le_add_right->HI,sub_self->IQ,lt_succ_of_lt->Ki,pow_le_pow_right->KM,not_lt_zero->K4,zero_add->Lc,lt_trichotomy->L5,le_of_eq->MQ,add_le_add_right->MR,pow_succ->M7,mod_lt->M8,le_succ->NN,eq_of_lt_succ_of_not_lt->NO,le_succ_of_le->OK,zero_lt_succ->OV,lt_of_lt_of_eq->Si,lt_of_le_of_ne->Sm,eq_zero_or_pos->SV,add_zero->SW,one_le_two_pow->S5,le_of_lt_succ->S9,add_sub_of_le->Ta,le_of_not_lt->TU,sub_sub_self->TW,succ_ne_self->UA,div_eq_of_lt->UH,lt_trans->W6,ne_of_gt->W8,succ_pos->XY,not_lt->YO,sub_le->YR
open PyProof.Rows renaming Keyed->AH,wpS_bind->AQ,arrOf->AX,wpS_pure->A8,SortSt->BM,pendingOf->BQ,boot_tuple->De,callWith_type1->DJ,wpS_forRange->DV,elem'->D1,boot_list->EG,wpS_mono->EH,SortKind->ES,seqObj->E9,IntsAre->F0,failedOf->G1,wpS_modify->IG,boot_range->JA,wpS_get->KA,boot_isinstance->KB,boot_sorted->LH,AllBare->MC,boot_min->MO,callWith_builtin1->MX,wpS_lift->NL,envOfC->NY,listUpdate_at->On,reverseSlice'->OA,listItems_at->O2,ltAt'->PQ,subscriptTail_builtinR->P7,boot_all->Q4,gallopOf->RE,Constant_none->RF,IsTup->S7,seqEpoch_at->TR,general'->UI,Call_->US,Subscript_->UV,entry_list_sort->UZ,setArr->VC,keyLt'->VI,wpAny_notIn_heap->VM,isnot_none_gen->VO,boot_enumerate->VZ,slot_list_sort->V0,args_list_sort->V1,keyLt'_oneType->V5,boot_max->YI,lt_int->Y0
open PySem.Heap renaming get?_push_of_some->AL,get?_push_size->A2,lt_size->BH,get?_update_self->EJ,SameBut->EX,get?_update_other->EZ,size_push->FY,ExtBut->TK
open Option.some renaming inj->AO
open PySem.Paired renaming length->AY,snoc->TN
open Array renaming length_toList->A1,getElem?_eq_getElem->Bn,getElem?_toList->Cb,getElem?_eq_some_iff->C8,toList_append->DF,getD->ED,getElem?_eq_none->E3,toList_extract->G5,getD_eq_getD_getElem?->HU,perm_iff_toList_perm->IA,size_setIfInBounds->IR,forIn_toList->J0,toList_push->Kb,toList_reverse->KU,getElem_mem_toList->O6,eraseIdxIfInBounds->O7,toList_map->O8,toArray_toList->Rc,toList_modify->Sc,toList->Su,getElem_mem->TB,toList_inj->UK,replicate->U3
open PySem.Value renaming ref->A9,type->C3,none->DE,isInt_shape->G8,bool->KF,isInt->NM,int->NR,isStrOf->Wp,str->Y3
open Ne renaming symm->Bi
open Bool renaming false_ne_true->BI,false_eq_true->B7,eq_iff_iff->Ex,not_true->FR,and_eq_true->FV,beq_eq_decide_eq->MG,false_and->VT,and_false->VY,not_false->V3,and_true->WC,false_or->WF,or_false->WJ
open ForInStep renaming done->BU,yield->C6
open Int renaming toNat_natCast->Cn,emod_lt_of_pos->DB,toNat_of_nonneg->DH,emod_nonneg->EC,le_trans->ET,toNat->Fh,eq_ofNat_of_zero_le->FH,le_of_lt->FK,le_refl->HP,not_lt->J1,fdiv_eq_ediv_of_nonneg->N8,lt_irrefl->R7,natCast_nonneg->Sj,zero_add->Sk,emod_eq_of_lt->TD,mul_one->TH,ofNat_lt->W7
open Classical renaming byContradiction->CD,choose->Fu,choose_spec->F3,propDecidable->Pl
open PySem.PassesOwn renaming never->CY
open PySem.NameKind renaming free->C7,cell->Ix
open PySem.F renaming plainAttrs_list->Do,slot_list_append->EN,type_list_append->EO,slot_dict_keyiterator_next->FE,slot_tuple_iterator_next->Iy,called_set->IS,plain_list_iadd->IY,slot_tuple_hash->IZ,slot_tuple_eq->Kx,args_tuple_add_2->Lu,entry_tuple_add->LU,slot_tuple_add->L9,slot_tuple_lt->ME,slot_dict_get->MH,args_dict_keyiterator_next_1->M5,entry_dict_keyiterator_next->Nl,args_tuple_iterator_next_1->NG,entry_tuple_iterator_next->N1,entry_proto_collect->N2,plain_proto_collect->N3,slot_dict_getitem->OM,slot_list_remove->Pc,type_list_remove->Pd,args_tuple_lt_2->Pf,args_dict_get_3->Pm,entry_list_iadd->Po,entry_tuple_lt->P5,entry_dict_get->Qb,slot_dict_len->QQ,slot_set_iter->Q1,slot_dict_iter->UD,plain_set_new->U7
open PySem.Obj renaming mapSeq->DZ,data_mapFields->Fn,isFreed_of_fields->Kn,cls_mapFields->LZ,mapFields->Os,putSet->U4
open PySem.Heap.SameBut renaming update->D7,refl->Y9
open PySem.Around renaming under_plainId->EB,under->OX
open List.Pairwise renaming imp_of_mem->EQ,nil->LY,cons->SH,imp->Zl
open PySem.SetTable renaming insertAt->ER,runEnd->FG,Probe->IU,turns->OP,grown->U5
open False renaming elim->E8
open List.Perm renaming append_left->Fc,refl->LO,swap->LP,append_right->Mo,nodup_iff->NB,trans->PU,cons->QR
open PySem.Builtin.Range renaming rangeSize->FF,small->K3,rangeFitsLong->V9
open Sum renaming inl->FX,inr->OR
open Option renaming isSome_iff_exists->F8,map_eq_some_iff->J5,isSome_map->L3,map_some->M4,isSome_iff_ne_none->OQ,getD_none->T9,none->YA
open PySem.Builtin.List renaming listExtendWith->HR,listTooLong->LD,listLengthHint->N6,listSameRef->O5
open PyProof.Rows.F renaming plain_set_update_loop->HV,entry_set_update_loop->LJ
open True renaming intro->IC
open PySem.Builtin.SmallTypes renaming nextOf->ID
open PySem.Calls renaming spliced_cons->JP,call_function_entry->K5,spliced_nil->LW,callWith_builtin->Mb,Name_function_global->N7,evalArgs_plain->Q9
open PyProof.Rows.SortSt renaming mk'->J2
open PySem.Challenge renaming pw_frontways_k31_whole_ways->J6
open PySem.Str renaming ofString->Kj
open Or renaming inl->KW,inr->NU
open PySem.SetTable.layClean renaming free->K1
open PySem.Builtin.Tuple renaming tupleHashOf->K6,tupleExact->O4,tupleCompareSizes->UN,tupleItemsOf->WH
open PySem.SeqAt.EqAt renaming int_int->Lm,same->M1,none_int->Nw,int_none->NA,int_str->Sn,str_int->So
open Prod renaming ext->LG
open PySem.MeetsSeq renaming plain_remove_loop->L6,entry_remove_loop->TC
open Int.ofNat renaming inj->MA
open PySem.SeqAt renaming EqAt->MY,in_tupleAt->Uf,in_listAt->UX
open PySem.Builtin.Dict_items renaming ownsTuple->NI
open PySem.SetTable.probe renaming go->NJ
open PyProof renaming noPylong_small->P0
open PySem.Builtin.Dict renaming showsAll->QN,dictSlotNone->W5
open List.cons renaming inj->R6
open PySem.Code renaming isFrame->SD,quiet_builtin->SG,frames->Yf
open Eq renaming symm->S6
open PySem.WalksT renaming enumerateD->Tk
open PySem.Builtin renaming sorted->UB
open PySem.Data renaming seq->UE,cell->Wl
open Array.Perm renaming refl->VA
open PySem.Builtin.Frozenset renaming updateFrom->V6,newClass->WI,sizeOf->X4
open PySem.SeqAt.RcNeAt renaming lists_lengths->WE,lists->Y7
open PySem.Shared renaming TypeIs->WG
open PySem.EqNone renaming eq_none_none->WO,eq_none_bool->WP,eq_bool_none->WS,ne_none_none->WZ,ne_none_bool->W0,ne_bool_none->W1,eq_none_int->W9,eq_none_str->Xs,eq_int_none->Xt,eq_str_none->XB,ne_none_int->XG,ne_none_str->XI,ne_int_none->XN,ne_str_none->XT
open PySem.EqMixed renaming eq_bool_str->WU,eq_str_bool->WV,ne_bool_str->W2,ne_str_bool->W3,eq_int_str->XA,eq_str_int->XE,ne_int_str->XO,ne_str_int->XU
open PySem.pickOrder renaming go->X0
open String.Pos.Raw renaming mk_le_mk->X7
open PySem.CmpOp renaming NotIn->X8,In->Zs
open PySem.Walks renaming range->X9,list->YV
open PySem.IsRange renaming new->Ya
open PySem.Moved renaming trans->YE
open PySem.W.WShape renaming has->YU
open PySem.W.Looks renaming here->YY,ld->ZB
open PySem.Heap.IsSliceOf renaming new->Y4
open PyProof.Rows.IsTup renaming new->Y5
open PySem.W.WData renaming int->Y6
open PySem.Within renaming cons->Y8
open List.Sublist renaming refl->Zp
open PySem.Heap.DictOfH renaming new->ZA
open PySem.Heap.DictOf renaming new->ZE
def dl{a b c:Nat}(h0:a<c)(h1:b=c):a<b:=Si h0 h1.symm
def uP{a b c:Nat}:a<c->c<b->a<b:=W6
def uy{a b:Nat}:(↑a:Int)=(↑b:Int)->a=b:=Int.ofNat_inj.mp
def uM{a b:Nat}  : a<=b+a:=Nat.le_add_left a b
def ux{a b c:Nat}:a<c->c<=b->a<b:=CF
def uR{a b c:Nat}:a+c<b->a<b:=Nat.lt_of_add_right_lt
def uN{a b:Nat}:¬b<a->a<=b:=TU
def uT{a b c:Nat}(h0:c=a)(h1:c<=b):a<=b:=le_of_eq_of_le h0.symm h1
def vF{a b c:Nat}:a<c->c=b->a<b:=Si
def xi{a b c:Nat}:a+(c+1)=b->a<b:=by lia
def u6{a b:Nat}:b<=a->¬a<b:=YO.mpr
def u7{a:Nat}  : ¬a<0:=K4 a
def uO{a b:Nat}  : a<=a+b:=HI a b
def fv{a:Nat}  : (0:Int)<=(↑a:Int):=Sj a
def uW{a b c:Nat}(h0:a<b):a<b+c:=Nat.lt_add_right c h0
def va{a b c:Nat}:a<b-c+c->c<=b->a<b:=by lia
def vb{a b:Nat}(h0:b=a):a<=b:=MQ h0.symm
def ww{a b c:Nat}:b<=c->min a b<=c:=by lia
def u8{a b c:Nat}:a+c<=b->a<=b:=Nat.le_of_add_right_le
def vq{a:Nat}  : a<a+1:=Nat.lt_add_one a
def vc{a:Int}  : (0:Int)+a=a:=Sk a
def vd{a b:Nat}:a<b->a=b->False:=by lia
def u3{a b c:Nat}:a<=c->c<b->a<b:=EV
def uz{a b:Nat}:a<b->(↑a:Int)<(↑b:Int):=W7.mpr
def wx{a b:Nat}:(↑a:Int)<(↑b:Int)->a<b:=W7.mp
def xj{a b c:Nat}:a=c->c<=b->a<=b:=le_of_eq_of_le
def vh{a b:Nat}:a<b+1->a<=b:=S9
def vi{a b:Nat}:a<=b->a+(b-a)=b:=Ta
def vO{a b:Nat}:a<b->a<=b:=Nat.le_of_succ_le
def ve{a b:Nat}  : a-b<=a:=YR a b
def wz{a b c d:Nat}:a+(c+b)=d->a+b+c=d:=by lia
def vG{a b:Int}:b<=a->¬a<b:=Int.not_lt_of_ge
def wA{a b:Nat}:a<b+1->¬a=b->a<b:=by lia
def vt{a b c d:Nat}:a+(c+b)<d->a+b+c<d:=by lia
def vf{a:Int}{b:Nat}(h0:(0:Int)<=a)(h1:a<(↑b:Int)):Fh a<b:=(Int.toNat_lt h0).mpr h1
def vj{a b c:Nat}:a+b+c=a+(c+b):=by lia
def u4{a b c:Nat}:a<=b->a<=b+c:=Nat.le_add_right_of_le
def wB{a b:Int}:a<b->a<=b:=FK
def u5{a b:Nat}:1<=a->a<=b->a-1<b:=Nat.sub_one_lt_of_le
def u9{a:Nat}:¬a<=1->2<=a:=by lia
def vP{a:Nat}  : ¬(↑a:Int)<(0:Int):=Int.not_ofNat_neg a
def vw{a b:Nat}:a=b->a<=b:=by lia
def vx{a:Nat}:a<2->a<=1:=S9
def vk{a b:Nat}:a<=b->¬a<b->a=b:=by lia
def vQ{a:Nat}  : 0<a+1:=OV a
def wC{a b:Nat}:a<b+1->¬a<b->a=b:=NO
def xp{a b c:Nat}:b-a=c+1->a<b:=by lia
def xq{a b c d:Nat}:a-b=d+c->a-(b+c)=d:=by lia
def vR{a:Nat}:1<=a->a-1<a:=Nat.sub_one_lt_of_lt
def vS{a b:Nat}:a+2<b->a+1+1<b:=by lia
def vn{a:Nat}  : a<=a:=AF a
def wD{a b c:Nat}:a<c->a-b<c:=Nat.sub_lt_of_lt
def vy{a b:Nat}:a<=b->¬b=a->a+1<=b:=by lia
def vT{a b:Nat}:¬b<=a->a<b:=Nat.lt_of_not_le
def wE{a:Nat}  : 0<a+2:=OV (a+1)
def vU{a:Nat}  : 0<=a:=By a
def wF{a b:Int}(h0:b<a):a≠b:=Bi (Int.ne_of_lt h0)
def vg{a b c:Nat}:a<=c->c<=b->a<=b:=BV
def vH{a:Nat}  : ¬a<a:=FB a
def xr{a b:Nat}:a<=b->b-a=0->a=b:=by lia
def vo{a b:Nat}:a<b->a<=b-1:=Nat.le_sub_one_of_lt
def vA{a:Nat}:¬a=0->1<=a:=Nat.one_le_iff_ne_zero.mpr
def vp{a b:Nat}:a<b->¬a+1=b->a+1<b:=Sm
def vI{a b c:Nat}(h0:a<c):a+b<c+b:=Nat.add_lt_add_right h0 b
def vB{a b:Nat}(h0:b<a):a-(b+1)<a-b:=Nat.sub_succ_lt_self a b h0
def vV{a b c:Nat}:a-(b+c)=a-c-b:=by lia
def wG{a:Nat}:a<=4100->a<=100000:=by lia
def vW{a b c:Nat}:a<min b c->a<b:=by lia
def vX{a:Nat}:2<=a->¬a<=1:=Nat.not_le_of_lt
def vC{a b c d:Nat}:a+d<=c->b<d->a+b<c:=by lia
def vD{a b c:Nat}(h0:a<=c):a+b<=c+b:=MR h0 b
def xt{a b c:Nat}:a=c->c<b->a<b:=lt_of_eq_of_lt
def vY{a b c:Nat}(h0:a<c+b)(h1:b<=a):a-b<c:=Nat.sub_lt_right_of_lt_add h1 h0
def wH{a:Nat}  : 1<a+2:=Nat.one_lt_succ_succ a
def vJ{a b:Nat}:a >= b->¬a<b:=YO.mpr
def vZ{a b c:Nat}(h0:c<b)(h1:c=a):a<b:=lt_of_eq_of_lt h1.symm h0
def v5{a:Nat}:a<=1->a=0\/a=1:=Nat.le_one_iff_eq_zero_or_eq_one.mp
def wI{a b:Nat}:a<=b->a<b+1:=Nat.lt_succ_of_le
def v6{a:Nat}:a<2->a=0\/a=1:=by lia
def vE{a b:Int}:¬b<=a->a<b:=Int.lt_of_not_ge
def wJ{a b c:Nat}:a<=c->a-b<=c:=by lia
def wK{a b c:Nat}:a<b+1-c->a<=b-c:=by lia
def vK{a b:Nat}:a<=b->¬a=b->a<b:=Sm
def wL{a b:Nat}:a<=b->a >= b->a=b:=Nat.le_antisymm
def vL{a b c:Nat}:b<=a/\a<b+c->a-b<c:=by lia
def vM{a:Nat}:a >= 2->¬a<=1:=by lia
def xu{a b c:Nat}:a<min c b->a<b:=by lia
def xw{a b c d:Nat}:a=c-d->c<=b+d->a<=b:=by lia
def xx{a b:Nat}:a<=b->b<=a->a=b:=by lia
def xA{a b:Nat}:a≠0->a<=b->a-1<b:=by lia
def xB{a b c:Nat}:a<=b->c<a->a-1<b:=by lia
def wM{a:Nat}  : a*2=a+a:=Nat.mul_two a
def v7{a b c:Nat}:a<c-2+2->c<b+1->¬c<=1->a<b:=by lia
def xC{a b c d e:Nat}:c<d->c=e->d=e->a=b:=by lia
def xD{a b c:Nat}:b<=a->¬b+c<a->¬b+c=a->a-b<c:=by lia
def xE{a b c d e:Nat}:d+e<=c->d=a->e=b->a+b<=c:=by lia
def xF{a b:Nat}:b<=a->a-(a-b)=b:=TW
def wN{a b:Nat}:b<=a->a-b+b=a:=Nat.sub_add_cancel
def v8{a b:Nat}:2<=a->a<=b->a-1<b:=by lia
def v9{a b:Nat}(h0:a<b):0+a<b:=(Nat.add_lt_of_lt_sub' h0)
def xG{a b:Nat}:a<b+1->a≠0->a-1<b:=by lia
def xH{a b:Nat}:a+1<=b->a<b:=Nat.lt_of_succ_le
def wa{a b c:Nat}(h0:a<b+c)(h1:b<=a):a-b<c:=Nat.sub_lt_left_of_lt_add h1 h0
def wb{a b c:Nat}:c+a<=b->a<=b-c:=Nat.le_sub_of_add_le'
def wc{a b c:Nat}:a+c<=b->a+(b-a)=b:=by lia
def xI{a:Nat}  : 0+a=a:=Lc a
def xJ{a:Nat}  : ¬a>a:=FB a
def xK{a b:Int}:b<a->¬a<b:=Int.lt_asymm
def xL{a:Nat}:2<=a->(↑a:Int)-(2:Int)=(↑(a-(2:Nat)):Int):=by lia
def xM{a b c d:Nat}:(↑a:Int)-(↑c:Int)=(↑d:Int)->a<b+(c+1)->¬b=d->a<b+c:=by lia
def xN{a b c d e:Nat}:(↑b:Int)-(↑c:Int)=(↑d:Int)->a=e->e<d->a<=b:=by lia
def xO{a b:Nat}:a<=b->a<Fh ((↑b:Int)+(1:Int)-(2:Int))+(2:Nat):=by lia
def xP{a b c d:Nat}:a<c-d+d->c<=b->d<=c->a<=b:=by lia
def xQ{a b:Nat}:2<=b->a<b+Fh ((↑a:Int)-(1:Int)):=by lia
def wO{a:Int}{b:Nat}{c:Int}:(0:Int)<=c->a<(↑b:Int)->c<(↑b:Int)->Fh a<b:=by lia
def wP{a b c:Nat}  : a+(b+c)=a+b+c:=S6 (Nat.add_assoc a b c)
def xR{a:Nat}  : a+1≠0:=Bi (Nat.zero_ne_add_one a)
def xS{a b c d:Nat}:a+(c+b)=d->a+b+(c+b-b)=d:=by lia
def wQ{a b c:Nat}:a<c->c<=b->a<=b:=by lia
def xT{a b:Nat}:b<a->(0:Int)<(↑a:Int):=by lia
def we{a:Nat}:a<=12->a<=1000:=by lia
def wR{a:Int}:a<=(1000:Int)->Fh a<=(1000:Nat):=Int.toNat_le.mpr
def wS{a b c:Nat}:a<=c+1->c<b->a<=b:=by lia
def wT{a b c d e:Nat}:a+e<=d->b<e->a+b-c<d:=by lia
def xU{a b:Nat}:a<b->min a b=a:=by lia
def xV{a b:Nat}:a+b=b+a:=by lia
def wg{a:Int}:(0:Int)<=a->(↑(Fh a):Int)=a:=by lia
def xW{a b:Nat}:a<b->(0:Int)<=(↑a:Int)/\(↑a:Int)<(↑b:Int):=by lia
def xX{a b c d e:Nat}:a+3*(c+b)+d<e->a+b+3*c+d<e:=by lia
def xY{a b c:Nat}:c<b->c=a->a<=b:=by lia
def wU{a b:Int}:b<=a->-a<=-b:=Int.neg_le_neg
def vN{a:Nat}:2<=a->1<=a:=by lia
def wV{a:Nat}:2<=a->¬a-1=1->2<=a-1:=by lia
def xZ{a b:Nat}(h0:a<b+1)(h1:b<=a):a=b:=Nat.eq_of_le_of_lt_succ h1 h0
def wW{a b c d:Nat}:a<=b+d->a<=b+c+d:=by lia
def wX{a b c:Nat}:a=c->¬b<c->a<=b:=by lia
def wY{a b c d:Nat}:a<b+d->d<=c->a<b+c:=by lia
def wZ{a b c d:Nat}:a<c-d+d->c<b+1->c >= d->a<b:=by lia
def x5{a b:Nat}:¬a<=b->¬a<b:=by lia
def x6{a b:Nat}:¬a<=b->¬a=b:=by lia
def w4{a b c d:Nat}:a<=c->c=b-1->d<b->a+1<=b:=by lia
def w6{a b c d:Nat}:b=min (c-a) d->¬a >= c->a+b<=c:=by lia
def x8{a:Nat}:(↑a:Int)+(1:Int)=(↑(a+(1:Nat)):Int):=by lia
def w9{a b c:Nat}:a<b-c+c->c<=b->a+1+(b-a-1)=b:=by lia
def wj{a:Nat}:(↑a:Int)=(1:Int)->a=1:=by lia
def wm{a b:Nat}{c:Int}:c<(↑b:Int)->c=(↑a:Int)->a<b:=by lia
def x9{a b c:Nat}:a<=min b c->c<=12->a<=1000:=by lia
def ya{a b c:Nat}:b<a->¬(a<=b/\b<c):=by lia
def yb{a b c:Nat}:a<b+(c+1)->¬a<b+c->a=b+c:=NO
def yc{a b c:Nat}(h0:c<=b):a-b<=a-c:=Nat.sub_le_sub_left h0 a
def yd{a b:Nat}:¬a+b<b:=by lia
def ye{a b c:Nat}(h0:b<c):a+b<a+c:=Nat.add_lt_add_left h0 a
def yf{a:Int}{b c:Nat}(h0:a=(↑c:Int))(h1:c=b):a=(↑b:Int):=S6 (Nat.ToInt.of_eq rfl h0.symm h1.symm)
def yg{a b:Nat}:a<=b->(↑a:Int)-(↑b:Int)<=(0:Int):=by lia
def yh{a b:Int}:a<(0:Int)->max (0:Int) (min (a+b) b)=(↑(Fh (a+b)):Int):=by lia
def yj{a:Int}{b:Nat}:max (0:Int) (min a (↑b:Int))=(↑(min (Fh a) b):Int):=by lia
def yk{a b c:Nat}:b<=a->c<=b->a-(b-c)=a-b+c:=by lia
def ym{a b:Nat}(h0:a<=b):a=b-(b-a):=S6 (TW h0)
def yp{a b:Nat}:a<b-1+(b-(b-1))->b-1<=a->a=b-1:=by lia
def yq{a b c:Nat}(h0:b<=c)(h1:c<=a):a-b=a-c+(c-b):=S6 (Nat.sub_add_sub_cancel h1 h0)
def yr{a b c:Nat}:a<c+(b-c)->c<=b->a<b:=by lia
def yt{a b c d e:Nat}:a+c+d<=e->b<=a->a-b+c+(d+b)<=e:=by lia
def yu{a b c d:Nat}:2<=b->a+b+c<=d->a+(b-1)+(c+1)<=d:=by lia
def yv{a b c d e:Nat}:a+c+d<=e->a-b+c+d<=e:=by lia
def yw{a b:Nat}:a<b->0+a<=b:=by lia
def yx{a b c:Nat}:a<c->¬c-b>0->a<b:=by lia
def yy{a b:Nat}:a<=b->0+a<=b:=by lia
def yA{a b c d:Nat}:a<=c+d->a+b<=c+(d+b):=by lia
def yB{a b c d:Nat}:a<=c+d->a+b<=c+b+d:=by lia
def yC{a b:Nat}:a<b->a+1+(b-(a+1))<=b:=by lia
def yD{a b c:Nat}:a<=b->b<c->a+(b-a)<c:=by lia
def yE{a b c d:Nat}:a<c->b+d<=a->a-b<c-b:=by lia
def yF{a b c d:Nat}:a+d<=b->b<c->a+(b-a)<c:=by lia
def yG{a:Nat}:¬a>0->a=0:=Nat.eq_zero_of_not_pos
def yH{a b c:Nat}:a+c<b->a+(b-a)<=b:=by lia
def yI{a b:Nat}:a<=b->a+0<=b:=X7.mp
def yJ{a:Nat}:(↑a:Int)=(↑((0:Nat)+a):Int):=by lia
def yK{a b c d:Nat}:a<b+c->b+d<=a->a-b<c:=by lia
def yL{a b c d:Nat}:a<c->d<b->d=c->a<b:=by lia
def yM{a b c d e:Nat}:a+d<=e->b<=d->c=e->a+b<=c:=by lia
def yN{a b c d:Nat}:b<d->d=c->a+b<a+c:=by lia
def yO{a b c d e:Nat}:c=a+d-e->¬(e<=b/\b<e+c)->¬b<e->a<=b:=by lia
def yP{a b:Nat}:a=b->¬b=0->1<=a:=by lia
def yQ{a:Nat}:2<=a->a<=1->False:=by lia
def yR{a b c:Nat}:b<=c->c<a->a≠b:=by lia
def yS{a b:Nat}(h0:b+1<=a):a≠b:=Bi (BY h0)
def yT{a b c d:Nat}:a-d<=c+1->d<b->a-b<=c:=by lia
def yU{a b c:Nat}:c<b->c=a->a+1<=b:=by lia
def yV{a b c d e:Nat}:a<=d+(c+1)->d=e->e<b->a<=b+c:=by lia
def yW{a b c d e:Nat}:a<=d+c->d=e->e<=b->a<=b+c:=by lia
def yX{a b c:Nat}:a<=b-1->c<b->a<b:=by lia
def yY{a b c:Nat}:b<=c->¬a >= b->a+(b-a) / 2<c:=by lia
def yZ{a b c d:Nat}:a<=b->b-a<=c-max d c->a=b:=by lia
def y4:(0:Nat)<(1:Nat):=by lia
def y6{a:Nat}:0+a<=a:=by lia
def y8{a b c:Nat}:¬b >= c-a->a+b<c:=by lia
def y9{a:Nat}:a<2*a+1:=by lia
def za{a b c:Nat}:a<=c->a+b<=2*c+b:=by lia
def zb{a:Int}{b c:Nat}:(0:Int)<=a/\a<(↑c:Int)->b=c->Fh a<b:=by lia
def zc{a b c:Int}:a<c->c<=b->a<=b:=by lia
def zd{a b c d e f g:Nat}:a<=c->b<=e->e<=f->e<g->d=min f g->a+b<=c+d:=by lia
def ze{a b:Nat}:a>b->a-2<a:=by lia
def zf{a:Nat}:a>1->a-2+1<a:=by lia
def zg{a b c d:Nat}:a<=c->b<=d->a+b<=c+d:=Nat.add_le_add
def zh{a b c:Nat}:b<=c-a->¬a >= c->a+b<=c:=by lia
def zi{a b c:Nat}(h0:c >= a):a+b<=c+b:=MR h0 b
def zj{a b:Nat}(h0:b<=a):a=b+(a-b):=S6 (Ta h0)
def zk{a b c d:Nat}:b<min d (c-a)->a+b<c:=by lia
def zm{a b c d:Nat}:a+d<=c->b>1->b<=d->a+b-1<c:=by lia
def zn{a b:Nat}:1+1<=b->a+b-1<a+b:=by lia
def wo{a b:Nat}:b<a->¬a<b+1:=by lia
def wu{a:Nat}:a<=10->(↑a:Int)<=(10:Int):=by lia
def zo{a:Nat}{b:Int}:a<Fh b->(↑a:Int)<b:=by lia
def zq{a:Nat}{b:Int}{c:Nat}:a<c->c<Fh b->(↑a:Int)<b:=by lia
def zr{a b c:Nat}:b<=a/\a<c->¬a<b:=by lia
def zt{a b c d:Nat}:c=b->d<=a/\a<c->a<b:=by lia
def zu{a b c d:Nat}:a<b->b=c->c<=a/\a<d->False:=by lia
def zv{a:Int}:(3:Int)+a%(5:Int)<=(10:Int):=by lia
def zw{a:Int}:(2:Int)+a%(9:Int)<=(10:Int):=by lia
def zx{a:Nat}:2<=a->(↑a:Int)≠(0:Int):=by lia
def xc{a:Nat}:2<=a->(0:Int)<(↑a:Int):=by lia
def xf{a:Nat}:2<=a->(0:Int)<(↑a:Int)-(1:Int):=by lia
def zy{a b:Nat}:a=b->b<=10->a<=11:=by lia
def xg:(0:Int)<=(1:Int):=by lia
def zA{a:Nat}{b:Int}:a=Fh b->b<=(10:Int)->a<=10:=by lia
def zB{a:Int}{b c:Nat}:a<(↑c:Int)->c<=b->a<(↑b:Int):=by lia
def zC{a:Nat}:a<=12->(↑a:Int)<=(1000:Int):=by lia
def zD{a b:Nat}:b<=10->min a b<=(1000:Nat):=by lia
def zE{a:Nat}:1+a=0\/1+a=2->a=1:=by lia
def zF{a b:Nat}:b=b+a->a=0:=by lia
def zG{a:Nat}:a=1->(↑a:Int)=(1:Int):=by lia
def zH{a b:Nat}:b<a->(1:Int)<=(↑a:Int):=by lia
def zI{a:Int}{b:Nat}{c:Int}:a<c->b=Fh c->a<(↑b:Int):=by lia
def zJ{a b:Int}:a<b->a<(↑(Fh b):Int):=by lia
variable{a b d f it D l R p r C dx fa S fP fA fC fS I fR fI fK fT Gc fL fU fB da fG fX fO fH fW fN i1 i2 l1 l2 fE fF fY:PySem.Addr}{c e tg a5 eJ:PySem.Expr}{us vs ag its':List AA}{x name qual q:PySem.Str}{u cd bg pm a7 ct oc dc:AA}{o ob:PySem.Obj}{P prog:AM}{w:AS}{h h' base:PySem.Heap}{α β:Type}{aa:List (PySem.Addr×PySem.Obj)}{s s':AC}{g':Array T4}{t' i j M n lo hi tk k' m z ep hd kl kr i' a9 ia ib ac bc na nb sa l':Nat}{ch fp wr:List PySem.Addr}{A:B0}{E Q:AA->AC->Prop}{pos bh rQ bv p2 bt tp p1 ma:PySem.Pos}{op:UR}{ar body:List PySem.Stmt}{K:As}{st ah bo:BM}{es eC ci:List PySem.Expr}{pl hG:Nat->uX}{mA mg:PySem.Str->Option AA}{ns ms hs:uI}{kw:List (PySem.Str×AA)}{fd ie e7 sZ df lT kR kF cm qg qi nz kS fdX tj sQ fdW qm sN tX rG:Bz}{ps dq own fr:List PySem.Str}{sc scope:F5}{an od:Option PySem.Addr}{oq sl:Array (Option AA)}{T:String}{items:Array AA}{vals:Nat->uI×PySem.Addr}{XP:(PySem.Str->Option AA)->PySem.Heap->Prop}{YP:AS->PySem.Heap->Prop}{B:AA->AA->AA->Option PySem.Addr->AA->AA->List AA->PySem.Sem (List (PySem.Str×AA))}{ix rc ly su:uL}{tn:Nat->PySem.Heap->Prop}{as:uJ}{κ:ES}{ks:List (uI×PySem.Addr)}{ss L:List uL}{owner:Array uX}{hashes:Array Int}{a₀ arr out ky:Array AH}{left:Bool}{E':List (Nat×Nat)}
namespace L2
inductive E2 {α0 α1:Type} (p:α0->α1->Prop):Prop
 | mk (a0:α0) (a1:α1) (h:p a0 a1):E2 p
inductive E4 {α0 α1 α2 α3:Type} (p:α0->α1->α2->α3->Prop):Prop
 | mk (a0:α0) (a1:α1) (a2:α2) (a3:α3) (h:p a0 a1 a2 a3):E4 p
inductive E5 {α0 α1 α2 α3 α4:Type} (p:α0->α1->α2->α3->α4->Prop):Prop
 | mk (a0:α0) (a1:α1) (a2:α2) (a3:α3) (a4:α4) (h:p a0 a1 a2 a3 a4):E5 p
inductive A3 (p0 p1 p2:Prop):Prop
 | mk (h0:p0) (h1:p1) (h2:p2):A3 p0 p1 p2
inductive A4 (p0 p1 p2 p3:Prop):Prop
 | mk (h0:p0) (h1:p1) (h2:p2) (h3:p3):A4 p0 p1 p2 p3
inductive A5 (p0 p1 p2 p3 p4:Prop):Prop
 | mk (h0:p0) (h1:p1) (h2:p2) (h3:p3) (h4:p4):A5 p0 p1 p2 p3 p4
inductive A6 (p0 p1 p2 p3 p4 p5:Prop):Prop
 | mk (h0:p0) (h1:p1) (h2:p2) (h3:p3) (h4:p4) (h5:p5):A6 p0 p1 p2 p3 p4 p5
end L2
namespace L2
open PySem PySem.Spec PyProof.Rows
abbrev Key:=Sum Int Str
def keyIs:Key->AA->Bool
 | .inl k,v=>NM k v
 | .inr x,v=>Wp x v
def keyH(w:AS):Key->Int
 | .inl k=>hashInt k
 | .inr x=>hashStr w x
theorem CJ:∀{k:Key}{v:AA},keyIs k v=true->(∃i t,k=FX i/\v=NR i t)\/(∃x t,k=OR x/\v=Y3 x t)
 | .inl i,v,h=>by
  obtain⟨t,e⟩:=G8 (k:=i) (v:=v) h;exact .inl ⟨i,t,rfl,e⟩
 | .inr x,v,h=>by
  obtain⟨t,e⟩:=Value.isStrOf_shape (x:=x) (v:=v) h;exact .inr ⟨x,t,rfl,e⟩
def Ze(i:Int)(t:Tok):keyIs (.inl i) (.int i t)=true:=by simp[keyIs,NM]
def Zr(x:Str)(t:Tok):keyIs (.inr x) (.str x t)=true:=by simp[keyIs,Wp]
def AGb(a b:Int):decide ((FX a:Key)=FX b)=(a==b):=by
 by_cases e:a=b
 .subst e;simp
 .have h:¬ (FX a:Key)=FX b:=λq=>e (Sum.inl.inj q)
  rw[uF h];exact(beq_eq_false_iff_ne.mpr e).symm
def AGO(a b:Str):decide ((OR a:Key)=OR b)=decide (a=b):=by
 by_cases e:a=b
 .subst e;simp
 .have h:¬ (OR a:Key)=OR b:=λq=>e (Sum.inr.inj q)
  rw[uF h,uF e]
def AGq(a:Int)(b:Str):decide ((FX a:Key)=OR b)=false:=uF (λq=>nomatch q)
def AGv(a:Str)(b:Int):decide ((OR a:Key)=FX b)=false:=uF (λq=>nomatch q)
def CP(prog:AM)(w:AS):PySem.KeyKind prog w Key where
 is:=keyIs
 hash:=keyH w
 inj:=λv a b ha hb=>by
  rcases CJ ha with⟨i,t,rfl,rfl⟩| ⟨x,t,rfl,rfl⟩
  .rcases CJ hb with⟨j,u,rfl,e⟩| ⟨y,u,rfl,e⟩
   .injection e with e1 _;rw[e1]
   .exact nomatch e
  .rcases CJ hb with⟨j,u,rfl,e⟩| ⟨y,u,rfl,e⟩
   .exact nomatch e
   .injection e with e1 _;rw[e1]
 byValue:=λk v h=>by
  rcases CJ h with⟨i,t,rfl,rfl⟩| ⟨x,t,rfl,rfl⟩<;>rfl
 pyHash:=λhv h=>by
  rcases CJ hv with⟨i,t,rfl,rfl⟩| ⟨x,t,rfl,rfl⟩
  .exact TZ h
  .exact wpAny_pyHash_str h
 eqBool:=λhu hv h=>by
  rcases CJ hu with⟨i,t,rfl,rfl⟩| ⟨x,t,rfl,rfl⟩
  .rcases CJ hv with⟨j,u,rfl,rfl⟩| ⟨y,u,rfl,rfl⟩
   .rw[AGb] at h;exact T3 h
   .rw[AGq] at h;exact Sn i t y u _ _ _ _ h
  .rcases CJ hv with⟨j,u,rfl,rfl⟩| ⟨y,u,rfl,rfl⟩
   .rw[AGv] at h;exact So x t j u _ _ _ _ h
   .rw[AGO] at h;exact wpAny_eqBool_str h
 «strs»:=λk x t v h=>by
  rcases CJ h with⟨i,u,rfl,e⟩| ⟨y,u,rfl,e⟩
  .exact nomatch e
  .injection e with e1 _
   subst e1;cases v<;>rfl
def Ry(prog:AM)(w:AS)(i:Int)(t:Tok):(CP prog w).is (.inl i) (.int i t)=true:=Ze i t
def Ue(prog:AM)(w:AS)(x:Str)(t:Tok):(CP prog w).is (.inr x) (.str x t)=true:=Zr x t
inductive V where
 | non| bl (b:Bool)| int (i:Int)| str (x:Str)| byt (b:Array UInt8)| flt (b:UInt64)| ref (a:Addr)| ty (n:String)
 deriving DecidableEq
variable{xs:List L2.V}{v y:L2.V}
def RelV:V->AA->Prop
 | .non,u=>u=DE
 | .bl b,u=>u=KF b
 | .int i,u=>∃t,u=NR i t
 | .str x,u=>∃t,u=Y3 x t
 | .byt b,u=>∃t,u=Value.bytes b t
 | .flt b,u=>∃t,u=Value.float b t
 | .ref a,u=>u=A9 a
 | .ty n,u=>u=C3 n
abbrev Vals:List V->List AA->Prop:=BN RelV
def Vals.length(r:Vals xs us):xs.length=us.length:=AY r
theorem Vals.get:∀{xs:List V}{us:List AA}{i:Nat}{x:V},Vals xs us->xs[i]?=uA x->∃u,us[i]?=uA u/\RelV x u
 | _,_,_,_,.nil,e=>by simp at e
 | _,_,0,_,.cons r _,e=>by simp at e;subst e;exact⟨_,rfl,r⟩
 | _,_,i+1,x,.cons _ t,e=>by
  obtain⟨u,h1,h2⟩:=Vals.get (i:=i) (x:=x) t (by simpa using e);exact⟨u,by simpa using h1,h2⟩
theorem Vals.set{x:V}(r:RelV x u):∀{xs:List V}{us:List AA} (i:Nat),Vals xs us->Vals (xs.set i x) (us.set i u)
 | _,_,_,.nil=>.nil
 | _,_,0,.cons _ t=>.cons r t
 | _,_,i+1,.cons q t=>.cons q (Vals.set r i t)
def Vals.append:∀{xs ys:List V}{us ws:List AA},Vals xs us->Vals ys ws->Vals (xs++ys) (us++ws):=by
 intro xs ys us ws h s
 induction h with
 | nil=>exact s
 | cons r t ih=>exact .cons r ih
theorem Vals.take:∀{xs:List V}{us:List AA} (n:Nat),Vals xs us->Vals (xs.take n) (us.take n)
 | _,_,0,_=>.nil
 | _,_,_+1,.nil=>.nil
 | _,_,n+1,.cons r t=>.cons r (Vals.take n t)
theorem Vals.drop:∀{xs:List V}{us:List AA} (n:Nat),Vals xs us->Vals (xs.drop n) (us.drop n)
 | _,_,0,r=>r
 | _,_,_+1,.nil=>.nil
 | _,_,n+1,.cons _ t=>Vals.drop n t
def RelO:Option V->Option AA->Prop
 | some v,uA u=>RelV v u
 | none,uB=>True
 | _,_=>False
def KV{κ:Type}:List (κ×V)->List (κ×AA)->Prop:=BN λ(p:κ×V) (q:κ×AA)=>p.1=q.1/\RelV p.2 q.2
noncomputable def kV:Key->V
 | .inl i=>.int i
 | .inr x=>.str x
inductive HO where
 | lst (xs:List V)
 | tup (xs:List V)
 | dK (af:List (Key×V))| dT (af:List (List Key×V))
 | set (S:Int->Bool) (n:Nat)
 | ins (C dx:Addr) (fs:List (Str×V))
 | own (x:Addr)
 | xd (fs:List (Str×V))
 | met (f x:Addr)
 | rng (lo hi:Int)
 | frz (o:Obj) (u:HO)
 | tbl (ps:Array AA)
 | ext (φ:Heap->Prop)
abbrev Hp:=Addr->Option HO
variable{H H':L2.Hp}
def upd(H:Hp)(a:Addr)(o:HO):Hp:=λb=>if b=a then uA o else H b
def Ab{o:HO}:upd H a o a=uA o:=by unfold upd;rw[uD rfl]
def Ah{o:HO}(h:b≠a):upd H a o b=H b:=by unfold upd;rw[uC h]
def IW{o u:HO}:upd (upd H a o) a u=upd H a u:=by
 funext b;unfold upd;split<;>rfl
def DP{o u:HO}(h:H a=uA o)(h':H b=uA u)(d:o≠u):a≠b:=by
 intro e;subst e;rw[h] at h';exact d (AO h')
def Ai{o:HO}(h:H a=uA o)(h':H b=uB):a≠b:=by
 intro e;subst e;rw[h] at h';cases h'
section
variable (P:AM)(w:AS)
def ObjOk(H:Hp)(h:Heap)(a:Addr):HO->Prop
 | .lst xs=>xs.length<=sizeLine/\∃(ag:List AA) (n:Nat),Vals xs ag/\h.get? a=uA {cls:=.type "list",data:=.seq ag.toArray n}
 | .tup xs=>xs.length<=sizeLine/\∃ag:List AA,Vals xs ag/\S7 h a ag.toArray
 | .dK af=>af.length<=sizeLine/\(a==Eg)=false/\∃vs,KV af vs/\h.DictOf (CP P w) a vs
 | .dT af=>af.length<=sizeLine/\(a==Eg)=false/\∃xs:List (List Key×Addr×AA),
   BN (λ(p:List Key×V) (q:List Key×Addr×AA)=>p.1=q.1/\H q.2.1=uA (.tup (p.1.map kV))/\RelV p.2 q.2.2) af xs /\
   ∃o es ep,h.get? a=uA o/\o.ExactDict/\o.data=.dict es ep/\es.toList=xs.map (entryOfKey (NS (CP P w)))/\(xs.map (·.1)).Nodup
 | .set S n=>h.SetOf (LL P w) a S n
 | .ins C dx fs=>H dx=uA (.own a)/\fs.length<=1000/\dx≠a/\h.get? a=uA (F7 C dx) /\
   ∃mA,h.Ns1 dx mA/\(∀f,RelO (fs.lookup f) (mA f))/\Sr mA (fs.map (·.1))
 | .own _=>∃o,h.get? a=uA o
 | .xd fs=>∃mA,h.Ns1 a mA/\∀f,RelO (fs.lookup f) (mA f)
 | .rng lo hi=>∃t u v,h.get? a=uA {cls:=.type "range",data:=.fields #[.int lo t,.int hi u,.int 1 v]}
 | .frz o u=>h.get? a=uA o/\ObjOk H h a u
 | .tbl ps=>h.get? a=uA {cls:=.none,data:=.fields ps}
 | .met f x=>h.get? a=uA (PySem.W.methodObj (.ref f) (.ref x))
 | .ext φ=>φ h/\(∃o,h.get? a=uA o)/\∀h1 h2:Heap,φ h1->(∀o,h1.get? a=uA o->h2.get? a=uA o)->φ h2
def HOk(H:Hp)(h:Heap):Prop:=∀a o,H a=uA o->ObjOk P w H h a o
end
section
variable{o:HO}
def ObjOk.lt(x:ObjOk P w H h a o):a<h.objs.size:=by
 cases o with
 | lst xs=>obtain⟨_,_,_,_,e⟩:=x;exact BH e
 | tup xs=>obtain⟨_,_,_,p⟩:=x;exact p.lt
 | dK af=>obtain⟨_,_,_,_,o,_,_,e,_⟩:=x;exact BH e
 | dT af=>obtain⟨_,_,_,_,o,_,_,e,_⟩:=x;exact BH e
 | set S n=>obtain⟨o,_,_,_,e,_⟩:=x;exact BH e
 | ins C dx fs=>obtain⟨_,_,_,e,_⟩:=x;exact BH e
 | own y=>obtain⟨_,e⟩:=x;exact BH e
 | xd fs=>obtain⟨_,⟨_,_,_,e,_⟩,_⟩:=x;exact BH e
 | rng lo hi=>obtain⟨_,_,_,e⟩:=x;exact BH e
 | frz ob u=>obtain⟨e,_⟩:=x;exact BH e
 | tbl ps=>exact BH x
 | met f y=>exact BH x
 | ext φ=>obtain⟨_,⟨_,e⟩,_⟩:=x;exact BH e
def uZ{F G:α->β->Prop}:∀{l₁:List α}{l₂:List β},BN F l₁ l₂->(∀a b,F a b->G a b)->BN G l₁ l₂:=by
 intro l m h f
 induction h with
 | nil=>exact .nil
 | cons r t ih=>exact .cons (f _ _ r) ih
def ObjOk.stay(x:ObjOk P w H h a o)(k:∀b u,(b=a\/H b=uA (.own a))->h.get? b=uA u->h'.get? b=uA u)
  (ho:∀b,H b=uA (.own a)->H' b=uA (.own a)) (ht:∀b xs,H b=uA (.tup xs)->H' b=uA (.tup xs)):ObjOk P w H' h' a o:=by
 induction o with
 | lst xs=>obtain⟨z,ag,n,r,e⟩:=x;exact⟨z,ag,n,r,k _ _ (.inl rfl) e⟩
 | tup xs=>obtain⟨z,ag,r,ob,e,c⟩:=x;exact⟨z,ag,r,ob,k _ _ (.inl rfl) e,c⟩
 | dK af=>obtain⟨z,y,vs,r,ob,es,ep,e,c⟩:=x;exact⟨z,y,vs,r,ob,es,ep,k _ _ (.inl rfl) e,c⟩
 | dT af =>
  obtain⟨z,y,xs,r,ob,es,ep,e,c⟩:=x;exact⟨z,y,xs,uZ r λp q z=>⟨z.1,ht _ _ z.2.1,z.2.2⟩,ob,es,ep,k _ _ (.inl rfl) e,c⟩
 | set S n=>obtain⟨ob,es,ep,t,e,c⟩:=x;exact⟨ob,es,ep,t,k _ _ (.inl rfl) e,c⟩
 | ins C dx fs =>
  obtain⟨d,z,ne,e,mA,⟨od,es,ep,e2,c⟩,r⟩:=x;exact⟨ho _ d,z,ne,k _ _ (.inl rfl) e,mA,⟨od,es,ep,k _ _ (.inr d) e2,c⟩,r⟩
 | own y=>obtain⟨ob,e⟩:=x;exact⟨ob,k _ _ (.inl rfl) e⟩
 | xd fs=>obtain⟨mA,⟨od,es,ep,e,c⟩,r⟩:=x;exact⟨mA,⟨od,es,ep,k _ _ (.inl rfl) e,c⟩,r⟩
 | rng lo hi=>obtain⟨t,u,v,e⟩:=x;exact⟨t,u,v,k _ _ (.inl rfl) e⟩
 | frz ob u ih=>obtain⟨e,q⟩:=x;exact⟨k _ _ (.inl rfl) e,ih q⟩
 | tbl ps =>
  have e:=x;exact k a _ (.inl rfl) e
 | met f y =>
  have e:=x;exact k a _ (.inl rfl) e
 | ext φ=>obtain⟨p,⟨o,e⟩,st⟩:=x;exact⟨st _ _ p λo q=>k _ _ (.inl rfl) q,⟨o,k _ _ (.inl rfl) e⟩,st⟩
def HOk.lt(x:HOk P w H h)(e:H a=uA o):a<h.objs.size:=(x a o e).lt
def HOk.fresh(x:HOk P w H h)(e:h.objs.size<=a):H a=uB:=by
 cases q:H a with
 | none=>rfl
 | some u=>exact uH (CF (x.lt q) e) (FB _)
def HOk.kept(x:HOk P w H h)(k:∀b u,h.get? b=uA u->h'.get? b=uA u):HOk P w H h':=λa o e =>
 (x a o e).stay (λb u _ q=>k b u q) (λ_ q=>q) λ_ _ q=>q
def HOk.laid(x:HOk P w H h)(k:∀b u,h.get? b=uA u->h'.get? b=uA u)(hp:h.objs.size<=a)(new:ObjOk P w (upd H a o) h' a o):HOk P w (upd H a o) h':=λb u e=>by
 have hn:=x.fresh hp;by_cases hb:b=a
 .subst hb;rw[Ab] at e;cases e;exact new
 .rw[Ah hb] at e
  exact(x b u e).stay (λc v _ q=>k c v q) (λc q=>by rw[Ah (Ai q hn)];exact q) λc xs q=>by rw[Ah (Ai q hn)];exact q
end
def Rd(H:Hp)(a:Addr)(u:HO):Prop:=H a=uA u\/∃o,H a=uA (.frz o u)
def Rd.ok{u:HO}(r:Rd H a u)(x:HOk P w H h):ObjOk P w H h a u:=by
 rcases r with r| ⟨o,r⟩
 .exact x a u r
 .obtain⟨_,q⟩:=x a _ r
  exact q
def Mut:Option HO->Prop
 | some (.lst _)=>True
 | some (.dK _)=>True
 | some (.dT _)=>True
 | some (.set _ _)=>True
 | some (.ins _ _ _)=>True
 | some (.ext _)=>True
 | _=>False
section
variable{x e:Addr}{o':HO}
def HOk.write(ok:HOk P w H h)(mu:Mut (H x))(he:e=x\/H e=uA (.own x))(k:∀b u,b≠e->h.get? b=uA u->h'.get? b=uA u)(qQ:∃u,h'.get? e=uA u)
  (new:ObjOk P w (upd H x o') h' x o'):HOk P w (upd H x o') h':=λb u q=>by
 have rY:∀c y,H c=uA (.own y)->c≠x:=λc y r z=>by subst z;rw[r] at mu;exact mu
 have ntup:∀c xs,H c=uA (.tup xs)->c≠x:=λc xs r z=>by subst z;rw[r] at mu;exact mu
 by_cases hb:b=x
 .subst hb;rw[Ab] at q;cases q;exact new
 .rw[Ah hb] at q
  by_cases hbe:b=e
  .have q':H b=uA (.own x):=by
    rcases he with z| z
    .exact uH (hbe.trans z) hb
    .rw[hbe];exact z
   rw[q] at q';cases q';obtain⟨v,hv⟩:=qQ;exact⟨v,by rw[hbe];exact hv⟩
  .refine(ok b u q).stay (λc v hc r=>k c v ?_ r) (λc r=>by rw[Ah (rY c b r)];exact r) λc xs r=>by rw[Ah (ntup c xs r)];exact r
   rcases hc with rfl| hc
   .exact hbe
   .rintro rfl
    rcases he with z| z
    .exact rY c b hc z
    .rw[hc] at z;cases z;exact hb rfl
end
structure Un(fs ex:uY)(H H':Hp)(h h':Heap):Prop where
 keep:∀b o,h.get? b=uA o->H b=none->b∉fs->b∉ex->h'.get? b=uA o
 slot:∀b o,h.get? b=uA o->H b=none->b∈fs->b∉ex->∃sl,h'.get? b=uA {o with slots:=sl}
 free:∀b o,h.get? b=uA o->H b=none->b∉ex->H' b=uB
 there:∀b o,h.get? b=uA o->b∉ex->∃o',h'.get? b=uA o'
 tups:∀b xs,H b=uA (.tup xs)->H' b=uA (.tup xs)
 frzs:∀b o u,H b=uA (.frz o u)->H' b=uA (.frz o u)
 tbls:∀b ps,H b=uA (.tbl ps)->∃more,H' b=uA (.tbl (ps++more))
section
variable{fs fs' ex ex':uY}{H1 H2:Hp}{h1 h2:Heap}{x e:Addr}{o:HO}
def Un.any(u:Un fs ex H H1 h h1)(q:h.get? b=uA ob)(n:H b=uB)(hx:b∉ex):∃sl,h1.get? b=uA {ob with slots:=sl}:=by
 by_cases hb:b∈fs
 .exact u.slot b ob q n hb hx
 .exact⟨ob.slots,u.keep b ob q n hb hx⟩
def Un.kept(k:∀b u,h.get? b=uA u->h'.get? b=uA u):Un fs ex H H h h' :=
 ⟨λb ob q _ _ _=>k b ob q,λb ob q _ _ _=>⟨ob.slots,k b ob q⟩,λ_ _ _ n _=>n,λb ob q _=>⟨ob,k b ob q⟩,λ_ _ q=>q,λ_ _ _ q=>q,λ_ ps q=>⟨#[],by rw[q];simp⟩⟩
def Un.refl:Un fs ex H H h h:=Un.kept λ_ _ q=>q
def Un.laid(k:∀b u,h.get? b=uA u->h'.get? b=uA u)(hp:h.objs.size<=a)(hn:H a=uB):Un fs ex H (upd H a o) h h' where
 keep:=λb u q _ _ _=>k b u q
 slot:=λb u q _ _ _=>⟨u.slots,k b u q⟩
 free:=λb u q n _=>by rw[Ah (BY (CF (BH q) hp))];exact n
 there:=λb u q _=>⟨u,k b u q⟩
 tups:=λb xs q=>by rw[Ah (Ai q hn)];exact q
 frzs:=λb u xs q=>by rw[Ah (Ai q hn)];exact q
 tbls:=λb ps q=>⟨#[],by rw[Ah (Ai q hn),q];simp⟩
def Un.write(mu:Mut (H x))(he:e=x\/H e=uA (.own x))(k:∀b u,b≠e->h.get? b=uA u->h'.get? b=uA u)(qQ:∃u,h'.get? e=uA u):Un fs ex H (upd H x o) h h':=by
 have hx:∀b,H b=none->b≠x:=λb n z=>by subst z;rw[n] at mu;exact mu
 have hb:∀b,H b=none->b≠e:=λb n z=>by
  subst z;rcases he with r| r
  .exact hx b n r
  .rw[n] at r;cases r
 have hm:∀b u,H b=uA u->¬ Mut (uA u)->b≠x:=λb u q nm z=>by subst z;rw[q] at mu;exact nm mu
 refine⟨λb u q n _ _=>k b u (hb b n) q,λb u q n _ _=>⟨u.slots,k b u (hb b n) q⟩,λb u q n _=>by rw[Ah (hx b n)];exact n,λb u q _=>?_,
  λb xs q=>by rw[Ah (hm b _ q λz=>z)];exact q,λb u xs q=>by rw[Ah (hm b _ q λz=>z)];exact q,λb ps q=>⟨#[],by rw[Ah (hm b _ q λz=>z),q];simp⟩⟩
 by_cases hbe:b=e
 .subst hbe;exact qQ
 .exact⟨u,k b u hbe q⟩
end
noncomputable def trk(h:Heap)(H:Hp):uY:=(AR h.objs.size).filter λa=>(H a).isSome
def hidT(h:Heap)(H:Hp):Heap:=PySem.W.hideAll h (trk h H)
def Zq(h:Heap)(H:Hp):(hidT h H).objs.size=h.objs.size:=PySem.W.hideAll_size _ _
def ACg(e:h.get? b=uA o)(n:H b=uB):(hidT h H).get? b=uA o :=
 PySem.W.hideAll_get _ e λhm=>by
  have q:=(BO.mp hm).2;rw[n] at q;simp at q
def AFL(e:(hidT h H).get? b=uA o):h.get? b=uA o/\H b=uB:=by
 have e':=PySem.W.of_hideAll (trk h H) e;refine⟨e',?_⟩;cases q:H b with
 | none=>rfl
 | some x =>
  have hm:b∈trk h H:=BO.mpr ⟨AZ.mpr (BH e'),by simp[q]⟩;have z:(hidT h H).get? b=uB:=PySem.W.hideAll_none (trk h H) hm;rw[z] at e;cases e
structure Mod(K:As)(mg:Str->Option AA)(base:Heap):Prop where
 kin:K.In base
 glob:base.Ns DC mg
 blt:∃mb,base.Ns UO mb/\∀x:Str,x≠"__name__"->mb x=IL x
 nolimit:base.NoLimit
structure Cx where
 prog:AM
 w:AS
 K:As
 mg:Str->Option AA
 base:Heap
 A:B0
 N:uU
 s₀:AC
 H₀:Hp
 env:Env
 outer:List Env
 stack:List Env
 ex:uY
 fn:Str->Bool
 calm:Bool
 pn:uQ
 xe:AA->AC->Prop
variable{X:L2.Cx}
noncomputable def frs(l:List Env):uY:=l.filterMap (·.frame)
abbrev Cx.fs(X:Cx):uY:=frs X.outer
def Vis(sc:F5)(x:Str):Prop:=sc.names.lookup x=uA .local\/sc.names.lookup x=uA .cell\/sc.names.lookup x=uA .free
def Loc(sc:F5)(x:Str):Prop:=sc.names.lookup x=uA .local\/sc.names.lookup x=uA .cell
def Look(env:Env)(h:Heap)(m:Str->Option AA)(x:Str)(u:AA):Prop :=
 (env.kindOf x=uA .local/\m x=uA u)\/((env.kindOf x=uA .cell\/env.kindOf x=uA .free)/\∃c,env.cells.lookup x=uA c/\h.IsCell c (uA u))
structure Cx.Ok(X:Cx):Prop where
 mod:Mod X.K X.mg X.base
 kind:X.env.scope.kind=.function
 glob:X.env.globals=DC
 blt:X.env.builtins=UO
 above:X.s₀.heap.objs.size<=X.env.locals
 inj:∀x y c,X.env.cells.lookup x=uA c->X.env.cells.lookup y=uA c->x=y
 has:∀x,(X.env.kindOf x=uA .cell\/X.env.kindOf x=uA .free)->∃c,X.env.cells.lookup x=uA c
 cab:∀x c,X.fn x=true->X.env.cells.lookup x=uA c->X.s₀.heap.objs.size<=c
 hd:X.calm=true->X.A.handled=uB
 frames:X.A.frames=uA X.stack
 stk:X.stack=X.outer\/(X.stack=X.env::X.outer/\X.env.frame=uA X.env.locals)
 exf:∀b∈X.ex,b≠X.env.locals/\∀x c,X.env.cells.lookup x=uA c->c≠b
 bs:∀b o,X.base.get? b=uA o->X.s₀.heap.get? b=uA o/\X.H₀ b=uB
 bsz:X.base.objs.size<=X.s₀.heap.objs.size
 noex:∀b o,X.base.get? b=uA o->b∉X.ex
 exfs:∀b∈X.ex,b∉X.fs
 funs:X.s₀.heap.FunFrames X.base X.outer
 frf:∀b∈X.fs,X.H₀ b=uB
structure Inv(X:Cx)(aa:uQ)(σ:List (Option V))(H:Hp)(s:AC):Prop where
 ok:X.Ok
 os:s.os=X.s₀.os
 bare:MC s.gens
 base:Un X.fs X.ex X.H₀ H X.s₀.heap s.heap
 loc:∃m,s.heap.Ns X.env.locals m/\∀(i:Nat) (x:Str) (v:V),X.N[i]?=uA x->σ[i]?=uA (uA v)->Vis X.env.scope x->∃u,RelV v u/\Look X.env s.heap m x u
 cell:∀x c,X.env.cells.lookup x=uA c->∃v,s.heap.IsCell c v
 free:H X.env.locals=uB
 freeC:∀x c,X.env.cells.lookup x=uA c->H c=uB
 pin:∀p∈X.pn++aa,s.heap.get? p.1=uA p.2/\H p.1=uB/\p.1≠X.env.locals/\p.1∉X.fs/\∀v,p.2.data≠.cell v
 hok:HOk X.prog X.w H s.heap
 len:σ.length=X.N.length
section
variable{σ:List (Option V)}
def Cx.Ok.nofr(ok:X.Ok)(e:X.base.get? b=uA o):b∉X.fs:=λhb=>by
 have:=(ok.funs.mem hb).1;rw[e] at this;cases this
def Inv.bs(I:Inv X aa σ H s):∀b o,X.base.get? b=uA o->s.heap.get? b=uA o/\H b=uB:=λb o e =>
 ⟨I.base.keep b o (I.ok.bs b o e).1 (I.ok.bs b o e).2 (I.ok.nofr e) (I.ok.noex b o e),I.base.free b o (I.ok.bs b o e).1 (I.ok.bs b o e).2 (I.ok.noex b o e)⟩
def Inv.bk(I:Inv X aa σ H s):∀b o,X.base.get? b=uA o->s.heap.get? b=uA o:=λb o e=>(I.bs b o e).1
def Inv.mod(I:Inv X aa σ H s):Mod X.K X.mg X.base:=I.ok.mod
def Inv.kIn(I:Inv X aa σ H s):X.K.In s.heap:=I.ok.mod.kin.keeps I.bk
def Inv.lt(I:Inv X aa σ H s):X.env.locals<s.heap.objs.size:=by obtain⟨_,hn,_⟩:=I.loc;exact hn.lt
def Inv.sz(I:Inv X aa σ H s):X.s₀.heap.objs.size<=s.heap.objs.size:=BV I.ok.above (C1 I.lt)
def Inv.nofs(I:Inv X aa σ H s)(h:s.heap.objs.size<=a):a∉X.fs:=λhb=>by
 obtain⟨_,o,ho,_⟩:=I.ok.funs.mem hb;exact uH (CF (BH ho) (BV I.sz h)) (FB _)
def Inv.cne(I:Inv X aa σ H s):∀x c,X.env.cells.lookup x=uA c->c≠X.env.locals:=λx c e z=>by
 obtain⟨v,o,ho,hd⟩:=I.cell x c e;obtain⟨m,⟨o',es,ep,eh,cr,_⟩,_⟩:=I.loc;rw[z,eh] at ho;cases ho;rw[cr] at hd;cases hd
def Inv.funs(I:Inv X aa σ H s):s.heap.FunFrames X.base X.outer:=by
 have all:∀(l:List Env),(∀b∈frs l,b∈X.fs)->X.s₀.heap.FunFrames X.base l->s.heap.FunFrames X.base l:=by
  intro l
  induction l with
  | nil=>intro _ _;trivial
  | cons env r ih =>
   intro hs hl;obtain⟨hk,⟨L,o,hf,hn,ho,hd⟩,hr⟩:=hl;have hL:=hs L (by unfold frs;rw[IT,hf];exact AJ);obtain⟨sl,e⟩:=I.base.slot L o ho (I.ok.frf L hL) hL λz=>I.ok.exfs L z hL;exact⟨hk,⟨L,_,hf,hn,e,hd⟩,ih (λb hb=>hs b (by unfold frs;rw[IT,hf];exact AK _ hb)) hr⟩
 exact all X.outer (λ_ hb=>hb) I.ok.funs
def Inv.stack(I:Inv X aa σ H s):s.heap.FunFrames X.base X.stack:=by
 rcases I.ok.stk with e| ⟨e,hf⟩
 .rw[e];exact I.funs
 .rw[e]
  obtain⟨m,hn,_⟩:=I.loc;refine .cons (by rw[I.ok.kind];decide) hf hn ?_ I.funs;exact Heap.get?_none_of_le (BV I.ok.bsz I.ok.above)
def Inv.stkSub(I:Inv X aa σ H s):∀b∈frs X.stack,b∈X.env.locals::X.fs:=λb hb=>by
 rcases I.ok.stk with e| ⟨e,hf⟩
 .rw[e] at hb;exact AK _ hb
 .rw[e] at hb
  unfold frs at hb;rw[IT,hf] at hb;exact hb
def Inv.stkFree(I:Inv X aa σ H s):∀b∈frs X.stack,H b=uB:=λb hb=>by
 rcases AW.mp (I.stkSub b hb) with e| hb
 .rw[e];exact I.free
 .obtain⟨_,o,ho,_⟩:=I.ok.funs.mem hb
  exact I.base.free b o ho (I.ok.frf b hb) λz=>I.ok.exfs b z hb
def Inv.step{d':Drawn}(I:Inv X aa σ H s)
  (ii:∀b∈ch,(b∈X.ex\/X.s₀.heap.objs.size<=b)/\b≠X.env.locals/\(∀x c,X.env.cells.lookup x=uA c->c≠b)/\∀p∈X.pn++aa,p.1≠b)
  (keep:∀b o,b≠X.env.locals->b∉X.fs->b∉ch->s.heap.get? b=uA o->H b=none->h'.get? b=uA o)
  (slot:∀b o,b≠X.env.locals->b∈X.fs->b∉ch->s.heap.get? b=uA o->H b=none->∃sl,h'.get? b=uA {o with slots:=sl}) (free:∀b o,b∉ch->s.heap.get? b=uA o->H b=none->H' b=uB)
  (there:∀b o,b∉ch->s.heap.get? b=uA o->∃o',h'.get? b=uA o')
  (tups:∀b xs,H b=uA (.tup xs)->H' b=uA (.tup xs)) (frzs:∀b o u,H b=uA (.frz o u)->H' b=uA (.frz o u)) (tbls:∀b ps,H b=uA (.tbl ps)->∃more,H' b=uA (.tbl (ps++more)))
  (ns:∀m,s.heap.Ns X.env.locals m->h'.Ns X.env.locals m) (hok:HOk X.prog X.w H' h') (hg:MC g') :
  Inv X aa σ H' {s with heap:=h',gens:=g',drawn:=d',toks:=t'}:=by
 have tQ:∀b o,X.s₀.heap.get? b=uA o->b≠X.env.locals:=λb o e=>BY (CF (BH e) I.ok.above);have neC:∀b o,X.s₀.heap.get? b=uA o->b∉X.ex->b∉ch:=λb o e hx hb=>by
  rcases (ii b hb).1 with z| z
  .exact hx z
  .exact uH (CF (BH e) z) (FB _)
 have oj:∀x c,X.env.cells.lookup x=uA c->∀v,s.heap.IsCell c v->h'.IsCell c v:=by
  rintro x c e v ⟨o,ho,hd⟩;have tG:c∉ch:=λz=>(ii c z).2.2.1 x c e rfl;by_cases hc:c∈X.fs
  .obtain⟨sl,q⟩:=slot c o (I.cne x c e) hc tG ho (I.freeC x c e)
   exact⟨_,q,hd⟩
  .exact⟨o,keep c o (I.cne x c e) hc tG ho (I.freeC x c e),hd⟩
 refine⟨I.ok,I.os,hg,⟨λb o e n hb hx=>?_,λb o e n hb hx=>?_,λb o e n hx=>?_,λb o e hx=>?_,λb xs e=>tups b xs (I.base.tups b xs e),λb o xs e=>frzs b o xs (I.base.frzs b o xs e),λb ps e=>?_⟩,?_,λx c e=>?_,?_,λx c e=>?_,λp hp=>?_,hok,I.len⟩
 .exact keep b o (tQ b o e) hb (neC b o e hx) (I.base.keep b o e n hb hx) (I.base.free b o e n hx)
 .obtain⟨sl,e1⟩:=I.base.slot b o e n hb hx
  obtain⟨sl',e2⟩:=slot b _ (tQ b o e) hb (neC b o e hx) e1 (I.base.free b o e n hx);exact⟨sl',e2⟩
 .obtain⟨o',e1⟩:=I.base.there b o e hx
  exact free b o' (neC b o e hx) e1 (I.base.free b o e n hx)
 .obtain⟨o',e1⟩:=I.base.there b o e hx
  exact there b o' (neC b o e hx) e1
 .obtain⟨m1,e1⟩:=I.base.tbls b ps e
  obtain⟨m2,e2⟩:=tbls b _ e1;exact⟨m1++m2,by rw[e2,Array.append_assoc]⟩
 .obtain⟨m,hn,hl⟩:=I.loc
  refine⟨m,ns m hn,λi x v e1 e2 e3=>?_⟩;obtain⟨u,r,l⟩:=hl i x v e1 e2 e3;refine⟨u,r,?_⟩;rcases l with l| ⟨k,c,e,z⟩
  .exact .inl l
  .exact .inr ⟨k,c,e,oj x c e _ z⟩
 .obtain⟨v,z⟩:=I.cell x c e
  exact⟨v,oj x c e v z⟩
 .obtain⟨m,⟨o,_,_,ho,_⟩,_⟩:=I.loc
  exact free _ o (λz=>(ii _ z).2.1 rfl) ho I.free
 .obtain⟨v,o,ho,hd⟩:=I.cell x c e
  exact free c o (λz=>(ii c z).2.2.1 x c e rfl) ho (I.freeC x c e)
 .obtain⟨e,n,ne,nf,d⟩:=I.pin p hp
  have tG:p.1∉ch:=λz=>(ii p.1 z).2.2.2 p hp rfl;exact⟨keep p.1 p.2 ne nf tG e n,free p.1 p.2 tG e n,ne,nf,d⟩
def Inv.un(I:Inv X aa σ H s)(u:Un X.fs [] H H' s.heap h')(hok:HOk X.prog X.w H' h'):Inv X aa σ H' {s with heap:=h',toks:=t'}:=by
 obtain⟨m,⟨o,es,ep,ho,r⟩,_⟩:=id I.loc;obtain⟨sl,hL⟩:=u.any ho I.free (by simp);exact I.step (g':=s.gens) (d':=s.drawn) (ch:=[]) (λ_ z=>nomatch z) (λb o _ hb _ e n=>u.keep b o e n hb (by simp)) (λb o _ hb _ e n=>u.slot b o e n hb (by simp)) (λb o _ e n=>u.free b o e n (by simp)) (λb o _ e=>u.there b o e (by simp)) u.tups u.frzs u.tbls (λm' hm=>by
  obtain⟨o',bn,i5,eh,r'⟩:=hm;rw[ho] at eh;cases eh;exact⟨_,bn,i5,hL,r'⟩) hok I.bare
def Inv.call{d':Drawn}(I:Inv X aa σ H s)(u:Un (frs X.stack) ch H H' s.heap h')(hok:HOk X.prog X.w H' h')(hg:MC g')
  (ii:∀b∈ch,(b∈X.ex\/X.s₀.heap.objs.size<=b)/\b≠X.env.locals/\(∀x c,X.env.cells.lookup x=uA c->c≠b)/\∀p∈X.pn++aa,p.1≠b) :
  Inv X aa σ H' {s with heap:=h',gens:=g',drawn:=d',toks:=t'}:=by
 obtain⟨m,⟨o,es,ep,ho,r⟩,_⟩:=id I.loc;obtain⟨sl,hL⟩:=u.any ho I.free λz=>(ii _ z).2.1 rfl;exact I.step (ch:=ch) ii (λb o hL hb hc e n=>u.keep b o e n (λz=>(AW.mp (I.stkSub b z)).elim hL hb) hc) (λb o _ _ hc e n=>u.any e n hc) (λb o hc e n=>u.free b o e n hc) (λb o hc e=>u.there b o e hc) u.tups u.frzs u.tbls (λm' hm=>by
  obtain⟨o',bn,i5,eh,r'⟩:=hm;rw[ho] at eh;cases eh;exact⟨_,bn,i5,hL,r'⟩) hok hg
def Inv.turned(I:Inv X aa σ H s)(k:∀b o,b≠it->s.heap.get? b=uA o->h'.get? b=uA o)(hn:H it=uB)(hL:it≠X.env.locals)
  (h1:it∈X.ex\/X.s₀.heap.objs.size<=it) (h2:∀x c,X.env.cells.lookup x=uA c->c≠it) (h3:∀p∈X.pn++aa,p.1≠it):Inv X aa σ H {s with heap:=h',toks:=t'}:=by
 have rZ:∀b u,H b=uA u->b≠it:=λb u e z=>by rw[z,hn] at e;cases e
 refine I.step (g':=s.gens) (d':=s.drawn) (ch:=[it]) (λb hb=>?_) (λb o _ _ hc e _=>k b o (λz=>hc (by simp[z])) e) (λb o _ _ hc e _=>⟨o.slots,k b o (λz=>hc (by simp[z])) e⟩) (λ_ _ _ _ n=>n)
  (λb o hc e=>⟨o,k b o (λz=>hc (by simp[z])) e⟩) (λ_ _ e=>e) (λ_ _ _ e=>e) (λb ps e=>⟨#[],by rw[e];simp⟩) (λm hm=>?_) (λb u e=>?_) I.bare
 .have e:b=it:=by simpa using hb
  subst e;exact⟨h1,hL,h2,h3⟩
 .obtain⟨o,es,ep,ho,r⟩:=hm
  exact⟨o,es,ep,k _ o (Bi hL) ho,r⟩
 .refine(I.hok b u e).stay (λc v hc q=>k c v ?_ q) (λ_ q=>q) λ_ _ q=>q
  rcases hc with z| z
  .rw[z];exact rZ b u e
  .exact rZ c _ z
def Inv.tok(I:Inv X aa σ H s)(t:Nat):Inv X aa σ H {s with toks:=t}:=I.un (h':=s.heap) (t':=t) Un.refl I.hok
def Inv.kept(I:Inv X aa σ H s)(k:∀b u,s.heap.get? b=uA u->h'.get? b=uA u):Inv X aa σ H {s with heap:=h',toks:=t'}:=I.un (Un.kept k) (I.hok.kept k)
def Inv.laid{o:HO}(I:Inv X aa σ H s)(k:∀b u,s.heap.get? b=uA u->h'.get? b=uA u)(hp:s.heap.objs.size<=a)(new:ObjOk X.prog X.w (upd H a o) h' a o) :
  Inv X aa σ (upd H a o) {s with heap:=h',toks:=t'}:=I.un (Un.laid k hp (I.hok.fresh hp)) (I.hok.laid k hp new)
def Inv.write{x e:Addr}{o:HO}(I:Inv X aa σ H s)(mu:Mut (H x))(he:e=x\/H e=uA (.own x))(k:∀b u,b≠e->s.heap.get? b=uA u->h'.get? b=uA u)(qQ:∃u,h'.get? e=uA u)
  (new:ObjOk X.prog X.w (upd H x o) h' x o):Inv X aa σ (upd H x o) {s with heap:=h',toks:=t'}:=I.un (Un.write mu he k qQ) (I.hok.write mu he k qQ new)
def Inv.pins_of{pZ:uQ}(I:Inv X aa σ H s)(h:∀p∈pZ,s.heap.get? p.1=uA p.2/\H p.1=uB/\p.1≠X.env.locals/\p.1∉X.fs/\∀v,p.2.data≠.cell v):Inv X pZ σ H s :=
 ⟨I.ok,I.os,I.bare,I.base,I.loc,I.cell,I.free,I.freeC,λp hp=>(Co.mp hp).elim (λz=>I.pin p (Ev _ z)) (h p),I.hok,I.len⟩
def Te{N:uU}(hN:N.Nodup)(a:N[i]?=uA x)(b:N[j]?=uA x):i=j:=by
 obtain⟨h1,e1⟩:=AG.mp a;obtain⟨h2,e2⟩:=AG.mp b;exact(T5 hN).mp (e1.trans e2.symm)
theorem zB1(h:True:=by first| exact .inl rfl| exact .inr rfl| assumption):True:=h
def Om{M:WN}{Q:Unit->AC->Prop}(I:Inv X aa σ H s)(hN:X.N.Nodup)(hi:X.N[i]?=uA x)(hx:Loc X.env.scope x)(r:RelV v u)
  (h:∀s',Inv X aa (σ.set i (uA v)) H s'->(∃a,EX a s.heap s'.heap/\(a=X.env.locals\/X.env.cells.lookup x=uA a))->Q () s') (hf:autoParam (X.fn x=true\/X.env.scope.names.lookup x=uA .local) zB1._auto_1):wpAny M A (storeName X.env x u) Q E s:=by
 obtain⟨m,hn,hl⟩:=id I.loc;have hcls:(X.env.scope.kind == .class||(X.env.scope.kind == .module&&X.env.locals != X.env.globals))=false:=by rw[I.ok.kind];rfl
 have hiσ:i<σ.length:=by rw[I.len];exact(AG.mp hi).1
 have cne:=I.cne;have gg:∀{a:Addr}{h':Heap},(∃o,s.heap.get? a=uA o/\H a=uB)->EX a s.heap h'->HOk X.prog X.w H h':=λ{a h'} ha hs b ob e=>by
  obtain⟨_,_,pY⟩:=ha;refine(I.hok b ob e).stay (λc w' hc q=>(hs.2 c ?_).trans q) (λ_ q=>q) λ_ _ q=>q;rintro rfl;rcases hc with rfl| hc
  .rw[pY] at e;cases e
  .rw[pY] at hc;cases hc
 rcases hx with hk| hk
 .refine wpAny_storeName_local hk hn (λh' rP hs=>?_) hcls
  obtain⟨oL,_,_,og,_⟩:=id hn;refine h _ ⟨I.ok,I.os,I.bare,⟨λb o e n hb hx=>?_,λb o e n hb hx=>?_,I.base.free,λb o e hx=>?_,I.base.tups,I.base.frzs,I.base.tbls⟩,⟨_,rP,λj y v' e1 e2 e3=>?_⟩,λy c e=>?_,I.free,I.freeC,λp hp=>?_,gg ⟨oL,og,I.free⟩ hs,by simpa using I.len⟩ ⟨_,hs,.inl rfl⟩
  .exact(hs.2 b (BY (CF (BH e) I.ok.above))).trans (I.base.keep b o e n hb hx)
  .obtain⟨sl,e1⟩:=I.base.slot b o e n hb hx
   exact⟨sl,(hs.2 b (BY (CF (BH e) I.ok.above))).trans e1⟩
  .obtain⟨o',e1⟩:=I.base.there b o e hx
   exact⟨o',(hs.2 b (BY (CF (BH e) I.ok.above))).trans e1⟩
  .by_cases hj:j=i
   .subst hj
    rw[hi] at e1;cases e1;rw[J3 hiσ] at e2;cases e2;exact⟨u,r,.inl ⟨hk,by simp⟩⟩
   .rw[KG (Bi hj)] at e2
    obtain⟨u',r',q⟩:=hl j y v' e1 e2 e3;refine⟨u',r',?_⟩;rcases q with⟨k,e⟩| ⟨k,c,e,z⟩
    .refine .inl ⟨k,?_⟩
     have:y≠x:=λe=>hj (Te hN e1 (e ▸ hi));simp[this,e]
    .exact .inr ⟨k,c,e,z.sameBut hs (cne y c e)⟩
  .obtain⟨w',z⟩:=I.cell y c e
   exact⟨w',z.sameBut hs (cne y c e)⟩
  .obtain⟨e,n,ne,nf,d⟩:=I.pin p hp
   exact⟨(hs.2 p.1 ne).trans e,n,ne,nf,d⟩
 .have hfn:X.fn x=true:=by
   rcases hf with z| z
   .exact z
   .rw[z] at hk;cases hk
  obtain⟨c,hc⟩:=I.ok.has x (.inl hk);obtain⟨w',z⟩:=I.cell x c hc;refine wpAny_storeName_cell I.ok.kind hk hc z (λh' tL hs=>?_);obtain⟨oc,hoc,hocd⟩:=id z;refine h {s with heap:=h'} ⟨I.ok,I.os,I.bare,⟨λb o e n hb hx=>?_,λb o e n hb hx=>?_,I.base.free,λb o e hx=>?_,I.base.tups,I.base.frzs,I.base.tbls⟩,⟨m,hn.sameBut hs (Bi (cne x c hc)),λj y v' e1 e2 e3=>?_⟩,λy c' e=>?_,I.free,I.freeC,λp hp=>?_,gg ⟨oc,hoc,I.freeC x c hc⟩ hs,by simpa using I.len⟩ ⟨c,hs,.inr hc⟩
  .exact(hs.2 b (BY (CF (BH e) (I.ok.cab x c hfn hc)))).trans (I.base.keep b o e n hb hx)
  .obtain⟨sl,e1⟩:=I.base.slot b o e n hb hx
   exact⟨sl,(hs.2 b (BY (CF (BH e) (I.ok.cab x c hfn hc)))).trans e1⟩
  .obtain⟨o',e1⟩:=I.base.there b o e hx
   exact⟨o',(hs.2 b (BY (CF (BH e) (I.ok.cab x c hfn hc)))).trans e1⟩
  .by_cases hj:j=i
   .subst hj
    rw[hi] at e1;cases e1;rw[J3 hiσ] at e2;cases e2;exact⟨u,r,.inr ⟨.inl hk,c,hc,tL⟩⟩
   .rw[KG (Bi hj)] at e2
    obtain⟨u',r',q⟩:=hl j y v' e1 e2 e3;refine⟨u',r',?_⟩;rcases q with q| ⟨k,c',e,z'⟩
    .exact .inl q
    .refine .inr ⟨k,c',e,z'.sameBut hs ?_⟩
     rintro rfl;exact hj (Te hN e1 (I.ok.inj _ _ _ e hc ▸ hi))
  .by_cases hcc:c'=c
   .subst hcc;exact⟨_,tL⟩
   .obtain⟨w2,z2⟩:=I.cell y c' e
    exact⟨w2,z2.sameBut hs hcc⟩
  .obtain⟨e,n,ne,nf,d⟩:=I.pin p hp
   refine⟨(hs.2 p.1 ?_).trans e,n,ne,nf,d⟩;intro q;rw[q,hoc] at e;have q':=AO e;exact d w' (by rw[<- q'];exact hocd)
def TF{M:WN}{Q:Unit->AC->Prop}(I:Inv X aa σ H s)(hN:X.N.Nodup)(hi:X.N[i]?=uA x)(hx:Loc X.env.scope x)(r:RelV v u)
  (h:∀s',Inv X aa (σ.set i (uA v)) H s'->Q () s') (hf:autoParam (X.fn x=true\/X.env.scope.names.lookup x=uA .local) zB1._auto_1):wpAny M A (storeName X.env x u) Q E s :=
 Om I hN hi hx r (λs' I' _=>h s' I') hf
def Inv.call'(I:Inv X aa σ H s)(ho:s'.os=s.os)(u:Un (frs X.stack) ch H H' s.heap s'.heap)(hok:HOk X.prog X.w H' s'.heap)(hg:MC s'.gens)
  (ii:∀b∈ch,(b∈X.ex\/X.s₀.heap.objs.size<=b)/\b≠X.env.locals/\(∀x c,X.env.cells.lookup x=uA c->c≠b)/\∀p∈X.pn++aa,p.1≠b):Inv X aa σ H' s':=by
 obtain⟨h',g',d',t',o'⟩:=s';have e:=ho;subst e;exact I.call (g':=g') (t':=t') (d':=d') u hok hg ii
end
abbrev XK:=AA->Option Addr->Hp->Prop
abbrev St:=List (Option V)
variable{σ:L2.St}
abbrev VK:=V->Hp->Prop
abbrev TE:=St->Hp->VK->Prop
variable{ta te:L2.TE}
abbrev TT:=St->Hp->(Bool->Hp->Prop)->Prop
variable{tc:L2.TT}
abbrev TA:=St->Hp->(List V->Hp->Prop)->Prop
structure Ends where
 nx:St->Hp->Prop
 rt:VK
 bk:St->Hp->Prop:=λ_ _=>False
 ct:St->Hp->Prop:=λ_ _=>False
abbrev TS:=Ends->St->Hp->Prop
variable{tb:L2.TS}
def EP(X:Cx)(aa:uQ)(σ:St)(Q:VK)(u:AA)(s':AC):Prop:=∃v H',Inv X aa σ H' s'/\RelV v u/\Q v H'
def TP(X:Cx)(aa:uQ)(σ:St)(Q:Bool->Hp->Prop)(b:Bool)(s':AC):Prop:=∃H',Inv X aa σ H' s'/\Q b H'
def AP(X:Cx)(aa:uQ)(σ:St)(Q:List V->Hp->Prop)(us:List AA)(s':AC):Prop:=∃vs H',Inv X aa σ H' s'/\Vals vs us/\Q vs H'
def SP(X:Cx)(aa:uQ)(D:Ends)(f:Flow)(s':AC):Prop :=
 match f with
 | .next=>∃σ' H',Inv X aa σ' H' s'/\D.nx σ' H'
 | .brk=>∃σ' H',Inv X aa σ' H' s'/\D.bk σ' H'
 | .cont=>∃σ' H',Inv X aa σ' H' s'/\D.ct σ' H'
 | .ret u=>∃v σ' H',Inv X aa σ' H' s'/\RelV v u/\D.rt v H'
def PE(X:Cx)(e:Expr)(t:TE):Prop :=
 ∀(aa:uQ) (s:AC) (σ:St) (H:Hp) (Q:VK),Inv X aa σ H s->t σ H Q->wpAny (AN X.prog X.w) X.A (eval e X.env) (EP X aa σ Q) X.xe s
def PT(X:Cx)(e:Expr)(t:TT):Prop :=
 ∀(aa:uQ) (s:AC) (σ:St) (H:Hp) (Q:Bool->Hp->Prop),Inv X aa σ H s->t σ H Q->wpAny (AN X.prog X.w) X.A (UP e X.env (eval e X.env)) (TP X aa σ Q) X.xe s
def PW(X:Cx)(e:Expr)(t:TT):Prop :=
 ∀(fz:Sem AA) (aa:uQ) (s:AC) (σ:St) (H:Hp) (Q:Bool->Hp->Prop),Inv X aa σ H s->t σ H Q->wpAny (AN X.prog X.w) X.A (UP e X.env fz) (TP X aa σ Q) X.xe s
def ud{t:TT}(h:PW X e t):PT X e t:=h _
def PA(X:Cx)(es:uV)(t:TA):Prop :=
 ∀(pos:Pos) (aa:uQ) (s:AC) (σ:St) (H:Hp) (Q:List V->Hp->Prop),Inv X aa σ H s->t σ H Q->wpAny (AN X.prog X.w) X.A (spliced (JO pos (CC es X.env))) (AP X aa σ Q) X.xe s
def PS(X:Cx)(st:Stmt)(t:TS):Prop :=
 ∀(aa:uQ) (s:AC) (σ:St) (H:Hp) (D:Ends),Inv X aa σ H s->t D σ H->wpAny (AN X.prog X.w) X.A (exec st X.env) (SP X aa D) X.xe s
def PSs(X:Cx)(st:List Stmt)(t:TS):Prop :=
 ∀(aa:uQ) (s:AC) (σ:St) (H:Hp) (D:Ends),Inv X aa σ H s->t D σ H->wpAny (AN X.prog X.w) X.A (execs st X.env) (SP X aa D) X.xe s
def thn{t:Sem α}{Q Q':α->AC->Prop}{M:WN}(h:wpAny M A t Q E s)(hQ:∀a s,Q a s->Q' a s):wpAny M A t Q' E s:=EI h hQ λ_ _ x=>x
section
def ACO(i:Nat):TE:=λσ H Q=>∃v,σ[i]?=uA (uA v)/\Q v H
def tC(v:V):TE:=λ_ H Q=>Q v H
def AGn(hN:X.N[i]?=uA x)(hv:Vis X.env.scope x)(hd:autoParam ((x==("__debug__" : Str))=false) zA1._auto_1)(kM:autoParam ((x==("__classdict__" : Str))=false) zA1._auto_1):PE X (.Name x pos) (ACO i):=by
 intro aa s σ H Q I h;obtain⟨v,e,h⟩:=h;obtain⟨m,hn,hl⟩:=I.loc;obtain⟨u,r,l⟩:=hl i x v hN e hv;have fin:EP X aa σ Q u s:=⟨v,H,I,r,h⟩;rcases l with⟨hk,hm⟩| ⟨hk,c,hc,gp⟩
 .exact UQ (wpAny_loadName_local I.ok.kind hk hn hm fin) hd
 .rcases hk with hk| hk
  .exact UQ (wpAny_loadName_cell I.ok.kind hk hc gp fin) hd
  .exact UQ (wpAny_loadName_free I.ok.kind hk hc gp fin kM) hd
def Af{i j pos}:PE X (.Constant (.int i) j pos) (tC (.int i)):=λ_ _ _ H _ I h=>wpAny_Constant_int ⟨.int i,H,I.tok _,⟨_,rfl⟩,h⟩
def FZ{b j pos}:PE X (.Constant (.bool b) j pos) (tC (.bl b)):=λ_ _ _ H _ I h=>Constant_bool ⟨.bl b,H,I,rfl,h⟩
def Ft{j pos}:PE X (.Constant .none j pos) (tC .non):=λ_ _ _ H _ I h=>RF ⟨.non,H,I,rfl,h⟩
def Gl(X:Cx)(x:Str):Prop:=X.env.kindOf x=uA .globalImplicit
def Rk(I:Inv X aa σ H s)(hg:Gl X x)(hm:X.mg x=uA u)(h:Q u s)
  (hd:autoParam ((x==("__debug__" : Str))=false) zA1._auto_1):wpAny (AN X.prog X.w) X.A (eval (.Name x pos) X.env) Q E s :=
 N7 I.ok.kind hg (Calls.loadGlobal_global (by rw[I.ok.glob];exact I.mod.glob.keeps I.bk) hm h) hd
def FJ(I:Inv X aa σ H s)(hg:Gl X x)(hm:X.mg x=uB)(hv:IL x=uA u)(h:Q u s)
  (hn:autoParam (x≠"__name__") zA1._auto_1) (hd:autoParam ((x==("__debug__" : Str))=false) zA1._auto_1):wpAny (AN X.prog X.w) X.A (eval (.Name x pos) X.env) Q E s:=by
 obtain⟨mb,h1,h2⟩:=I.mod.blt;exact N7 I.ok.kind hg (Calls.loadGlobal_builtin (by rw[I.ok.glob];exact I.mod.glob.keeps I.bk) hm (by rw[I.ok.blt];exact h1.keeps I.bk) ((h2 x hn).trans hv) h) hd
def Gn(hg:Gl X x)(hm:X.mg x=uA u)(r:RelV v u)(hd:autoParam ((x==("__debug__" : Str))=false) zA1._auto_1):PE X (.Name x pos) (tC v) :=
 λ_ _ _ H _ I h=>Rk I hg hm ⟨v,H,I,r,h⟩ hd
def Yt(hg:Gl X x)(hm:X.mg x=uB)(hv:IL x=uA u)(r:RelV v u)(hn:autoParam (x≠"__name__") zA1._auto_1)(hd:autoParam ((x==("__debug__" : Str))=false) zA1._auto_1):PE X (.Name x pos) (tC v) :=
 λ_ _ _ H _ I h=>FJ I hg hm hv ⟨v,H,I,r,h⟩ hn hd
variable{a b:Expr}{tb:TE}
def PC(X:Cx)(op:UR)(a b:Expr)(t:TE):Prop :=
 ∀(aa:uQ) (s:AC) (σ:St) (H:Hp) (Q:VK),Inv X aa σ H s->t σ H Q ->
  wpAny (AN X.prog X.w) X.A (eval a X.env) (λv s₁=>wpAny (AN X.prog X.w) X.A (eval b X.env) (λu s₂=>wpAny (AN X.prog X.w) X.A (D8 op v u) (EP X aa σ Q) X.xe s₂) X.xe s₁) X.xe s
def ACG(b:Expr)(h:op≠.In)(h2:op≠.NotIn):JE op b=false:=by
 have e1:(op==Zs)=false:=by cases op<;>first| rfl| exact uH rfl h
 have e2:(op==X8)=false:=by cases op<;>first| rfl| exact uH rfl h2
 cases b<;>simp[JE,e1,e2]
def AIV(ta:TE):TE:=λσ H Q=>ta σ H λx H1=>Q (.bl (decide (x=.non))) H1
def AHk(ta:TE):TE:=λσ H Q=>ta σ H λx H1=>Q (.bl (!decide (x=.non))) H1
def RelV.none_iff{x:V}{v:AA}(r:RelV x v):(v==DE)=decide (x=.non):=by
 cases x with
 | non=>cases r;rfl
 | bl _=>cases r;rfl
 | int _=>obtain⟨t,rfl⟩:=r;rfl
 | str _=>obtain⟨t,rfl⟩:=r;rfl
 | byt _=>obtain⟨t,rfl⟩:=r;rfl
 | flt _=>obtain⟨t,rfl⟩:=r;rfl
 | ref _=>cases r;rfl
 | ty _=>cases r;rfl
def Vz{j bh}(ha:PE X a ta):PC X .Is a (.Constant .none j bh) (AIV ta):=by
 intro aa s σ H Q I h;refine thn (ha aa s σ H _ I h) λv s1 hq=>?_;obtain⟨x,H1,I1,r1,q1⟩:=hq;exact RF (is_none_gen ⟨.bl _,H1,I1,by rw[r1.none_iff];rfl,q1⟩)
def AFi{j bh}(ha:PE X a ta):PC X .IsNot a (.Constant .none j bh) (AHk ta):=by
 intro aa s σ H Q I h;refine thn (ha aa s σ H _ I h) λv s1 hq=>?_;obtain⟨x,H1,I1,r1,q1⟩:=hq;exact RF (VO ⟨.bl _,H1,I1,by rw[r1.none_iff];rfl,q1⟩)
def tB(t:TE):TT:=λσ H Q=>t σ H λx H1=>∃c,x=.bl c/\Q c H1
def Im{t:TE}(h:PC X op a b t)(h1:JE op b=false:=by first| exact ACG _ (by decide) (by decide)| rfl):PT X (.Compare a [op] [b] pos) (tB t):=by
 intro aa s σ H Q I hw;refine Qr (thn (h aa s σ H _ I hw) λv s1 h1=>thn h1 λu s2 h2=>thn h2 λc s3 hq=>?_) h1;obtain⟨x,H1,I1,r1,q1⟩:=hq;obtain⟨d,rfl,q⟩:=q1;cases r1;exact G9 ⟨H1,I1,q⟩
def Ds{t:TE}(h:PE X e t)(he:autoParam (∀fz,UP e X.env fz=(do let v <- fz;VQ e.pos;NE [v] (truthy v))) zA2._auto_1):PT X e (tB t):=by
 intro aa s σ H Q I hw;refine isTrue_plain (thn (h aa s σ H _ I hw) λv s1 hq=>?_) (he _);obtain⟨x,H1,I1,r1,q1⟩:=hq;obtain⟨d,rfl,q⟩:=q1;cases r1;exact G9 ⟨H1,I1,q⟩
variable{tA tB':TT}{ar:uV}
def AIP(t u:TT):TT:=λσ H Q=>t σ H λc H1=>if c=true then u σ H1 Q else Q false H1
def tOr(t u:TT):TT:=λσ H Q=>t σ H λc H1=>if c=true then Q true H1 else u σ H1 Q
def AIK(t:TT):TT:=λσ H Q=>t σ H λc H1=>Q (!c) H1
def Gm(ha:PT X a tA):PW X (.BoolOp .And [a] pos) tA:=by
 intro wh aa s σ H Q I h;refine isTrue_and (thn (ha aa s σ H Q I h) λc s1 e=>?_);cases c with
 | true=>exact isTrue_and_nil e
 | false=>exact e
def Ek(ha:PT X a tA):PW X (.BoolOp .Or [a] pos) tA:=by
 intro wh aa s σ H Q I h;refine isTrue_or (thn (ha aa s σ H Q I h) λc s1 e=>?_);cases c with
 | false=>exact isTrue_or_nil e
 | true=>exact e
def Ir(ha:PT X a tA)(hb:PW X (.BoolOp .And (b::ar) pos) tB'):PW X (.BoolOp .And (a::b::ar) pos) (AIP tA tB'):=by
 intro wh aa s σ H Q I h;refine isTrue_and (thn (ha aa s σ H _ I h) λc s1 hq=>?_);obtain⟨H1,I1,q1⟩:=hq;cases c with
 | true=>exact hb wh aa s1 σ H1 Q I1 q1
 | false=>exact⟨H1,I1,q1⟩
def Fd(ha:PT X a tA)(hb:PW X (.BoolOp .Or (b::ar) pos) tB'):PW X (.BoolOp .Or (a::b::ar) pos) (tOr tA tB'):=by
 intro wh aa s σ H Q I h;refine isTrue_or (thn (ha aa s σ H _ I h) λc s1 hq=>?_);obtain⟨H1,I1,q1⟩:=hq;cases c with
 | true=>exact⟨H1,I1,q1⟩
 | false=>exact hb wh aa s1 σ H1 Q I1 q1
def Fp(ha:PT X a tA):PT X (.UnaryOp .Not a pos) (AIK tA):=by
 intro aa s σ H Q I h;exact isTrue_not (ha aa s σ H (λc H1=>Q (!c) H1) I h)
def AHW(ta tb:TE):TE:=λσ H Q=>ta σ H λx H1=>∃c,x=.bl c/\if c=true then tb σ H1 Q else Q (.bl false) H1
def Rm{op}{t:TE}(h:PE X a t):PE X (.BoolOp op [a] pos) t:=λaa s σ H Q I hw=>BoolOp_one (h aa s σ H Q I hw)
def Mp(ha:PE X a ta)(hb:PE X (.BoolOp .And (b::ar) pos) tb):PE X (.BoolOp .And (a::b::ar) pos) (AHW ta tb):=by
 intro aa s σ H Q I h;refine BoolOp_and (thn (ha aa s σ H _ I h) λv s1 hq=>?_);obtain⟨x,H1,I1,r1,q1⟩:=hq;obtain⟨c,rfl,q1⟩:=q1;cases r1;refine G9 ?_;cases c with
 | true=>exact hb aa s1 σ H1 Q I1 q1
 | false=>exact⟨.bl false,H1,I1,rfl,q1⟩
def tIf(t:TT)(ta tb:TE):TE:=λσ H Q=>t σ H λc H1=>if c=true then ta σ H1 Q else tb σ H1 Q
def Le(hc:PT X c tA)(ha:PE X a ta)(hb:PE X b tb):PE X (.IfExp c a b pos) (tIf tA ta tb):=by
 intro aa s σ H Q I h;refine wpAny_IfExp (thn (hc aa s σ H _ I h) λd s1 hq=>?_);obtain⟨H1,I1,q1⟩:=hq;cases d with
 | true=>exact ha aa s1 σ H1 Q I1 q1
 | false=>exact hb aa s1 σ H1 Q I1 q1
end
def SqL(K:As)(H:Hp)(a:Addr)(xs:List V):Prop :=
 Rd H a (.lst xs) \/
  ∃(o:Obj) (ag:Array AA) (n:Nat),K.lookup a=uA o/\o.cls=.type "list"/\o.dict=uB/\o.data=.seq ag n/\ag.size<=sizeLine/\Vals xs ag.toList
def SqT(K:As)(H:Hp)(a:Addr)(xs:List V):Prop :=
 Rd H a (.tup xs) \/
  ∃(o:Obj) (ag:Array AA) (n:Nat),K.lookup a=uA o/\o.cls=.type "tuple"/\o.data=.seq ag n/\ag.size<=sizeLine/\Vals xs ag.toList
noncomputable def absV:AA->Option V
 | .none=>uA .non
 | .bool b=>uA (.bl b)
 | .int i _=>uA (.int i)
 | .str x _=>uA (.str x)
 | .bytes b _=>uA (.byt b)
 | .float b _=>uA (.flt b)
 | .ref a=>uA (.ref a)
 | .type n=>uA (.ty n)
 | _=>uB
def RelV.abs{x:V}(r:RelV x u):absV u=uA x:=by
 cases x with
 | non=>cases r;rfl
 | bl _=>cases r;rfl
 | int _=>obtain⟨t,rfl⟩:=r;rfl
 | str _=>obtain⟨t,rfl⟩:=r;rfl
 | byt _=>obtain⟨t,rfl⟩:=r;rfl
 | flt _=>obtain⟨t,rfl⟩:=r;rfl
 | ref _=>cases r;rfl
 | ty _=>cases r;rfl
def RelV.inj{x:V}(r:RelV x u)(q:RelV y u):x=y:=AO (r.abs.symm.trans q.abs)
def Vals.inj:∀{xs ys:List V}{us:List AA},Vals xs us->Vals ys us->xs=ys:=by
 intro xs ys us h
 induction h generalizing ys with
 | nil=>intro h;cases h;rfl
 | cons r t ih=>intro h;cases h with| cons r' t'=>rw[r.inj r',ih t']
section
variable{ys:List V}
def SqL.of(h:H a=uA (.lst xs)):SqL K H a xs:=.inl (.inl h)
def uj:=@SqL.of
def SqT.of(h:H a=uA (.tup xs)):SqT K H a xs:=.inl (.inl h)
def uk:=@SqT.of
def Inv.list(I:Inv X aa σ H s)(h:SqL X.K H a xs):∃ag:List AA,Vals xs ag/\PlainL s.heap a ag.toArray/\xs.length<=sizeLine:=by
 rcases h with h| ⟨o,ag,n,hk,hc,hd,hs,hz,r⟩
 .obtain⟨z,ag,n,r,e⟩:=h.ok I.hok
  exact⟨ag,r,⟨_,n,e,rfl,rfl,rfl⟩,z⟩
 .refine⟨ag.toList,r,⟨o,n,I.kIn a o hk,hc,hd,by simpa using hs⟩,?_⟩
  have e:=r.length;simp only[A1] at e;exact xj e hz
def Inv.tuple(I:Inv X aa σ H s)(h:SqT X.K H a xs):∃ag:List AA,Vals xs ag/\S7 s.heap a ag.toArray/\xs.length<=sizeLine:=by
 rcases h with h| ⟨o,ag,n,hk,hc,hs,hz,r⟩
 .obtain⟨z,ag,r,p⟩:=h.ok I.hok
  exact⟨ag,r,p,z⟩
 .refine⟨ag.toList,r,⟨o,I.kIn a o hk,hc,n,by simpa using hs⟩,?_⟩
  have e:=r.length;simp only[A1] at e;exact xj e hz
def Inv.list_inj(I:Inv X aa σ H s)(h:SqL X.K H a xs)(h':SqL X.K H a ys):xs=ys:=by
 obtain⟨ag,r,⟨o,n,e,_,_,d⟩,_⟩:=I.list h;obtain⟨its',r',⟨o',n',e',_,_,d'⟩,_⟩:=I.list h';rw[e] at e';cases e';rw[d] at d';injection d' with d1 _
 have:ag=its':=by simpa using congrArg Su d1
 subst this;exact r.inj r'
def Inv.tuple_inj(I:Inv X aa σ H s)(h:SqT X.K H a xs)(h':SqT X.K H a ys):xs=ys:=by
 obtain⟨ag,r,⟨o,e,_,n,d⟩,_⟩:=I.tuple h;obtain⟨its',r',⟨o',e',_,n',d'⟩,_⟩:=I.tuple h';rw[e] at e';cases e';rw[d] at d';injection d' with d1 _
 have:ag=its':=by simpa using congrArg Su d1
 subst this;exact r.inj r'
end
noncomputable abbrev Cx.wish(X:Cx)(E:AA->AC->Prop):Cx:={X with xe:=E}
noncomputable abbrev Cx.nox(X:Cx):Cx:=X.wish λ_ _=>False
def Cx.Ok.wish(ok:X.Ok)(E:AA->AC->Prop):(X.wish E).Ok :=
 ⟨ok.mod,ok.kind,ok.glob,ok.blt,ok.above,ok.inj,ok.has,ok.cab,ok.hd,ok.frames,ok.stk,ok.exf,ok.bs,ok.bsz,ok.noex,ok.exfs,ok.funs,ok.frf⟩
def Cx.Ok.unwish(ok:(X.wish E).Ok):X.Ok :=
 ⟨ok.mod,ok.kind,ok.glob,ok.blt,ok.above,ok.inj,ok.has,ok.cab,ok.hd,ok.frames,ok.stk,ok.exf,ok.bs,ok.bsz,ok.noex,ok.exfs,ok.funs,ok.frf⟩
def Inv.wish(I:Inv X aa σ H s)(E:AA->AC->Prop):Inv (X.wish E) aa σ H s:=⟨I.ok.wish E,I.os,I.bare,I.base,I.loc,I.cell,I.free,I.freeC,I.pin,I.hok,I.len⟩
def Inv.unwish(I:Inv (X.wish E) aa σ H s):Inv X aa σ H s:=⟨I.ok.unwish,I.os,I.bare,I.base,I.loc,I.cell,I.free,I.freeC,I.pin,I.hok,I.len⟩
def SP.unwish{D:Ends}{f:Flow}(h:SP (X.wish E) aa D f s'):SP X aa D f s':=by
 cases f with
 | next=>obtain⟨σ',H',I,q⟩:=h;exact⟨σ',H',I.unwish,q⟩
 | brk=>obtain⟨σ',H',I,q⟩:=h;exact⟨σ',H',I.unwish,q⟩
 | cont=>obtain⟨σ',H',I,q⟩:=h;exact⟨σ',H',I.unwish,q⟩
 | ret u=>obtain⟨v,σ',H',I,r,q⟩:=h;exact⟨v,σ',H',I.unwish,r,q⟩
def PSs.nox{st:List Stmt}{t:TS}(h:PSs X.nox st t):PSs X st t:=λaa s σ H D I hw =>
 EI (h aa s σ H D (I.wish _) hw) (λ_ _ q=>q.unwish) λ_ _ z=>E8 z
section
variable{st:Stmt}{t u:TS}
def AHr:TS:=λD σ H=>D.nx σ H
def AIA(t u:TS):TS:=λD σ H=>t {D with nx:=u D} σ H
def BK:PSs X [] AHr:=λ_ _ σ H _ I h=>MS ⟨σ,H,I,h⟩
def Ad(h1:PS X st t)(h2:PSs X ar u):PSs X (st::ar) (AIA t u):=by
 intro aa s σ H D I h;refine OW (thn (h1 aa s σ H {D with nx:=u D} I h) λf s1 q=>?_);cases f with
 | next =>
  obtain⟨σ',H',I',q⟩:=q;exact h2 aa s1 σ' H' D I' q
 | ret v=>exact q
 | brk=>exact q
 | cont=>exact q
def Ag(h1:PS X st t):PSs X [st] t:=by
 intro aa s σ H D I h;refine OW (thn (h1 aa s σ H D I h) λf s1 q=>?_);cases f with
 | next=>exact MS q
 | ret v=>exact q
 | brk=>exact q
 | cont=>exact q
def Inv.quiet(I:Inv X aa σ H s):interactive X.env=false:=by simp[interactive,I.ok.kind]
def AHY(te:TE):TS:=λD σ H=>te σ H λ_ H1=>D.nx σ H1
def Ck(he:PE X e te)(hs:autoParam (MD e uB pos.line X.env=pure false) zA0._auto_1):PS X (.Expr e pos) (AHY te):=by
 intro aa s σ H D I h;exact wpAny_Expr_any (thn (he aa s σ H _ I h) λv s1 ⟨x,H1,I1,r1,q1⟩=>⟨σ,H1,I1,q1⟩) I.quiet hs
def AIT(te:TE):TS:=λD σ H=>te σ H D.rt
def Ao(he:PE X e te):PS X (.Return (uA e) pos) (AIT te):=by
 intro aa s σ H D I h;exact wpAny_Return_some (thn (he aa s σ H _ I h) λv s1 ⟨x,H1,I1,r1,q1⟩=>⟨x,σ,H1,I1,r1,q1⟩)
def AIH(c:TT)(t u:TS):TS:=λD σ H=>c σ H λb H1=>if b=true then t D σ H1 else u D σ H1
def Bl{a b:List Stmt}(hc:PT X c tc)(ha:PSs X a t)(hb:PSs X b u):PS X (.If c a b pos) (AIH tc t u):=by
 intro aa s σ H D I h;refine wpAny_If (thn (hc aa s σ H _ I h) λd s1 hq=>?_);obtain⟨H1,I1,q1⟩:=hq;cases d with
 | true=>exact ha aa s1 σ H1 D I1 q1
 | false=>exact hb aa s1 σ H1 D I1 q1
def AHK:TS:=λ_ _ _=>False
def Dv{sts:List Stmt}:PSs X sts AHK:=λ_ _ _ _ _ _ h=>h.elim
end
abbrev TG:=V->St->Hp->(St->Hp->Prop)->Prop
abbrev TGs:=List V->St->Hp->(St->Hp->Prop)->Prop
def PG(X:Cx)(cv:Expr)(t:TG):Prop :=
 ∀(aa:uQ) (s:AC) (σ:St) (H:Hp) (v:V) (u:AA) (Q:St->Hp->Prop),Inv X aa σ H s->RelV v u->t v σ H Q ->
  wpAny (AN X.prog X.w) X.A (Sz cv X.env u) (λ_ s'=>∃σ' H',Inv X aa σ' H' s'/\Q σ' H') X.xe s
def PGs(X:Cx)(ts:uV)(t:TGs):Prop :=
 ∀(aa:uQ) (s:AC) (σ:St) (H:Hp) (vs:List V) (us:List AA) (Q:St->Hp->Prop),Inv X aa σ H s->Vals vs us->t vs σ H Q ->
  wpAny (AN X.prog X.w) X.A (assignInOrder ((KI ts X.env).map (·.2)) us) (λ_ s'=>∃σ' H',Inv X aa σ' H' s'/\Q σ' H') X.xe s
abbrev TSet:=V->V->V->Hp->(Hp->Prop)->Prop
def PSet(X:Cx)(t:TSet):Prop :=
 ∀(aa:uQ) (s:AC) (σ:St) (H:Hp) (o i v:V) (ov iv u:AA) (Q:Hp->Prop),Inv X aa σ H s->RelV o ov->RelV i iv->RelV v u->t o i v H Q ->
  wpAny (AN X.prog X.w) X.A (VS ov iv u) (λ_ s'=>∃H',Inv X aa σ H' s'/\Q H') X.xe s
def gName(i:Nat):TG:=λv σ H Q=>Q (σ.set i (uA v)) H
def Yb(hN:X.N.Nodup)(hi:X.N[i]?=uA x)(hx:Loc X.env.scope x)(hf:autoParam (X.fn x=true\/X.env.scope.names.lookup x=uA .local) zB1._auto_1):PG X (.Name x pos) (gName i):=by
 intro aa s σ H v u Q I r h;exact Tb (TF I hN hi hx r (λs' I'=>⟨_,H,I',h⟩) hf)
theorem zB0(h:True:=by first| exact KW rfl| exact NU rfl):True:=h
def BP(hN:X.N.Nodup)(hi:autoParam (X.N[i]?=uA x) zA0._auto_1)(hx:autoParam (Loc X.env.scope x) zB0._auto_1)(hf:autoParam (X.fn x=true\/X.env.scope.names.lookup x=uA .local) zB0._auto_1):PG X (.Name x pos) (gName i):=Yb hN hi hx hf
def BJ(hN:X.N.Nodup:=by exact uG rfl)(hi:autoParam (X.N[i]?=uA x) zA0._auto_1)(hx:autoParam (Loc X.env.scope x) zB0._auto_1)(hf:autoParam (X.fn x=true\/X.env.scope.names.lookup x=uA .local) zB0._auto_1):PG X (.Name x pos) (gName i):=Yb hN hi hx hf
def gNil:TGs:=λvs σ H Q=>vs=[]/\Q σ H
def gCons(t:TG)(u:TGs):TGs:=λvs σ H Q=>∃v r,vs=v::r/\t v σ H λσ' H'=>u r σ' H' Q
def DK:PGs X [] gNil:=by
 intro aa s σ H vs us Q I r h;obtain⟨e,h⟩:=h;subst e;cases r;exact assignInOrder_nil ⟨σ,H,I,h⟩
def BW{t:TG}{u:TGs}(h1:PG X e t)(h2:PGs X es u)
  (hs:autoParam ((KI (e::es) X.env).map (·.2)=Sz e X.env::(KI es X.env).map (·.2)) zA0._auto_1):PGs X (e::es) (gCons t u):=by
 intro aa s σ H vs us Q I r h;obtain⟨v,vr,e1,h⟩:=h;subst e1;cases r with
 | cons r rr =>
  rw[hs];refine assignInOrder_cons (thn (h1 aa s σ H _ _ _ I r h) λ_ s1 hq=>?_);obtain⟨σ1,H1,I1,q1⟩:=hq;exact h2 aa s1 σ1 H1 _ _ Q I1 rr q1
def gTup(K:As)(n:Nat)(t:TGs):TG:=λv σ H Q=>∃a xs,v=.ref a/\SqT K H a xs/\xs.length=n/\t xs σ H Q
def Iv{k:Nat}{t:TGs}(hc:X.calm=true)(h:PGs X es t)
  (hn:autoParam ((KI es X.env).length=n) zA0._auto_1) (dE:autoParam ((KI es X.env).findIdx? (·.1)=uB) zA0._auto_1):PG X (.Tuple es k pos) (gTup X.K n t):=by
 intro aa s σ H v u Q I r hw;obtain⟨a,xs,e1,hq,hl,hw⟩:=hw;subst e1;cases r;obtain⟨ag,rv,ht,hz⟩:=I.tuple hq;refine assign_Tuple_tuple (I.ok.hd hc) ht (by simp[hn,<- hl,rv.length]) dE λh' hx=>?_;have I1:=I.kept (t':=s.toks) λb o e=>hx b o (BY (BH e)) e;exact h aa _ σ H xs _ Q I1 (by simpa using rv) hw
def gSub(to ti:TE)(t:TSet):TG:=λv σ H Q=>to σ H λo H1=>ti σ H1 λi H2=>t o i v H2 λH3=>Q σ H3
def Qv{o i:Expr}{to ti:TE}{t:TSet}(ho:PE X o to)(hi:PE X i ti)(hs:PSet X t)
  (ha:autoParam (∀v,Sz (.Subscript o i pos) X.env v=(do
   let ov <- NE [v] (eval o X.env)
   let iv <- NE [v,ov] (eval i X.env)
   VQ pos
   NE [v,ov,iv] (VS ov iv v)
   release [v,ov,iv] [])) zA2._auto_1):PG X (.Subscript o i pos) (gSub to ti t):=by
 intro aa s σ H v u Q I r h;rw[ha];refine Au (Ee (thn (ho aa s σ H _ I h) λov s1 hq=>?_));obtain⟨x,H1,I1,r1,q1⟩:=hq;refine Au (Ee (thn (hi aa s1 σ H1 _ I1 q1) λiv s2 hq=>?_));obtain⟨y,H2,I2,r2,q2⟩:=hq;refine Au (RH (Au (Ee (thn (hs aa s2 σ H2 x y v ov iv u _ I2 r1 r2 r q2) λ_ s3 hq=>?_))));obtain⟨H3,I3,q3⟩:=hq;exact wpAny_release ⟨σ,H3,I3,q3⟩
def AFX(te:TE)(g:TG):TS:=λD σ H=>te σ H λx H1=>g x σ H1 D.nx
def Jr{g:TG}(he:PE X e te)(hg:PG X tg g)(hs:autoParam (swapsWithSole [tg] e pos.line X.env=pure false) zA0._auto_1)(hw:autoParam (swappedStores [tg] e X.env=pure uB) zA0._auto_1)
  (h1:autoParam ((KI [tg] X.env).map (·.2)=[Sz tg X.env]) zA0._auto_1):PS X (.Assign [tg] e pos) (AFX te g):=by
 intro aa s σ H D I h;refine wpAny_Assign_stores (thn (he aa s σ H _ I h) λv s1 hq=>?_) hs hw;obtain⟨x,H1,I1,r1,q1⟩:=hq;rw[h1];exact thn (hg aa s1 σ H1 x v _ I1 r1 q1) λ_ s2 q=>q
def AGT(hN:X.N.Nodup)(hi:X.N[i]?=uA x)(hx:Loc X.env.scope x)(he:PE X e te)(hs:autoParam (MD e (uA (.Name x bh)) pos.line X.env=pure false) zA0._auto_1)(hf:autoParam (X.fn x=true\/X.env.scope.names.lookup x=uA .local) zB1._auto_1) :
  PS X (.Assign [.Name x bh] e pos) (AFX te (gName i)):=by
 intro aa s σ H D I h;refine wpAny_Assign_Name (thn (he aa s σ H _ I h) λv s1 hq=>?_) hs;obtain⟨y,H1,I1,r1,q1⟩:=hq;exact TF I1 hN hi hx r1 (λs2 I2=>⟨_,H1,I2,q1⟩) hf
def Ak(hN:X.N.Nodup)(he:PE X e te)(hi:autoParam (X.N[i]?=uA x) zA0._auto_1)(hx:autoParam (Loc X.env.scope x) zB0._auto_1)(hs:autoParam (MD e (uA (.Name x bh)) pos.line X.env=pure false) zA0._auto_1)(hf:autoParam (X.fn x=true\/X.env.scope.names.lookup x=uA .local) zB0._auto_1) :
  PS X (.Assign [.Name x bh] e pos) (AFX te (gName i)):=AGT hN hi hx he hs hf
def AGe(c:TT)(tb:TS):TS:=λD σ H=>∃W:Nat->St->Hp->Prop,(∃m,W m σ H)/\∀m σ H,W m σ H ->
 c σ H λb H1=>if b=true then ∃N:St->Hp->Prop,(∀σ' H',N σ' H'->∃m',m'<m/\W m' σ' H')/\tb {D with nx:=N,ct:=N,bk:=D.nx} σ H1 else D.nx σ H1
def Rt(hp:PassesOwn (AN X.prog X.w) X.A X.env X.xe)(hc:PT X c tc)(hb:PSs X body tb):PS X (.While c body [] pos) (AGe tc tb):=by
 intro aa s σ H D I h;obtain⟨W,⟨m0,w0⟩,turn⟩:=h;refine wpAny_While (codeAny_whileLoop (λn s'=>∃σ' H',Inv X aa σ' H' s'/\W n σ' H') ?_ m0 ⟨σ,H,I,w0⟩);rintro n s1 ⟨σ1,H1,I1,w1⟩;refine HZ hp (thn (hc aa s1 σ1 H1 _ I1 (turn n σ1 H1 w1)) λb s2 hq=>?_);obtain⟨H2,I2,q2⟩:=hq;cases b with
 | true =>
  obtain⟨N,hN,q2⟩:=q2;rw[uD rfl];refine HZ hp (thn (hb aa s2 σ1 H2 _ I2 q2) λf s3 q3=>?_);cases f with
  | next =>
   obtain⟨σ3,H3,I3,n3⟩:=q3;obtain⟨m',hm,w3⟩:=hN σ3 H3 n3;exact⟨m',hm,σ3,H3,I3,w3⟩
  | cont =>
   obtain⟨σ3,H3,I3,n3⟩:=q3;obtain⟨m',hm,w3⟩:=hN σ3 H3 n3;exact⟨m',hm,σ3,H3,I3,w3⟩
  | brk=>exact q3
  | ret v=>exact q3
 | false =>
  rw[uC BI];exact MS ⟨σ1,H2,I2,q2⟩
structure It where
 go:Nat->Hp->Prop
 yld:Nat->Hp->V->Hp->Prop
 stop:Nat->Hp->Prop
def FpOk(X:Cx)(aa:uQ)(H:Hp)(b:Addr):Prop :=
 H b=uB/\b≠X.env.locals/\b∉X.fs/\(b∈X.ex\/X.s₀.heap.objs.size<=b)/\(∀x c,X.env.cells.lookup x=uA c->c≠b)/\∀p∈X.pn++aa,p.1≠b
def Inv.fpOk(I:Inv X aa σ H s)(hb:s.heap.objs.size<=b)(hn:H' b=uB):FpOk X aa H' b:=by
 refine⟨hn,W8 (CF I.lt hb),I.nofs hb,.inr (BV I.sz hb),λx c e z=>?_,λp hp z=>?_⟩
 .obtain⟨v,q⟩:=I.cell x c e
  exact uH (CF q.lt (by rw[z];exact hb)) (FB _)
 .exact uH (CF (BH (I.pin p hp).1) (by rw[z];exact hb)) (FB _)
structure Turn(P:AM)(w:AS)(K:As)(tg:Expr)(J:It)(fp:uY)(it:Addr)(tn:Nat->Heap->Prop):Prop where
 mem:it∈fp
 obj:∀i h,tn i h->∀b∈fp,∃o,h.get? b=uA o/\∀v,o.data≠.cell v
 keep:∀i h h',tn i h->(∀b∈fp,∀o,h.get? b=uA o->h'.get? b=uA o)->tn i h'
 item:∀(X:Cx),X.prog=P->X.w=w->X.K=K->X.calm=true->∀(i:Nat) (aa:uQ) (s:AC) (σ:St) (H:Hp) (E:AA->AC->Prop),Inv X aa σ H s->(∀b∈fp,FpOk X aa H b)->tn i s.heap->J.go i H ->
  wpAny (AN P w) X.A (L8 (.ref it)) (λr s1=>∃u,r=uA u /\
   wpAny (AN P w) X.A (MT tg (.ref it) u) (λ_ s2=>∃x H',Inv X aa σ H' s2/\RelV x u/\J.yld i H x H'/\tn (i+1) s2.heap/\∀b∈fp,H' b=uB) E s1) E s
 done:∀(X:Cx),X.prog=P->X.w=w->X.K=K->X.calm=true->∀(i:Nat) (aa:uQ) (s:AC) (σ:St) (H:Hp) (E:AA->AC->Prop),Inv X aa σ H s->(∀b∈fp,FpOk X aa H b)->tn i s.heap->J.stop i H ->
  wpAny (AN P w) X.A (L8 (.ref it)) (λr s1=>r=uB/\Inv X aa σ H s1) E s
 self:∀(A:B0) (i:Nat) (s:AC) (Q:AA->AC->Prop) (E:AA->AC->Prop),tn i s.heap->Q (.ref it) s->wpAny (AN P w) A (QA (.ref it)) Q E s
abbrev TI:=St->Hp->(It->Hp->Prop)->Prop
def PIE(X:Cx)(aa:uQ)(σ:St)(tg:Expr)(R:It->Hp->Prop)(itv:AA)(s2:AC):Prop :=
 ∃(it:Addr) (fp:uY) (tn:Nat->Heap->Prop) (J:It) (H':Hp),itv=.ref it/\Inv X aa σ H' s2/\Turn X.prog X.w X.K tg J fp it tn/\tn 0 s2.heap/\(∀b∈fp,FpOk X aa H' b)/\R J H'
def PI(X:Cx)(tg iter:Expr)(wi:TI):Prop :=
 ∀(aa:uQ) (s:AC) (σ:St) (H:Hp) (R:It->Hp->Prop),Inv X aa σ H s->wi σ H R ->
  wpAny (AN X.prog X.w) X.A (eval iter X.env) (λv s1=>wpAny (AN X.prog X.w) X.A (QA v) (PIE X aa σ tg R) X.xe s1) X.xe s
def Yp{M:WN}{n:String}{vs:Array AA}{Q:Unit->AC->Prop}(ho:s.heap.get? it=uA o)(hc:o.cls=.type n)(hd:o.data=.fields vs)
  (hn:["enumerate","zip","dict_itemiterator","dict_reverseitemiterator","odict_iterator","itertools.zip_longest","itertools.pairwise"].contains n=false) (hQ:Q () s):wpAny M A (MT tg (.ref it) u) Q E s:=by
 unfold MT;cases tg<;>first
  | exact AE hQ
  | (cases u<;>first
    | exact AE hQ
    | (
      refine Au (Q6 ho ?_);rw[hc,hd];show wpAny M A (if(["enumerate","zip","dict_itemiterator","dict_reverseitemiterator","odict_iterator","itertools.zip_longest","itertools.pairwise"].contains n&&vs[0]? == uA (He _))=true then _ else _) Q E s;rw[uC (by intro h;rw[hn,VT] at h;cases h)];exact AE hQ))
def Itl(K:As)(a:Addr):It :=
 ⟨λi H=>∃xs x,SqL K H a xs/\xs[i]?=uA x,λi H x H'=>H'=H/\∀xs,SqL K H a xs->xs[i]?=uA x,λi H=>∃xs,SqL K H a xs/\xs.length<=i⟩
def Itt(K:As)(a:Addr):It :=
 ⟨λi H=>∃xs x,SqT K H a xs/\xs[i]?=uA x,λi H x H'=>H'=H/\∀xs,SqT K H a xs->xs[i]?=uA x,λi H=>∃xs,SqT K H a xs/\xs.length<=i⟩
def Itr(lo:Int)(n:Nat):It:=⟨λi _=>i<n,λi H x H'=>H'=H/\x=.int (lo+i),λi _=>n<=i⟩
def ZV(a it:Addr):Turn P w K tg (Itl K a) [it] it (λi h=>h.IsListIter it a i) where
 mem:=by simp
 obj:=λi h st b hb=>by
  have e:b=it:=by simpa using hb
  subst e;obtain⟨o,e,c,d⟩:=st;exact⟨o,e,λv z=>by rw[d] at z;cases z⟩
 keep:=λi h h' st k=>st.at λo e=>k it (by simp) o e
 item:=by
  intro X hP hw hK hc i aa s σ H E I hf st hg;subst hP hw hK;obtain⟨xs,x,hq,hx⟩:=hg;obtain⟨ag,rv,p,hz⟩:=I.list hq;obtain⟨u,hu,ru⟩:=rv.get hx;obtain⟨f0,f1,f2,f3,f4,f5⟩:=hf it (by simp);refine wpAny_pyNext_list_item st p.isList (x:=u) (by simpa using hu) λh' ah sb=>?_;have I1:=I.turned (t':=s.toks) (λb o hb e=>(sb.2 b hb).trans e) f0 f1 f3 f4 f5;obtain⟨o,e,c,d⟩:=id ah;exact⟨u,rfl,Yp (s:={s with heap:=h'}) e c d (by decide) ⟨x,H,I1,ru,⟨rfl,λys hy=>by rw[I.list_inj hy hq];exact hx⟩,ah,λb hb=>(hf b hb).1⟩⟩
 done:=by
  intro X hP hw hK hc i aa s σ H E I hf st hg;subst hP hw hK;obtain⟨xs,hq,hx⟩:=hg;obtain⟨ag,rv,p,hz⟩:=I.list hq;obtain⟨f0,f1,f2,f3,f4,f5⟩:=hf it (by simp);have hl:=rv.length;exact wpAny_pyNext_list_end (I.ok.hd hc) st p.isList (by simp;exact uT hl hx) λh' eb=>⟨rfl,I.turned (t':=s.toks) (λb o hb e=>eb b o hb e) f0 f1 f3 f4 f5⟩
 self:=λ_ _ _ _ _ st h=>wpAny_pyIter_listiter st h
def Vq(a it:Addr):Turn P w K tg (Itt K a) [it] it (λi h=>h.IsTupleIter it a i) where
 mem:=by simp
 obj:=λi h st b hb=>by
  have e:b=it:=by simpa using hb
  subst e;obtain⟨o,e,c,d⟩:=st;exact⟨o,e,λv z=>by rw[d] at z;cases z⟩
 keep:=λi h h' st k=>st.at λo e=>k it (by simp) o e
 item:=by
  intro X hP hw hK hc i aa s σ H E I hf st hg;subst hP hw hK;obtain⟨xs,x,hq,hx⟩:=hg;obtain⟨ag,rv,p,hz⟩:=I.tuple hq;obtain⟨u,hu,ru⟩:=rv.get hx;obtain⟨f0,f1,f2,f3,f4,f5⟩:=hf it (by simp);refine wpAny_pyNext_tuple_item st p (x:=u) (by simpa using hu) λh' ah sb=>?_;have I1:=I.turned (t':=s.toks) (λb o hb e=>(sb.2 b hb).trans e) f0 f1 f3 f4 f5;obtain⟨o,e,c,d⟩:=id ah;exact⟨u,rfl,Yp (s:={s with heap:=h'}) e c d (by decide) ⟨x,H,I1,ru,⟨rfl,λys hy=>by rw[I.tuple_inj hy hq];exact hx⟩,ah,λb hb=>(hf b hb).1⟩⟩
 done:=by
  intro X hP hw hK hc i aa s σ H E I hf st hg;subst hP hw hK;obtain⟨xs,hq,hx⟩:=hg;obtain⟨ag,rv,p,hz⟩:=I.tuple hq;obtain⟨f0,f1,f2,f3,f4,f5⟩:=hf it (by simp);have hl:=rv.length;exact wpAny_pyNext_tuple_end (I.ok.hd hc) st p (by simp;exact uT hl hx) λh' eb=>⟨rfl,I.turned (t':=s.toks) (λb o hb e=>eb b o hb e) f0 f1 f3 f4 f5⟩
 self:=λ_ _ _ _ _ st h=>wpAny_pyIter_tupleiter st h
def Vh(it:Addr)(lo:Int)(n:Nat):Turn P w K tg (Itr lo n) [it] it (λi h=>IsRangeIter h it (lo+(i:Nat)*1) ((n:Int)-(i:Nat)) 1) where
 mem:=by simp
 obj:=λi h st b hb=>by
  have e:b=it:=by simpa using hb
  subst e;exact⟨_,st,λv z=>by
   have z':=z;cases z'⟩
 keep:=λi h h' st k=>k it (by simp) _ st
 item:=by
  intro X hP hw hK hc i aa s σ H E I hf st hg;subst hP hw hK;obtain⟨f0,f1,f2,f3,f4,f5⟩:=hf it (by simp);have W:=X9 (prog:=X.prog) (w:=X.w) (I.ok.hd hc) it lo 1 n;refine W.item i s _ _ hg st λv h' tk hv ah kk=>?_;obtain⟨t,rfl⟩:=hv;have I1:Inv X aa σ H {s with heap:=h',toks:=tk}:=I.turned (λb o hb e=>kk b o (by simpa using hb) e) f0 f1 f3 f4 f5;refine⟨_,rfl,Yp (s:={s with heap:=h',toks:=tk}) (n:="range_iterator") ah rfl rfl (by decide) ⟨.int (lo+i),H,I1,⟨t,?_⟩,⟨rfl,rfl⟩,ah,λb hb=>(hf b hb).1⟩⟩;rw[TH]
 done:=by
  intro X hP hw hK hc i aa s σ H E I hf st hg;subst hP hw hK;obtain⟨f0,f1,f2,f3,f4,f5⟩:=hf it (by simp);exact PV (I.ok.hd hc) st (by have:n<=i:=hg;exact yg this) λh' eb=>⟨rfl,I.turned (t':=s.toks) (λb o hb e=>eb b o hb e) f0 f1 f3 f4 f5⟩
 self:=λ_ _ _ _ _ st h=>PY st h
def AHe(K:As)(tl:TE):TI:=λσ H R=>tl σ H λx H1=>∃a,x=.ref a/\(∃xs,SqL K H1 a xs)/\R (Itl K a) H1
def AIJ(K:As)(tl:TE):TI:=λσ H R=>tl σ H λx H1=>∃a,x=.ref a/\(∃xs,SqT K H1 a xs)/\R (Itt K a) H1
def CQ{l:Expr}{tl:TE}(hl:PE X l tl):PI X tg l (AHe X.K tl):=by
 intro aa s σ H R I h;refine thn (hl aa s σ H _ I h) λv s1 hq=>?_;obtain⟨x,H1,I1,r1,q1⟩:=hq;obtain⟨a,e,⟨xs,hq⟩,q⟩:=q1;subst e;cases r1;obtain⟨ag,rv,p,hz⟩:=I1.list hq;refine OB p.isList ?_;refine⟨s1.heap.objs.size,[s1.heap.objs.size],_,_,H1,rfl,I1.kept (t':=s1.toks) λb o e=>AL _ e,ZV a _,⟨_,A2 _ rfl,rfl,rfl⟩,λb hb=>?_,q⟩;have e:b=s1.heap.objs.size:=by simpa using hb
 subst e;exact I1.fpOk (AF _) (I1.hok.fresh (AF _))
def Qh{l:Expr}{tl:TE}(hl:PE X l tl):PI X tg l (AIJ X.K tl):=by
 intro aa s σ H R I h;refine thn (hl aa s σ H _ I h) λv s1 hq=>?_;obtain⟨x,H1,I1,r1,q1⟩:=hq;obtain⟨a,e,⟨xs,hq⟩,q⟩:=q1;subst e;cases r1;obtain⟨ag,rv,p,hz⟩:=I1.tuple hq;refine Ll p ?_;refine⟨s1.heap.objs.size,[s1.heap.objs.size],_,_,H1,rfl,I1.kept (t':=s1.toks) λb o e=>AL _ e,Vq a _,⟨_,A2 _ rfl,rfl,rfl⟩,λb hb=>?_,q⟩;have e:b=s1.heap.objs.size:=by simpa using hb
 subst e;exact I1.fpOk (AF _) (I1.hok.fresh (AF _))
def TV{R:It->Hp->Prop}{lo hi:Int}{t u v:Tok}(I:Inv X aa σ H s)(h1:-(2 ^ 62)<=lo)(h2:lo<2 ^ 62)(h3:-(2 ^ 62)<=hi)(h4:hi<2 ^ 62)
  (q:R (Itr lo (hi-lo).toNat) H):wpAny (AN X.prog X.w) X.A (QA (.ref s.heap.objs.size)) (PIE X aa σ tg R) E {s with heap:=s.heap.push {cls:=.type "range",data:=.fields #[.int lo t,.int hi u,.int 1 v]},toks:=tk}:=by
 refine SA (Ya ..) (V7 h1 h2 h3 h4) ?_;have I1:Inv X aa σ H {s with heap:=s.heap.push {cls:=.type "range",data:=.fields #[.int lo t,.int hi u,.int 1 v]},toks:=tk}:=I.kept λb o e=>AL _ e;refine⟨(s.heap.push {cls:=.type "range",data:=.fields #[.int lo t,.int hi u,.int 1 v]}).objs.size,[(s.heap.push {cls:=.type "range",data:=.fields #[.int lo t,.int hi u,.int 1 v]}).objs.size],_,_,H,rfl,
  I1.kept (t':=tk) λb o e=>AL _ e,Vh _ lo (hi-lo).toNat,?_,λb hb=>?_,q⟩
 .have e1:lo+((0:Nat):Int)*1=lo:=by simp
  have e2:(((hi-lo).toNat:Nat):Int)-((0:Nat):Int)=FF lo hi 1:=by rw[RI];split<;>lia
  rw[e1,e2];exact A2 _ rfl
 .have e:b=(s.heap.push {cls:=.type "range",data:=.fields #[.int lo t,.int hi u,.int 1 v]}).objs.size:=by simpa using hb
  subst e;exact I1.fpOk (AF _) (I1.hok.fresh (AF _))
def AHn(ta:TA):TI:=λσ H R=>ta σ H λvs H1=>∃j:Int,vs=[.int j]/\-(2 ^ 62)<=j/\j<2 ^ 62/\R (Itr 0 j.toNat) H1
def AHf(ta:TA):TI:=λσ H R=>ta σ H λvs H1=>∃i j:Int,vs=[.int i,.int j]/\(-(2 ^ 62)<=i/\i<2 ^ 62/\-(2 ^ 62)<=j/\j<2 ^ 62)/\R (Itr i (j-i).toNat) H1
def Cq{a:Expr}{ta:TA}{p:Pos}(hg:Gl X "range")(hm:X.mg "range" = uB)(ha:PA X [a] ta)(hs:autoParam (CC [a] X.env=[(false,eval a X.env)]) zA0._auto_1):PI X tg (.Call (.Name "range" p) [a] [] pos) (AHn ta):=by
 intro aa s σ H R I h;refine US (FJ I hg hm JA (DJ (thn (ha pos aa s σ H _ I h) λus s1 hq=>?_) hs rfl));obtain⟨vs,H1,I1,r1,q1⟩:=hq;obtain⟨j,e,q1,q2,q⟩:=q1;subst e;cases r1 with
 | cons r rr =>
  cases rr;obtain⟨t,rfl⟩:=r;exact call_range_1 (TV I1 (by lia) (by lia) q1 q2 (by simpa using q))
def Zj{a b:Expr}{ta:TA}{p:Pos}(hg:Gl X "range")(hm:X.mg "range" = uB)(ha:PA X [a,b] ta)(hs:autoParam (CC [a,b] X.env=[(false,eval a X.env),(false,eval b X.env)]) zA0._auto_1)(pW:autoParam (CC [b] X.env=[(false,eval b X.env)]) zA0._auto_1) :
  PI X tg (.Call (.Name "range" p) [a,b] [] pos) (AHf ta):=by
 intro aa s σ H R I h;refine US (FJ I hg hm JA (DJ (thn (ha pos aa s σ H _ I h) λus s1 hq=>?_) (by rw[hs,pW]) (by rw[pW];rfl)));obtain⟨vs,H1,I1,r1,q1⟩:=hq;obtain⟨i,j,e,⟨q1,q2,q3,q4⟩,q⟩:=q1;subst e;cases r1 with
 | cons r rr =>
  cases rr with
  | cons r' rr =>
   cases rr;obtain⟨t,rfl⟩:=r;obtain⟨t',rfl⟩:=r';exact call_range_2 (TV I1 q1 q2 q3 q4 q)
def AIL(wi:TI)(g:TG)(tb:TS):TS:=λD σ H=>wi σ H λJ H1=>∃W:Nat->Nat->St->Hp->Prop,(∃m,W 0 m σ H1)/\∀i m σ H,W i m σ H ->
 (J.stop i H/\D.nx σ H)\/(J.go i H/\∃N:St->Hp->Prop,(∀σ' H',N σ' H'->∃m',m'<m/\W (i+1) m' σ' H')/\∀x H',J.yld i H x H'->g x σ H' λσ2 H2=>tb {D with nx:=N,ct:=N,bk:=D.nx} σ2 H2)
def pinsAt(fp:uY)(h:Heap):uQ:=fp.filterMap λb=>(h.get? b).map λo=>(b,o)
def Gi(hb:b∈fp)(e:h.get? b=uA o):(b,o)∈pinsAt fp h:=NV.mpr ⟨b,hb,by rw[e];rfl⟩
def Zh{p:Addr×Obj}(hp:p∈pinsAt fp h):p.1∈fp/\h.get? p.1=uA p.2:=by
 obtain⟨b,hb,e⟩:=NV.mp hp;cases q:h.get? b with
 | none=>rw[q] at e;cases e
 | some o =>
  rw[q] at e;have e':=AO e;subst e';exact⟨hb,q⟩
def Inv.pinned(I:Inv X aa σ H s)(hf:∀b∈fp,FpOk X aa H b)(ho:∀b∈fp,∃o,s.heap.get? b=uA o/\∀v,o.data≠.cell v):Inv X (aa++pinsAt fp s.heap) σ H s :=
 I.pins_of λp hp=>(Co.mp hp).elim (λz=>I.pin p (Ct _ z)) λz=>by
  obtain⟨hb,e⟩:=Zh z;obtain⟨f0,f1,f2,_⟩:=hf p.1 hb;obtain⟨o,e',d⟩:=ho p.1 hb;rw[e] at e';cases e';exact⟨e,f0,f1,f2,d⟩
def Inv.unpinned{pl:uQ}(I:Inv X (aa++pl) σ H s):Inv X aa σ H s:=I.pins_of λp hp=>I.pin p (Ct _ (Ev _ hp))
def Cv{iter:Expr}{wi:TI}{g:TG}(hp:PassesOwn (AN X.prog X.w) X.A X.env X.xe)(hc:X.calm=true)(hi:PI X tg iter wi)(hg:PG X tg g)(hb:PSs X body tb)
  (hs:autoParam (∀x,OC iter X.env x=pure x) zA2._auto_1):PS X (.For tg iter body [] pos) (AIL wi g tb):=by
 intro aa s σ H D I h;refine wpAny_For (thn (hi aa s σ H _ I h) λv s1 h1=>thn h1 λitv s2 h2=>?_) hs;obtain⟨it,fp,tn,J,H2,e,I2,T,be,f2,W,⟨m0,w0⟩,turn⟩:=h2;subst e;have fg:∀{H':Hp},(∀b∈fp,H' b=uB)->∀b∈fp,FpOk X aa H' b:=λhn b hb=>⟨hn b hb,(f2 b hb).2⟩;refine codeAny_forLoop_any (λn s'=>∃i σ' H',Inv X aa σ' H' s'/\tn i s'.heap/\(∀b∈fp,H' b=uB)/\W i n σ' H') ?_ m0 ⟨0,σ,H2,I2,be,λb hb=>(f2 b hb).1,w0⟩;rintro n s3 ⟨i,σ3,H3,I3,dk,fr3,w3⟩;rcases turn i n σ3 H3 w3 with⟨stop,qn⟩| ⟨go,N,hN,step⟩
 .refine HZ hp (thn (T.done X rfl rfl rfl hc i aa s3 σ3 H3 X.xe I3 (fg fr3) dk stop) λr s4 hq=>?_)
  obtain⟨hr,I4⟩:=hq;subst hr;exact MS ⟨σ3,H3,I4,qn⟩
 .refine HZ hp (thn (T.item X rfl rfl rfl hc i aa s3 σ3 H3 X.xe I3 (fg fr3) dk go) λr s4 hq=>?_)
  obtain⟨u,hr,h4⟩:=hq;subst hr;refine HZ hp (thn h4 λ_ s5 hq=>?_);obtain⟨x,H5,I5,r5,y5,qY,fr5⟩:=hq;have I5':=I5.pinned (fg fr5) (T.obj _ _ qY);refine HZ hp (thn (hg _ s5 σ3 H5 x u _ I5' r5 (step x H5 y5)) λ_ s6 hq=>?_);obtain⟨σ6,H6,I6,q6⟩:=hq;refine HZ hp (thn (hb _ s6 σ6 H6 _ I6 q6) λf s7 q7=>?_);have again:∀{σ7:St}{H7:Hp},Inv X (aa++pinsAt fp s5.heap) σ7 H7 s7->N σ7 H7->∃m,m<n/\∃i σ' H',Inv X aa σ' H' s7/\tn i s7.heap/\(∀b∈fp,H' b=uB)/\W i m σ' H':=λ{σ7 H7} I7 n7=>by
   obtain⟨m',hm,w7⟩:=hN σ7 H7 n7;refine⟨m',hm,i+1,σ7,H7,I7.unpinned,T.keep _ _ _ qY λb hb o e=>(I7.pin (b,o) (Ct _ (Ct _ (Gi hb e)))).1,λb hb=>?_,w7⟩;obtain⟨o,e,d⟩:=T.obj _ _ qY b hb;exact(I7.pin (b,o) (Ct _ (Ct _ (Gi hb e)))).2.1
  cases f with
  | next=>obtain⟨σ7,H7,I7,n7⟩:=q7;exact again I7 n7
  | cont=>obtain⟨σ7,H7,I7,n7⟩:=q7;exact again I7 n7
  | brk=>obtain⟨σ7,H7,I7,q7⟩:=q7;exact⟨σ7,H7,I7.unpinned,q7⟩
  | ret v=>obtain⟨x7,σ7,H7,I7,r7,q7⟩:=q7;exact⟨x7,σ7,H7,I7.unpinned,r7,q7⟩
def Ej{g:TG}{D:Ends}(Pv:Nat->St->Hp->Prop)(h0:Pv 0 σ H)(hl:∀i σ H,i<=xs.length->Pv i σ H->SqL K H a xs)
  (hs:∀i x σ H,xs[i]?=uA x->Pv i σ H->g x σ H λσ2 H2=>tb {D with nx:=Pv (i+1),ct:=Pv (i+1),bk:=D.nx} σ2 H2) (hd:∀σ H,Pv xs.length σ H->D.nx σ H) :
  ∃W:Nat->Nat->St->Hp->Prop,(∃m,W 0 m σ H)/\∀i m σ H,W i m σ H ->
   ((Itl K a).stop i H/\D.nx σ H)\/((Itl K a).go i H/\∃N:St->Hp->Prop,(∀σ' H',N σ' H'->∃m',m'<m/\W (i+1) m' σ' H')/\∀x H',(Itl K a).yld i H x H'->g x σ H' λσ2 H2=>tb {D with nx:=N,ct:=N,bk:=D.nx} σ2 H2):=by
 refine⟨λi m σ H=>m=xs.length-i/\i<=xs.length/\Pv i σ H,⟨xs.length,by simp,By _,h0⟩,?_⟩;rintro i m σ H ⟨rfl,hi,p⟩;have q:=hl i σ H hi p;by_cases a8:i<xs.length
 .refine .inr ⟨⟨xs,xs[i],q,by simp[a8]⟩,Pv (i+1),λσ' H' p'=>⟨xs.length-(i+1),vB a8,rfl,a8,p'⟩,λx H' y=>?_⟩
  obtain⟨e,y⟩:=y;subst e;exact hs i x σ _ (y xs q) p
 .have e:i=xs.length:=vk hi a8
  subst e;exact .inl ⟨⟨xs,q,AF _⟩,hd σ H p⟩
def AEk{g:TG}{D:Ends}(Pv:Nat->St->Hp->Prop)(h0:Pv 0 σ H)(hl:∀i σ H,i<=xs.length->Pv i σ H->SqT K H a xs)
  (hs:∀i x σ H,xs[i]?=uA x->Pv i σ H->g x σ H λσ2 H2=>tb {D with nx:=Pv (i+1),ct:=Pv (i+1),bk:=D.nx} σ2 H2) (hd:∀σ H,Pv xs.length σ H->D.nx σ H) :
  ∃W:Nat->Nat->St->Hp->Prop,(∃m,W 0 m σ H)/\∀i m σ H,W i m σ H ->
   ((Itt K a).stop i H/\D.nx σ H)\/((Itt K a).go i H/\∃N:St->Hp->Prop,(∀σ' H',N σ' H'->∃m',m'<m/\W (i+1) m' σ' H')/\∀x H',(Itt K a).yld i H x H'->g x σ H' λσ2 H2=>tb {D with nx:=N,ct:=N,bk:=D.nx} σ2 H2):=by
 refine⟨λi m σ H=>m=xs.length-i/\i<=xs.length/\Pv i σ H,⟨xs.length,by simp,By _,h0⟩,?_⟩;rintro i m σ H ⟨rfl,hi,p⟩;have q:=hl i σ H hi p;by_cases a8:i<xs.length
 .refine .inr ⟨⟨xs,xs[i],q,by simp[a8]⟩,Pv (i+1),λσ' H' p'=>⟨xs.length-(i+1),vB a8,rfl,a8,p'⟩,λx H' y=>?_⟩
  obtain⟨e,y⟩:=y;subst e;exact hs i x σ _ (y xs q) p
 .have e:i=xs.length:=vk hi a8
  subst e;exact .inl ⟨⟨xs,q,AF _⟩,hd σ H p⟩
def Jw{lo:Int}{g:TG}{D:Ends}(Pv:Nat->St->Hp->Prop)(h0:Pv 0 σ H)
  (hs:∀i σ H,i<n->Pv i σ H->g (.int (lo+i)) σ H λσ2 H2=>tb {D with nx:=Pv (i+1),ct:=Pv (i+1),bk:=D.nx} σ2 H2) (hd:∀σ H,Pv n σ H->D.nx σ H) :
  ∃W:Nat->Nat->St->Hp->Prop,(∃m,W 0 m σ H)/\∀i m σ H,W i m σ H ->
   ((Itr lo n).stop i H/\D.nx σ H)\/((Itr lo n).go i H/\∃N:St->Hp->Prop,(∀σ' H',N σ' H'->∃m',m'<m/\W (i+1) m' σ' H')/\∀x H',(Itr lo n).yld i H x H'->g x σ H' λσ2 H2=>tb {D with nx:=N,ct:=N,bk:=D.nx} σ2 H2):=by
 refine⟨λi m σ H=>m=n-i/\i<=n/\Pv i σ H,⟨n,by simp,By _,h0⟩,?_⟩;rintro i m σ H ⟨rfl,hi,p⟩;by_cases a8:i<n
 .refine .inr ⟨a8,Pv (i+1),λσ' H' p'=>⟨n-(i+1),vB a8,rfl,a8,p'⟩,λx H' y=>?_⟩
  obtain⟨e,y⟩:=y;subst e y;exact hs i σ _ a8 p
 .have e:i=n:=vk hi a8
  subst e;exact .inl ⟨AF _,hd σ H p⟩
abbrev R2:=V->V->Hp->VK->Prop
def OpR(X:Cx)(f:AA->AA->Sem AA)(r:R2):Prop :=
 ∀(aa:uQ) (s:AC) (σ:St) (H:Hp) (x y:V) (v u:AA) (Q:VK),Inv X aa σ H s->RelV x v->RelV y u->r x y H Q ->
  wpAny (AN X.prog X.w) X.A (f v u) (EP X aa σ Q) X.xe s
def UnR(X:Cx)(f:AA->Sem AA)(r:V->Hp->VK->Prop):Prop :=
 ∀(aa:uQ) (s:AC) (σ:St) (H:Hp) (x:V) (v:AA) (Q:VK),Inv X aa σ H s->RelV x v->r x H Q ->
  wpAny (AN X.prog X.w) X.A (f v) (EP X aa σ Q) X.xe s
def CallR(X:Cx)(f:AA)(r:List V->Hp->VK->Prop):Prop :=
 ∀(aa:uQ) (s:AC) (σ:St) (H:Hp) (xs:List V) (us:List AA) (Q:VK),Inv X aa σ H s->Vals xs us->r xs H Q ->
  wpAny (AN X.prog X.w) X.A (call f us) (EP X aa σ Q) X.xe s
def tOp(r:R2)(ta tb:TE):TE:=λσ H Q=>ta σ H λx H1=>tb σ H1 λy H2=>r x y H2 Q
def tUn(r:V->Hp->VK->Prop)(ta:TE):TE:=λσ H Q=>ta σ H λx H1=>r x H1 Q
def rI(C:Int->Int->Prop)(g:Int->Int->V):R2:=λx y H Q=>E2 λi j=>A4 (x=.int i) (y=.int j) (C i j) (Q (g i j) H)
def rI0(g:Int->Int->V):R2:=λx y H Q=>E2 λi j=>A3 (x=.int i) (y=.int j) (Q (g i j) H)
def rU(g:Int->V):V->Hp->VK->Prop:=λx H Q=>∃i,x=.int i/\Q (g i) H
section
variable{a b:Expr}{tb tc:TE}
def binT(ha:PE X a ta)(hb:PE X b tb){R:V->V->Hp->Prop}(I:Inv X aa σ H s)
  (h:ta σ H λx H1=>tb σ H1 λy H2=>R x y H2){f:AA->AA->Sem AA}
  (hf:∀v u s2 x y H2,Inv X aa σ H2 s2->RelV x v->RelV y u->R x y H2->wpAny (AN X.prog X.w) X.A (f v u) Q X.xe s2) :
  wpAny (AN X.prog X.w) X.A (eval a X.env) (λv s₁=>wpAny (AN X.prog X.w) X.A (eval b X.env) (λu s₂=>wpAny (AN X.prog X.w) X.A (f v u) Q X.xe s₂) X.xe s₁) X.xe s:=by
 refine thn (ha aa s σ H _ I h) λv s1 hq=>?_;obtain⟨x,H1,I1,r1,q1⟩:=hq;refine thn (hb aa s1 σ H1 _ I1 q1) λu s2 hq=>?_;obtain⟨y,H2,I2,r2,q2⟩:=hq;exact hf v u s2 x y H2 I2 r1 r2 q2
def Ar{op:Operator}{r:R2}(ho:OpR X (HK op) r)(ha:PE X a ta)(hb:PE X b tb):PE X (.BinOp a op b pos) (tOp r ta tb):=by
 intro aa s σ H Q I h;exact wpAny_BinOp (binT ha hb I h λv u s2 x y H2 I2 rx ry q=>ho aa s2 σ H2 x y v u Q I2 rx ry q)
def Yk{op:UnaryOp}{r:V->Hp->VK->Prop}(ho:UnR X (unaryOp op) r)(ha:PE X a ta):PE X (.UnaryOp op a pos) (tUn r ta):=by
 intro aa s σ H Q I h;exact UnaryOp_ (thn (ha aa s σ H _ I h) λv s1 ⟨x,H1,I1,r1,q1⟩=>ho aa s1 σ H1 x v Q I1 r1 q1)
def opI{f:AA->AA->Sem AA}{C:Int->Int->Prop}{g:Int->Int->Int}
  (rule:∀(i j:Int) (t u:Tok) (s:AC) (Q:AA->AC->Prop) (E:AA->AC->Prop),C i j->Q (.int (g i j) s.toks) {s with toks:=s.toks+1}->wpAny (AN X.prog X.w) X.A (f (.int i t) (.int j u)) Q E s) :
  OpR X f (rI C λi j=>.int (g i j)):=by
 intro aa s σ H x y v u Q I rx ry h;obtain⟨i,j,rfl,rfl,hc,q⟩:=h;obtain⟨t,rfl⟩:=rx;obtain⟨t',rfl⟩:=ry;exact rule i j t t' s _ _ hc ⟨.int (g i j),H,I.tok _,⟨_,rfl⟩,q⟩
def opI0{f:AA->AA->Sem AA}{g:Int->Int->Int}
  (rule:∀(i j:Int) (t u:Tok) (s:AC) (Q:AA->AC->Prop) (E:AA->AC->Prop),Q (.int (g i j) s.toks) {s with toks:=s.toks+1}->wpAny (AN X.prog X.w) X.A (f (.int i t) (.int j u)) Q E s) :
  OpR X f (rI0 λi j=>.int (g i j)):=by
 intro aa s σ H x y v u Q I rx ry h;obtain⟨i,j,rfl,rfl,q⟩:=h;obtain⟨t,rfl⟩:=rx;obtain⟨t',rfl⟩:=ry;exact rule i j t t' s _ _ ⟨.int (g i j),H,I.tok _,⟨_,rfl⟩,q⟩
def opB0{f:AA->AA->Sem AA}{g:Int->Int->Bool}
  (rule:∀(i j:Int) (t u:Tok) (s:AC) (Q:AA->AC->Prop) (E:AA->AC->Prop),Q (.bool (g i j)) s->wpAny (AN X.prog X.w) X.A (f (.int i t) (.int j u)) Q E s) :
  OpR X f (rI0 λi j=>.bl (g i j)):=by
 intro aa s σ H x y v u Q I rx ry h;obtain⟨i,j,rfl,rfl,q⟩:=h;obtain⟨t,rfl⟩:=rx;obtain⟨t',rfl⟩:=ry;exact rule i j t t' s _ _ ⟨.bl (g i j),H,I,rfl,q⟩
def CDiv(i j:Int):Prop:=0<j/\j<1073741824
def CMul(i j:Int):Prop:=(-(2 ^ 64)<i/\i<2 ^ 64)\/(-(2 ^ 64)<j/\j<2 ^ 64)
def CMul.ok{i j:Int}(h:CMul i j):IntMulOk i j:=by
 rcases h with⟨h1,h2⟩| ⟨h1,h2⟩
 .exact .of_left (intBits_le_64 h1 h2)
 .exact .of_right (intBits_le_64 h1 h2)
def XH(k:Nat):(0:Int)<=2 ^ k:=by
 rw[two_pow_cast];exact Sj _
def Bv:OpR X (HK .Add) (rI0 λi j=>.int (i+j)):=opI0 λ_ _ _ _ _ _ _ q=>add_int q
def Em:OpR X (HK .Sub) (rI0 λi j=>.int (i-j)):=opI0 λ_ _ _ _ _ _ _ q=>sub_int q
def Jq:OpR X (HK .Mult) (rI CMul λi j=>.int (i*j)):=opI λ_ _ _ _ _ _ _ hc q=>mul_int q hc.ok
def Et:OpR X (HK .FloorDiv) (rI CDiv λi j=>.int (i / j)):=opI λi j _ _ _ _ _ hc q=>by
 have h1:=hc.1;have h2:=hc.2;exact floordiv_int (wF h1) (by rw[N8 i (wB h1)];exact q) (.inl (P0 (by lia)))
def Bu:OpR X (HK .Mod) (rI (λ_ j=>0<j) λi j=>.int (i%j)):=opI λi j _ _ _ _ _ hc q=>by
 have h1:=hc;exact mod_int' (wF hc) (by rw[Int.fmod_eq_emod_of_nonneg i (wB hc)];exact q)
def AGR:OpR X (HK .RShift) (rI (λ_ j=>0<=j) λi j=>.int (i / 2 ^ j.toNat)):=opI λi j _ _ _ _ _ hc q =>
 rshift_int hc (by rw[N8 i (XH _)];exact q)
def AGd:OpR X (HK .BitAnd) (rI0 λi j=>.int (Builtin.bitAnd i j)):=opI0 λ_ _ _ _ _ _ _ q=>and_int q
def unI{f:AA->Sem AA}{g:Int->Int}
  (rule:∀(i:Int) (t:Tok) (s:AC) (Q:AA->AC->Prop) (E:AA->AC->Prop),Q (.int (g i) s.toks) {s with toks:=s.toks+1}->wpAny (AN X.prog X.w) X.A (f (.int i t)) Q E s) :
  UnR X f (rU λi=>.int (g i)):=by
 intro aa s σ H x v Q I rx h;obtain⟨i,rfl,q⟩:=h;obtain⟨t,rfl⟩:=rx;exact rule i t s _ _ ⟨.int (g i),H,I.tok _,⟨_,rfl⟩,q⟩
def Qa:UnR X (unaryOp .USub) (rU λi=>.int (-i)):=unI λ_ _ _ _ _ q=>neg_int q
end
noncomputable def scal:V->V->Bool
 | .non,.non=>true| .non,.int _=>true| .int _,.non=>true| .non,.bl _=>true| .bl _,.non=>true| .non,.str _=>true| .str _,.non=>true
 | .int _,.int _=>true| .bl _,.bl _=>true| .str _,.str _=>true| .byt _,.byt _=>true
 | .int _,.str _=>true| .str _,.int _=>true| .bl _,.str _=>true| .str _,.bl _=>true
 | _,_=>false
def rEq:R2:=λx y H Q=>scal x y=true/\Q (.bl (decide (x=y))) H
def rNe:R2:=λx y H Q=>scal x y=true/\Q (.bl (!decide (x=y))) H
def YK{i j:Int}:decide (V.int i=V.int j)=(i==j):=by
 rw[Ex];simp
def ABy{i j:Bool}:decide (V.bl i=V.bl j)=(i==j):=by
 rw[Ex];simp
def Yu{i j:Str}:decide (V.str i=V.str j)=(i==j):=by
 rw[Ex];simp
def Xx{i j:Array UInt8}:decide (V.byt i=V.byt j)=(i.toList==j.toList):=by
 rw[Ex];cases i;cases j;simp
section
variable{a b:Expr}{tb tc:TE}
def Bf{Q:VK}{k k':Bool}(I:Inv X aa σ H s)(q:Q (.bl k) H)(e:k=k'):EP X aa σ Q (.bool k') s:=by
 subst e;exact⟨.bl k,H,I,rfl,q⟩
def Cp:OpR X (D8 .Eq) rEq:=by
 intro aa s σ H x y v u Q I rx ry h;obtain⟨hs,q⟩:=h;cases x with
 | non =>
  cases rx;cases y with
  | non=>cases ry;exact WO (Bf I q (by simp))
  | bl j=>cases ry;exact WP (Bf I q (by simp))
  | int j=>obtain⟨t',rfl⟩:=ry;exact W9 (Bf I q (by simp))
  | str j=>obtain⟨t',rfl⟩:=ry;exact Xs (Bf I q (by simp))
  | _=>exact uH hs BI
 | bl i =>
  cases rx;cases y with
  | non=>cases ry;exact WS (Bf I q (by simp))
  | bl j=>cases ry;exact eq_bool (Bf I q ABy)
  | str j=>obtain⟨t',rfl⟩:=ry;exact WU (Bf I q (by simp))
  | _=>exact uH hs BI
 | int i =>
  obtain⟨t,rfl⟩:=rx;cases y with
  | non=>cases ry;exact Xt (Bf I q (by simp))
  | int j=>obtain⟨t',rfl⟩:=ry;exact eq_int (Bf I q YK)
  | str j=>obtain⟨t',rfl⟩:=ry;exact XA (Bf I q (by simp))
  | _=>exact uH hs BI
 | str i =>
  obtain⟨t,rfl⟩:=rx;cases y with
  | non=>cases ry;exact XB (Bf I q (by simp))
  | bl j=>cases ry;exact WV (Bf I q (by simp))
  | int j=>obtain⟨t',rfl⟩:=ry;exact XE (Bf I q (by simp))
  | str j=>obtain⟨t',rfl⟩:=ry;exact eq_str (Bf I q Yu)
  | _=>exact uH hs BI
 | byt i =>
  obtain⟨t,rfl⟩:=rx;cases y with
  | byt j=>obtain⟨t',rfl⟩:=ry;exact PySem.W.eq_bytes (Bf I q Xx)
  | _=>exact uH hs BI
 | _=>cases y<;>exact uH hs BI
def Jf:OpR X (D8 .NotEq) rNe:=by
 intro aa s σ H x y v u Q I rx ry h;obtain⟨hs,q⟩:=h;cases x with
 | non =>
  cases rx;cases y with
  | non=>cases ry;exact WZ (Bf I q (by simp))
  | bl j=>cases ry;exact W0 (Bf I q (by simp))
  | int j=>obtain⟨t',rfl⟩:=ry;exact XG (Bf I q (by simp))
  | str j=>obtain⟨t',rfl⟩:=ry;exact XI (Bf I q (by simp))
  | _=>exact uH hs BI
 | bl i =>
  cases rx;cases y with
  | non=>cases ry;exact W1 (Bf I q (by simp))
  | bl j=>cases ry;exact ne_bool (Bf I q (congrArg not ABy))
  | str j=>obtain⟨t',rfl⟩:=ry;exact W2 (Bf I q (by simp))
  | _=>exact uH hs BI
 | int i =>
  obtain⟨t,rfl⟩:=rx;cases y with
  | non=>cases ry;exact XN (Bf I q (by simp))
  | int j=>obtain⟨t',rfl⟩:=ry;exact ne_int (Bf I q (congrArg not YK))
  | str j=>obtain⟨t',rfl⟩:=ry;exact XO (Bf I q (by simp))
  | _=>exact uH hs BI
 | str i =>
  obtain⟨t,rfl⟩:=rx;cases y with
  | non=>cases ry;exact XT (Bf I q (by simp))
  | bl j=>cases ry;exact W3 (Bf I q (by simp))
  | int j=>obtain⟨t',rfl⟩:=ry;exact XU (Bf I q (by simp))
  | str j=>obtain⟨t',rfl⟩:=ry;exact ne_str (Bf I q (congrArg not Yu))
  | _=>exact uH hs BI
 | byt i =>
  obtain⟨t,rfl⟩:=rx;cases y with
  | byt j=>obtain⟨t',rfl⟩:=ry;exact PySem.W.ne_bytes (Bf I q (congrArg not Xx))
  | _=>exact uH hs BI
 | _=>cases y<;>exact uH hs BI
def Px:OpR X (D8 .Lt) (rI0 λi j=>.bl (decide (i<j))):=opB0 λ_ _ _ _ _ _ _ q=>lt_int q
def Yh:OpR X (D8 .Gt) (rI0 λi j=>.bl (decide (j<i))):=opB0 λ_ _ _ _ _ _ _ q=>gt_int q
def AFo:OpR X (D8 .GtE) (rI0 λi j=>.bl (decide (j<=i))):=opB0 λ_ _ _ _ _ _ _ q=>ge_int q
def AFR:OpR X (D8 .IsNot) (λx y H Q=>y=.non/\Q (.bl (!decide (x=.non))) H):=by
 intro aa s σ H x y v u Q I rx ry h;obtain⟨rfl,q⟩:=h;cases ry;refine VO (Bf I q ?_);cases x<;>first
  | (cases rx;rfl)
  | (obtain⟨t,rfl⟩:=rx;rfl)
def nomark(b:Expr)(h:autoParam (op≠.In) zA1._auto_1)(h2:autoParam (op≠.NotIn) zA1._auto_1):JE op b=false:=by
 have e1:(op==Zs)=false:=by cases op<;>first| rfl| exact uH rfl h
 have e2:(op==X8)=false:=by cases op<;>first| rfl| exact uH rfl h2
 cases b<;>simp[JE,e1,e2]
theorem zB2(h:True:=by exact nomark _):True:=h
def Cw{r:R2}(ho:OpR X (D8 op) r)(ha:PE X a ta)(hb:PE X b tb)(hm:autoParam (JE op b=false) zB2._auto_1):PE X (.Compare a [op] [b] pos) (tOp r ta tb):=by
 intro aa s σ H Q I h;exact wpAny_Compare1 (binT ha hb I h λv u s2 x y H2 I2 rx ry q=>ho aa s2 σ H2 x y v u Q I2 rx ry q) hm
def AFl(t:TE):TT:=λσ H Q=>t σ H λx H'=>∃k,x=.bl k/\Q k H'
def Am{r:R2}(ho:OpR X (D8 op) r)(ha:PE X a ta)(hb:PE X b tb)(hm:autoParam (JE op b=false) zB2._auto_1):PT X (.Compare a [op] [b] pos) (AFl (tOp r ta tb)):=by
 intro aa s σ H Q I h;refine Qr (thn (ha aa s σ H _ I h) λv s1 ⟨x,H1,I1,r1,q1⟩=>thn (hb aa s1 σ H1 _ I1 q1) λu s2 ⟨y,H2,I2,r2,q2⟩ =>
  thn (ho aa s2 σ H2 x y v u _ I2 r1 r2 q2) λc s3 ⟨z,H3,I3,r3,k,e,q3⟩=>?_) hm
 subst e;cases r3;exact G9 ⟨H3,I3,q3⟩
def line63:(sizeLine:Nat)<2 ^ 63:=by rw[F6];decide
def vals1{x:V}(r:Vals [x] us):∃u,us=[u]/\RelV x u:=by
 cases r with
 | cons r1 r2=>cases r2;exact⟨_,rfl,r1⟩
def vals2{x:V}(r:Vals [x,y] us):∃u w',us=[u,w']/\RelV x u/\RelV y w':=by
 cases r with
 | cons r1 r2 =>
  cases r2 with
  | cons r3 r4=>cases r4;exact⟨_,_,rfl,r1,r3⟩
def Oz(hc:X.calm=true):CallR X (.builtin "min") (λxs H Q=>∃i j,xs=[.int i,.int j]/\Q (.int (if j<i then j else i)) H):=by
 intro aa s σ H xs us Q I r h;obtain⟨i,j,rfl,q⟩:=h;obtain⟨u,w',rfl,⟨t,rfl⟩,⟨t',rfl⟩⟩:=vals2 r;refine min_two_ints (I.ok.hd hc) λh' tk k=>⟨_,H,I.kept k,?_,q⟩;by_cases hj:j<i
 .rw[uD hj,uD hj];exact⟨_,rfl⟩
 .rw[uC hj,uC hj];exact⟨_,rfl⟩
end
structure ObjM(h:Heap)(x dx C:Addr)(mA:Str->Option AA):Prop where
 obj:h.get? x=uA (F7 C dx)
 ns:h.Ns1 dx mA
 ne:dx≠x
set_option tactic.hygienic true in
theorem ZG(n:h.Ns1 dx mA):∃od,h.get? dx=uA od/\∀name,NF name od=uA (mA name):=by
 obtain⟨o,es,ep,ho,hd,hk,_,hm⟩:=n;refine⟨o,ho,λname=>?_⟩;have e:=hm name;unfold nsFind findBy at e;rw[<- Array.find?_toList] at e;unfold NF;rw[hd];dsimp only;split
 .rename_i y q
  rw[q] at e;exact congrArg uA e
 .rename_i q
  rw[q] at e;have a:es.toList.any (·.refKey)=false:=by
   rw[List.any_eq_false];intro y hy;obtain⟨z,t,hkey⟩:=hk y (Array.mem_toList_iff.mp hy);simp[DictEntry.refKey,hkey]
  have a':¬ es.toList.any (·.refKey)=true:=by rw[a];exact BI
  rw[uC a'];exact congrArg uA e
def ObjM.look{x:Addr}(I:ObjM h x dx C mA):∃od,PySem.W.InstAt h x (F7 C dx) C (uA od)/\∀name,NF name od=uA (mA name) :=
 let ⟨od,ho,hl⟩:=ZG I.ns
 ⟨od,⟨I.obj,rfl,rfl,ho⟩,hl⟩
section
variable{x:Addr}{v:AA}
def get_map{expr:Bool}(X:K.In s.heap)(I:ObjM s.heap x dx C mA)(hg:KL K C name=true)(hh:LV K C=true)
  (ha:DL K (.ref C) name=uA uB) (hv:mA name=uA v) (i7:T6 v=true) (h:Q v {s with toks:=s.toks+1}) :
  wpAny (AN prog w) A (getAttr (.ref x) name expr) Q E s:=by
 obtain⟨od,J,hl⟩:=I.look;exact PySem.W.get_value X J (No hg).1 (PySem.W.findObj_own hh ha rfl (by rw[hl,hv])) i7 h
def ADY{pl:Sem Bool}{Q:AA×List AA->AC->Prop}(X:K.In s.heap)(I:ObjM s.heap x dx C mA)(hg:KL K C name=true)
  (hf:DL K (.ref C) name=uA (uA (.ref f))) (ht:MU K (.ref f)=true) (hv:mA name=uB) (h:Q (.ref f,[.ref x]) s) :
  wpAny (AN prog w) A (SC (.ref x) name pl) Q E s:=by
 obtain⟨od,J,hl⟩:=I.look;exact PySem.W.method_fn X J (No hg).1 (No hg).2 hf (beq_iff_eq.mp ht) (by show(NF name od).map (·.isSome)=uA false;rw[hl,hv];rfl) h
def AEt{ns:uU}{Q:Unit->AC->Prop}(X:K.In s.heap)(I:ObjM s.heap x dx C mA)
  (hs:DL K (.ref C) "__setattr__" = uA (uA (.builtin "object.__setattr__"))) (hp:OE K C=true) (ht:Pp K C name=uA uB) (hh:LV K C=true)
  (hw:Sr mA ns) (hsz:ns.length<=sizeLine)
  (h:∀h',ObjM h' x dx C (λy=>if y=name then uA v else mA y)->EX dx s.heap h'->Q () {s with heap:=h',toks:=s.toks+2}) :
  wpAny (AN prog w) A (setAttr (.ref x) name v) Q E s:=by
 obtain⟨od,J,hl⟩:=I.look;refine PySem.W.set_plain X J hs (PySem.W.osa_open (s:={s with toks:=s.toks+1}) (r:=uB) X J hp ht λb=>?_);obtain⟨cd,hc,cr⟩:=PySem.W.any_some hh;have hx:=I.obj;refine Au (AE (Au (Au (wpAny_loadPart hx (Au (YY (s:={s with toks:=s.toks+1}) (PySem.W.looks_clsIn X hc) ?_))))));rw[cr];refine AE (a:=uA dx) (Au (AE (Au ?_)));refine wpAny_nsSet1 (s:={s with toks:=s.toks+1}) I.ns λh' hn2 pW=>?_;obtain⟨oD,esD,epD,hoD,hdD,hcD⟩:=hn2.count (Y8 name v hw);refine Au (wpAny_lookBehind hoD (by rw[hdD];exact pastItsLine_dict (BV hcD (by rw[DS];exact vD hsz))) ?_);exact AE (h _ ⟨(pW.2 _ (Bi I.ne)).trans I.obj,hn2,I.ne⟩ pW)
def ACk{R:UT->AC->Prop}(X:K.In s.heap)(hm:MV K C=true)
  (hi:DL K (.ref C) "__init__" = uA (uA (.ref f))) (hf:PySem.W.typeIn K (.ref f)=uA (.type "function"))
  (h:codeAny (AN prog w) (A.under (.builtin "type.__call__" ⟨.ref C::vs,kw⟩)) (.call (.ref f) ⟨.ref (s.heap.objs.size+1)::vs,kw⟩) (PySem.W.InitBack (s.heap.objs.size+1) R)
   {s with heap:=(s.heap.push E6).push (F7 C s.heap.objs.size)}) :
  codeAny (AN prog w) A (.call (.ref C) ⟨vs,kw⟩) R s:=by
 obtain⟨hh,g,d,t,os⟩:=s;exact PySem.W.make_core (PySem.W.makes_of X hm) (PySem.W.looks_findIn X hi) (λself=>PySem.W.bind_fn X self hf) (.inl rfl) h
end
noncomputable def putF(f:Str)(v:V):List (Str×V)->List (Str×V)
 | []=>[(f,v)]
 | (g,x)::r=>if g=f then(g,v)::r else(g,x)::putF f v r
theorem Aj(f g:Str)(v:V):∀fs:List (Str×V),(putF f v fs).lookup g=if g=f then uA v else fs.lookup g
 | []=>by
  show FL g [(f,v)]=_;by_cases h:g=f
  .have hb:(g==f)=true:=beq_iff_eq.mpr h
   simp only[FL,hb,uD h]
  .have hb:=beq_eq_false_iff_ne.mpr h
   simp only[FL,hb,uC h]
 | (k,x)::r=>by
  have ih:=Aj f g v r;rw[show putF f v ((k,x)::r)=(if k=f then(k,v)::r else(k,x)::putF f v r) from rfl];by_cases hk:k=f
  .rw[uD hk]
   by_cases h:g=k
   .have hb:=beq_iff_eq.mpr h
    simp only[FL,hb,uD (h.trans hk)]
   .have hb:=beq_eq_false_iff_ne.mpr h
    simp only[FL,hb,uC (λe:g=f=>h (e.trans hk.symm))]
  .rw[uC hk]
   by_cases h:g=k
   .have hb:=beq_iff_eq.mpr h
    simp only[FL,hb,uC (λe:g=f=>hk (h.symm.trans e))]
   .have hb:=beq_eq_false_iff_ne.mpr h
    simp only[FL,hb];exact ih
theorem Ji(f:Str)(v:V):∀fs:List (Str×V),f∈(putF f v fs).map (·.1)/\∀g,g∈fs.map (·.1)->g∈(putF f v fs).map (·.1)
 | []=>⟨by simp[putF],λg h=>by simp at h⟩
 | (k,x)::r=>by
  obtain⟨i1,i2⟩:=Ji f v r;rw[show putF f v ((k,x)::r)=(if k=f then(k,v)::r else(k,x)::putF f v r) from rfl];by_cases hk:k=f
  .rw[uD hk]
   subst hk;exact⟨by simp,λg h=>by simpa using h⟩
  .rw[uC hk]
   refine⟨?_,λg h=>?_⟩
   .rw[B8]
    exact AK _ i1
   .rw[B8] at h ⊢
    rcases AW.mp h with e| e
    .exact AW.mpr (.inl e)
    .exact AK _ (i2 g e)
theorem KR(f:Str)(v:V):∀fs:List (Str×V),(putF f v fs).length<=fs.length+1
 | []=>by simp[putF]
 | (k,x)::r=>by
  have ih:=KR f v r;rw[show putF f v ((k,x)::r)=(if k=f then(k,v)::r else(k,x)::putF f v r) from rfl];by_cases hk:k=f
  .rw[uD hk,DS,DS];exact uO
  .rw[uC hk,DS,DS];exact vD ih
def ue{o:Option AA}(r:RelO (uA v) o):∃u,o=uA u/\RelV v u:=by
 cases o with
 | none=>exact r.elim
 | some u=>exact⟨u,rfl,r⟩
def uf{o:Option AA}(r:RelO uB o):o=uB:=by
 cases o with
 | none=>rfl
 | some u=>exact r.elim
def Zz(r:RelV v u):T6 u=true:=by
 cases v with
 | non=>cases r;rfl
 | bl b=>cases r;rfl
 | int i=>obtain⟨t,e⟩:=r;cases e;rfl
 | str x=>obtain⟨t,e⟩:=r;cases e;rfl
 | byt b=>obtain⟨t,e⟩:=r;cases e;rfl
 | flt b=>obtain⟨t,e⟩:=r;cases e;rfl
 | ref a=>cases r;rfl
 | ty n=>cases r;rfl
section
variable{fs fs':List (Str×V)}
def Kq(hok:HOk P w H h)(e:H a=uA (.ins C dx fs)):∃mA,ObjM h a dx C mA/\(∀f,RelO (fs.lookup f) (mA f))/\Sr mA (fs.map (·.1))/\fs.length<=1000/\H dx=uA (.own a):=by
 obtain⟨d,z,ne,ob,mA,n,r,q⟩:=(hok a _ e);exact⟨mA,⟨ob,n,ne⟩,r,q,z,d⟩
end
structure Cls(K:As)(C:Addr):Prop where
 pg:KL K C Str.empty=true
 hd:LV K C=true
 po:OE K C=true
 sa:DL K (.ref C) "__setattr__" = uA (uA (.builtin "object.__setattr__"))
def Cls.get(c:Cls K C)(f:Str):KL K C f=true:=c.pg
def NoAttr(K:As)(C:Addr)(f:Str):Prop:=DL K (.ref C) f=uA uB
def NoAttr.taker{f:Str}(n:NoAttr K C f):Pp K C f=uA uB:=by
 unfold Pp;rw[show DL K (.ref C) f=uA uB from n];rfl
structure Meth(K:As)(C:Addr)(m:Str)(f:Addr):Prop where
 at_:DL K (.ref C) m=uA (uA (.ref f))
 fn:MU K (.ref f)=true
 kp:DI K (.ref f)=true
section
variable{fs:List (Str×V)}{f:Str}
def Vl{b:Bool}(I:Inv X aa σ H s)(e:H a=uA (.ins C dx fs))(c:Cls X.K C)(n:NoAttr X.K C f)(l:fs.lookup f=uA v)
  (h:∀u s',Inv X aa σ H s'->RelV v u->Q u s'):wpAny (AN X.prog X.w) A (getAttr (.ref a) f b) Q E s:=by
 obtain⟨mA,O,r,_,_,_⟩:=Kq I.hok e;obtain⟨u,hu,ru⟩:=ue (v:=v) (o:=mA f) (by rw[<- l];exact r f);exact get_map I.kIn O (c.get f) c.hd n hu (Zz ru) (h u _ (I.tok _) ru)
def Lb{m:Str}{g:Addr}{pl:Sem Bool}{Q:AA×List AA->AC->Prop}(I:Inv X aa σ H s)(e:H a=uA (.ins C dx fs))(c:Cls X.K C)(k:Meth X.K C m g)(l:fs.lookup m=uB)
  (h:Q (.ref g,[.ref a]) s):wpAny (AN X.prog X.w) A (SC (.ref a) m pl) Q E s:=by
 obtain⟨mA,O,r,_,_,_⟩:=Kq I.hok e;have hn:=uf (by rw[<- l];exact r m);exact ADY I.kIn O (c.get m) k.at_ k.fn hn h
def XQ{Q:Unit->AC->Prop}(I:Inv X aa σ H s)(e:H a=uA (.ins C dx fs))(c:Cls X.K C)(n:NoAttr X.K C f)(hl:fs.length<1000)(ry:RelV y u)
  (h:∀s',Inv X aa σ (upd H a (.ins C dx (putF f y fs))) s'->Q () s'):wpAny (AN X.prog X.w) A (setAttr (.ref a) f u) Q E s:=by
 obtain⟨mA,O,r,wi,_,ho⟩:=Kq I.hok e;have hz:(fs.map (·.1)).length<=sizeLine:=by rw[AB,F6];lia
 refine AEt I.kIn O c.sa c.po n.taker c.hd wi hz λh' O' sb=>h _ ?_;have hd:∃o,h'.get? dx=uA o:=by obtain⟨o,_,_,e',_⟩:=O'.ns;exact⟨o,e'⟩
 refine I.write (x:=a) (e:=dx) (by rw[e];exact IC) (.inr ho) (λb q hb z=>(sb.2 b hb).trans z) hd ?_;refine⟨by rw[Ah O.ne];exact ho,?_,O.ne,O'.obj,_,O'.ns,λg=>?_,λg hg=>?_⟩
 .have:=KR f y fs;exact wS this hl
 .rw[Aj]
  by_cases q:g=f
  .rw[uD q,uD q];exact ry
  .rw[uC q,uC q];exact r g
 .by_cases q:g=f
  .rw[q];exact(Ji f y fs).1
  .refine(Ji f y fs).2 g (wi g λz=>hg ?_)
   show(if g=f then uA u else mA g)=uB;rw[uC q];exact z
def Inv.made(I:Inv X aa σ H s):Inv X aa σ (upd (upd H s.heap.objs.size (.own (s.heap.objs.size+1))) (s.heap.objs.size+1) (.ins C s.heap.objs.size []))
  {s with heap:=(s.heap.push E6).push (F7 C s.heap.objs.size)}:=by
 have e1:(s.heap.push E6).get? s.heap.objs.size=uA E6:=A2 s.heap rfl;have e2:((s.heap.push E6).push (F7 C s.heap.objs.size)).get? (s.heap.objs.size+1)=uA (F7 C s.heap.objs.size):=by
  have:=A2 (s.heap.push E6) (o:=F7 C s.heap.objs.size) rfl
  rwa [FY] at this
 have e3:(s.heap.push E6).Ns s.heap.objs.size (λ_=>uB):=⟨E6,#[],_,e1,rfl,(λe he=>uH he (by simp)),λ_=>rfl⟩;have I1:=I.laid (a:=s.heap.objs.size) (o:=.own (s.heap.objs.size+1)) (h':=s.heap.push E6) (t':=s.toks) (λb u q=>AL _ q) (AF _) ⟨_,e1⟩;refine I1.laid (a:=s.heap.objs.size+1) (o:=.ins C s.heap.objs.size []) (t':=s.toks) (λb u q=>AL _ q) (MQ (FY _ _)) ?_;have ne:s.heap.objs.size≠s.heap.objs.size+1:=BY (Fk _);refine⟨by rw[Ah ne,Ab],By _,ne,e2,λ_=>uB,(Heap.Ns1.of_empty e3).at λo q=>AL _ q,λ_=>IC,λy hy=>uH rfl hy⟩
def AEx{env:Env}{f:Str}(hb:K0 e f env (eval e env)=eval e env)
  (h:wpAny (AN prog w) A (eval e env) (λo s₁=>wpAny (AN prog w) A (getAttr o f true) Q E s₁) E s):wpAny (AN prog w) A (eval (.Attribute e f pos) env) Q E s :=
 Attribute_any_ h (by rw[arm_eval_Attribute,hb])
end
def AHy(K:As)(ta:TE)(f:Str):TE:=λσ H Q=>ta σ H λx H1=>E5 λa C dx fs v=>A6 (x=.ref a) (H1 a=uA (.ins C dx fs)) (Cls K C) (NoAttr K C f) (fs.lookup f=uA v) (Q v H1)
def AIQ(K:As)(ta tv:TE)(f:Str):TS:=λD σ H=>tv σ H λy H1=>ta σ H1 λx H2=>∃a C dx fs,x=.ref a/\H2 a=uA (.ins C dx fs)/\Cls K C/\NoAttr K C f/\fs.length<1000 /\
 D.nx σ (upd H2 a (.ins C dx (putF f y fs)))
section
variable{o:Expr}{f:Str}{tv:TE}
def Bg(he:PE X e ta)(hb:K0 e f X.env (eval e X.env)=eval e X.env):PE X (.Attribute e f pos) (AHy X.K ta f):=by
 intro aa s σ H Q I h;refine AEx hb (thn (he aa s σ H _ I h) λu s1 hq=>?_);obtain⟨x,H1,I1,rx,a,C,dx,fs,v,ex,ea,c,n,l,q⟩:=hq;subst ex;obtain rfl:u=A9 a:=rx;exact Vl I1 ea c n l λu' s2 I2 ru=>⟨v,H1,I2,ru,q⟩
def El(ha:PE X o ta)(hv:PE X a5 tv)(hs:MD a5 (uA (.Attribute o f bh)) pos.line X.env=pure false):PS X (.Assign [.Attribute o f bh] a5 pos) (AIQ X.K ta tv f):=by
 intro aa s σ H D I h;refine plainObj_wpAny_Assign_Attribute (thn (hv aa s σ H _ I h) λu s1 ⟨y,H1,I1,ry,q⟩=>thn (ha aa s1 σ H1 _ I1 q) λov s2 hq=>?_) hs;obtain⟨x,H2,I2,rx,a,C,dx,fs,ex,ea,c,n,l,q2⟩:=hq;subst ex;obtain rfl:ov=A9 a:=rx;exact XQ I2 ea c n l ry λs3 I3=>⟨σ,_,I3,q2⟩
end
structure Room(k:Nat)(A:B0):Prop where
 hd:A.handled=uB
 dp:A.depth+3*k+5<VU
 un:A.units+16*k+200<C2
 gd:A.guards=uA []
def Room.mono{k:Nat}(r:Room k A)(h:j<=k):Room j A:=⟨r.hd,by have:=r.dp;lia,by have:=r.un;lia,r.gd⟩
def Room.deeper{k:Nat}(r:Room (k+1) A)(env:Env):Room k (A.deeper env) :=
 ⟨r.hd,by have:=r.dp;show A.depth+1+3*k+5<_;exact xX this,by have:=r.un;show A.units+3+16*k+200<_;lia,r.gd⟩
def WX:(A.under (.builtin "type.__call__" ⟨.ref C::us,kw⟩)).depth=A.depth+1:=by
 first| rfl| simp[OX,Code.weight,Code.isCreation,Code.isGuard,Code.isCaller,Yf,SD,guardIds]
def Xe:(A.under (.builtin "type.__call__" ⟨.ref C::us,kw⟩)).units=A.units+1:=by
 first| rfl| simp[OX,Code.cUnits,Yf,SD]
def Uk(hg:A.guards=uA []):(A.under (.builtin "type.__call__" ⟨.ref C::us,kw⟩)).guards=uA []:=by
 have h:(Code.builtin "type.__call__" ⟨.ref C::us,kw⟩).isGuard=false:=by
  show guardIds.contains "type.__call__" = false;decide+kernel
 simp[OX,Code.guards,h,pushGuards,hg]
def Room.make{k:Nat}(r:Room (k+1) A)(C:Addr)(us:List AA)(kw:List (Str×AA)):Room k (A.under (.builtin "type.__call__" ⟨.ref C::us,kw⟩)) :=
 ⟨r.hd,by have:=r.dp;rw[WX];exact xX this,by have:=r.un;rw[Xe];lia,Uk r.gd⟩
def Room.depth{k:Nat}(r:Room k A):A.depth<VU:=by have:=r.dp;lia
def Room.units{k:Nat}(r:Room k A):A.units+64<C2:=by have:=r.un;lia
def AHj:TA:=λ_ H Q=>Q [] H
def AHb(ta:TE)(tr:TA):TA:=λσ H Q=>ta σ H λx H1=>tr σ H1 λxs H2=>Q (x::xs) H2
section
variable{t:TA}
def Ac:PA X [] AHj:=λ_ _ _ _ H Q I h=>LW ⟨[],H,I,.nil,h⟩
def Aa(ha:PE X e te)(hr:PA X es t)(hs:autoParam (CC (e::es) X.env=(false,eval e X.env)::CC es X.env) zA0._auto_1):PA X (e::es) (AHb te t):=by
 intro pos aa s σ H Q I h;rw[hs];refine JP (thn (ha aa s σ H _ I h) λu s1 hq=>?_);obtain⟨x,H1,I1,r1,q1⟩:=hq;exact thn (hr pos aa s1 σ H1 _ I1 q1) λus s2 ⟨xs,H2,I2,r2,q2⟩=>⟨x::xs,H2,I2,.cons r1 r2,q2⟩
def AIF(t:TA):TE:=λσ H Q=>t σ H λxs H1=>xs.length<=sizeLine/\∀p,H1 p=none->Q (.ref p) (upd H1 p (.tup xs))
def AIE(t:TA):TE:=λσ H Q=>t σ H λxs H1=>xs.length<=sizeLine/\∀p,H1 p=none->Q (.ref p) (upd H1 p (.lst xs))
def Cr{x1}(h:PA X es t):PE X (.Tuple es x1 pos) (AIF t):=by
 intro aa s σ H Q I hq;refine wpAny_Tuple_spliced (thn (h pos aa s σ H _ I hq) λus s1 ⟨xs,H1,I1,r,z,q⟩=>⟨by rw[<- r.length];exact z,?_⟩);have hf:=I1.hok.fresh (AF _);refine⟨.ref s1.heap.objs.size,upd H1 s1.heap.objs.size (.tup xs),I1.laid (t':=s1.toks) (λb u e=>AL _ e) (AF _) ?_,rfl,q _ hf⟩;exact⟨z,us,r,⟨_,A2 _ rfl,rfl,_,rfl⟩⟩
def Cu(h:PA X es t):PE X (.List es pos) (AIE t):=by
 intro aa s σ H Q I hq;refine wpAny_List_spliced (thn (h pos aa s σ H _ I hq) λus s1 ⟨xs,H1,I1,r,z,q⟩=>⟨by rw[<- r.length];exact z,?_⟩);have hf:=I1.hok.fresh (AF _);refine⟨.ref s1.heap.objs.size,upd H1 s1.heap.objs.size (.lst xs),I1.laid (t':=s1.toks) (λb u e=>AL _ e) (AF _) ?_,rfl,q _ hf⟩;exact⟨z,us,0,r,A2 _ rfl⟩
end
abbrev Sp:=List V->Hp->VK->XK->Prop
variable{sp:L2.Sp}
abbrev CXT:=List Env->Hp->AC->XK->AA->AC->Prop
variable{CX:L2.CXT}
structure Env0(P:AM)(w:AS)(K:As)(mg:Str->Option AA)(base:Heap)(A:B0)(outer:List Env)(s:AC)(H:Hp):Prop where
 frames:A.frames=uA outer
 mod:Mod K mg base
 bs:∀b o,base.get? b=uA o->s.heap.get? b=uA o/\H b=uB
 bsz:base.objs.size<=s.heap.objs.size
 funs:s.heap.FunFrames base outer
 frf:∀b∈frs outer,H b=uB
 hok:HOk P w H s.heap
 bare:MC s.gens
def CE(outer:List Env)(P:AM)(w:AS)(H:Hp)(s:AC)(Q:VK)(u:AA)(s':AC):Prop :=
 ∃v H',s'.os=s.os/\MC s'.gens/\Un (frs outer) [] H H' s.heap s'.heap/\HOk P w H' s'.heap/\RelV v u/\Q v H'
def CR(CX:CXT)(outer:List Env)(P:AM)(w:AS)(H:Hp)(s:AC)(Q:VK)(E:XK)(r:UT)(s':AC):Prop :=
 match r with
 | .ok (.ret u)=>CE outer P w H s Q u s'
 | .ok _=>False
 | .error e=>CX outer H s E e s'
structure FnOk(P:AM)(w:AS)(K:As)(mg:Str->Option AA)(base:Heap)(CX:CXT)(k:Nat)(f:Addr)(fd:Bz)(ps:uU)(sp:Sp):Prop where
 len:∀vs H Q E,sp vs H Q E->vs.length=ps.length
 run:∀(A:B0) (outer:List Env) (s:AC) (H:Hp) (args:Args) (us:List AA) (vs:List V) (Q:VK) (E:XK),Room k A->Env0 P w K mg base A outer s H->QE s fd args (ps.zip us)->Vals vs us->sp vs H Q E ->
  codeAny (AN P w) A (.call (.ref f) args) (CR CX outer P w H s Q E) s
def Env0.make{outer:List Env}(e:Env0 P w K mg base A outer s H)(C:Addr)(us:List AA)(kw:List (Str×AA)) :
  Env0 P w K mg base (A.under (.builtin "type.__call__" ⟨.ref C::us,kw⟩)) outer s H:=⟨by first| exact e.frames| (simpa [OX,Code.envs,SD,pushEnvs] using e.frames),e.mod,e.bs,e.bsz,e.funs,e.frf,e.hok,e.bare⟩
def Inv.env0(I:Inv X aa σ H s):Env0 X.prog X.w X.K X.mg X.base X.A X.stack s H :=
 ⟨I.ok.frames,I.ok.mod,I.bs,BV I.ok.bsz I.sz,I.stack,I.stkFree,I.hok,I.bare⟩
def Inv.after{Q:VK}(I:Inv X aa σ H s)(h:CE X.stack X.prog X.w H s Q u s'):EP X aa σ Q u s':=by
 obtain⟨v,H',os,bare,un,hok,r,q⟩:=h;obtain⟨hh,g,d,t,os'⟩:=s';obtain rfl:os'=s.os:=os;exact⟨v,H',I.call (h':=hh) (g':=g) (d':=d) (t':=t) (ch:=[]) un hok bare (λb z=>uH z (by simp)),r,q⟩
def AFt(sp:Sp)(dv:List V)(E:XK)(t:TA):TE:=λσ H Q=>t σ H λvs H1=>sp (vs++dv) H1 Q E
def AFp(C:Addr)(m:Str)(sp:Sp)(dv:List V)(E:XK)(ta:TE)(t:TA):TE:=λσ H Q=>ta σ H λx H1=>∃a dx fs,x=.ref a/\H1 a=uA (.ins C dx fs)/\fs.lookup m=uB /\
 t σ H1 λvs H2=>sp (x::(vs++dv)) H2 Q E
def AHu(C:Addr)(sp:Sp)(dv:List V)(E:XK)(t:TA):TE:=λσ H Q=>t σ H λvs H1=>∀x dx,H1 x=none->H1 dx=none->dx≠x ->
 sp (.ref x::(vs++dv)) (upd (upd H1 dx (.own x)) x (.ins C dx [])) (λv H2=>v=.non/\Q (.ref x) H2) E
def Binds(K:As)(fd:Bz)(ps:uU)(ds:List AA):Prop :=
 ∀(s:AC) (us:List AA),K.In s.heap->(us++ds).length=ps.length->QE s fd ⟨us,[]⟩ (ps.zip (us++ds))
def Binds.all(h:∀us:List AA,us.length=ps.length->T7 fd ⟨us,[]⟩=pure (ps.zip us)):Binds K fd ps []:=λs us _ hl=>by
 rw[Cc] at hl ⊢;exact .of_eq (h us hl)
def Passes(CX:CXT)(X:Cx)(E:XK):Prop:=∀(aa:uQ) (σ:St) (H:Hp) (s:AC) (e:AA) (s':AC),Inv X aa σ H s->CX X.stack H s E e s'->X.xe e s'
section
variable{k:Nat}{dv:List V}{ds:List AA}{E:XK}{m:Str}{p:Pos}{o:Expr}{t:TA}
def Vj{Q:VK}{vs:List V}(F:FnOk X.prog X.w X.K X.mg X.base CX k f fd ps sp)(hr:Room k X.A)(hb:Binds X.K fd ps ds)(hd:Vals dv ds)(hx:Passes CX X E)
  (I:Inv X aa σ H s) (r:Vals vs us) (h:sp (vs++dv) H Q E):wpAny (AN X.prog X.w) X.A (call (.ref f) us) (EP X aa σ Q) X.xe s:=by
 have r2:=r.append hd;have hl:(us++ds).length=ps.length:=by rw[<- r2.length];exact F.len _ _ _ _ h
 refine UU (FM (F.run X.A X.stack s H ⟨us,[]⟩ (us++ds) (vs++dv) Q E hr I.env0 (hb s us I.kIn hl) r2 h) λr s' hq=>?_);cases r with
 | error e=>exact hx aa σ H s e s' I hq
 | ok fl =>
  cases fl with
  | ret u=>exact I.after hq
  | next=>exact E8 hq
  | brk=>exact E8 hq
  | cont=>exact E8 hq
def Hw(F:FnOk X.prog X.w X.K X.mg X.base CX k f fd ps sp)(hr:Room k X.A)(hg:Gl X x)(hm:X.mg x=uA (.ref f))(hk:DI X.K (.ref f)=true)(hb:Binds X.K fd ps ds)(hd:Vals dv ds)(hx:Passes CX X E)
  (ha:PA X (e::es) t) (me:autoParam ((x==("__debug__" : Str))=false) zA1._auto_1) (he:autoParam (CC (e::es) X.env=(false,eval e X.env)::CC es X.env) zA0._auto_1) (eW:autoParam ((JO pos (CC es X.env)).any (·.1)=false) zA0._auto_1) :
  PE X (.Call (.Name x p) (e::es) [] pos) (AFt sp dv E t):=by
 intro aa s σ H Q I h;refine HQ (Rk I hg hm ?_ me);refine NX (h₀:=X.base) I.ok.mod.kin hk (thn (ha pos aa s σ H _ I h) λus s1 ⟨vs,H1,I1,r,q⟩=>⟨I1.kIn,?_⟩) he eW;exact Vj F hr hb hd hx I1 r q
def Bq{pl:Sem Bool}(he:PE X o ta)(c:Cls X.K C)(hm:Meth X.K C m f)(F:FnOk X.prog X.w X.K X.mg X.base CX k f fd ps sp)(hr:Room k X.A)(hb:Binds X.K fd ps ds)(hd:Vals dv ds)(hx:Passes CX X E)(ha:PA X (e::es) t)
  (dE:autoParam (CC (e::es) X.env=(false,eval e X.env)::CC es X.env) zA0._auto_1) (eW:autoParam ((JO pos (CC es X.env)).any (·.1)=false) zA0._auto_1)
  (ht:autoParam (eval (.Call (.Attribute o m bv) (e::es) [] pos) X.env=(do
   let ov <- eval o X.env
   VQ bv.atName
   let (f,first) <- NE [ov] (SC ov m pl)
   callWith pos f first (JO pos (CC (e::es) X.env)) (T8 pos (P3 [] X.env)))) zA0._auto_1) :
  PE X (.Call (.Attribute o m bv) (e::es) [] pos) (AFp C m sp dv E ta t):=by
 intro aa s σ H Q I h;refine QH (pl:=pl) (thn (he aa s σ H _ I h) λu s1 hq=>?_) ht;obtain⟨x,H1,I1,rx,a,dx,fs,ex,ea,l,q⟩:=hq;subst ex;obtain rfl:u=A9 a:=rx;refine Lb I1 ea c hm l ?_;refine NX (first:=[.ref a]) (h₀:=X.base) I.ok.mod.kin hm.kp (thn (ha pos aa s1 σ H1 _ I1 q) λus s2 ⟨vs,H2,I2,r,q2⟩=>⟨I2.kIn,?_⟩) dE eW;exact Vj (us:=.ref a::us) (vs:=.ref a::vs) F hr hb hd hx I2 (.cons rfl r) q2
def Bt{pl:Sem Bool}(he:PE X o ta)(c:Cls X.K C)(hm:Meth X.K C m f)(F:FnOk X.prog X.w X.K X.mg X.base CX k f fd ps sp)(hr:Room k X.A)(hb:Binds X.K fd ps ds)(hd:Vals dv ds)(hx:Passes CX X E)
  (ht:autoParam (eval (.Call (.Attribute o m bv) [] [] pos) X.env=(do
   let ov <- eval o X.env
   VQ bv.atName
   let (f,first) <- NE [ov] (SC ov m pl)
   callWith pos f first (JO pos (CC [] X.env)) (T8 pos (P3 [] X.env)))) zA0._auto_1) :
  PE X (.Call (.Attribute o m bv) [] [] pos) (AFp C m sp dv E ta AHj):=by
 intro aa s σ H Q I h;refine QH (pl:=pl) (thn (he aa s σ H _ I h) λu s1 hq=>?_) ht;obtain⟨x,H1,I1,rx,a,dx,fs,ex,ea,l,q⟩:=hq;subst ex;obtain rfl:u=A9 a:=rx;refine Lb I1 ea c hm l ?_;exact PySem.W.callWith_K0 (first:=[.ref a]) I1.kIn hm.kp (Vj (us:=[.ref a]) (vs:=[.ref a]) F hr hb hd hx I1 (.cons rfl .nil) q)
structure Mk(K:As)(C f:Addr):Prop where
 makes:MV K C=true
 init:DL K (.ref C) "__init__" = uA (uA (.ref f))
 fn:MU K (.ref f)=true
 kp:DI K (.ref C)=true
def ACw{Q:VK}{vs:List V}(M:Mk X.K C f)(F:FnOk X.prog X.w X.K X.mg X.base CX k f fd ps sp)(hr:Room (k+1) X.A)(hb:Binds X.K fd ps ds)(hd:Vals dv ds)
  (hx:Passes CX X E) (I:Inv X aa σ H s) (r:Vals vs us)
  (h:∀x dx,H x=none->H dx=none->dx≠x->sp (.ref x::(vs++dv)) (upd (upd H dx (.own x)) x (.ins C dx [])) (λv H2=>v=.non/\Q (.ref x) H2) E) :
  wpAny (AN X.prog X.w) X.A (call (.ref C) us) (EP X aa σ Q) X.xe s:=by
 have hq:=h (s.heap.objs.size+1) s.heap.objs.size (I.hok.fresh (NN _)) (I.hok.fresh (AF _)) (BY (Fk _));have I2:=Inv.made (C:=C) I;have r2:Vals (V.ref (s.heap.objs.size+1)::(vs++dv)) (A9 (s.heap.objs.size+1)::(us++ds)):=.cons rfl (r.append hd);have hl:(A9 (s.heap.objs.size+1)::us++ds).length=ps.length:=by
  have e:=r2.length;rw[F.len _ _ _ _ hq] at e;exact e.symm
 refine UU (ACk (f:=f) I.kIn M.makes M.init (beq_iff_eq.mp M.fn) (FM (F.run _ X.stack _ _ ⟨A9 (s.heap.objs.size+1)::us,[]⟩ (A9 (s.heap.objs.size+1)::(us++ds)) _ _ E (hr.make C us [])
  (I2.env0.make C us []) (hb _ (A9 (s.heap.objs.size+1)::us) I2.kIn hl) r2 hq) λr s' ic=>?_))
 cases r with
 | error e=>exact hx aa σ _ _ e s' I2 ic
 | ok fl =>
  cases fl with
  | ret u =>
   obtain⟨v,H',I3,rv,ev,q3⟩:=I2.after ic;subst ev;exact⟨rv,⟨V.ref (s.heap.objs.size+1),H',I3,rfl,q3⟩⟩
  | next=>exact E8 ic
  | brk=>exact E8 ic
  | cont=>exact E8 ic
def Gg(M:Mk X.K C f)(F:FnOk X.prog X.w X.K X.mg X.base CX k f fd ps sp)(hr:Room (k+1) X.A)(hg:Gl X x)(hm:X.mg x=uA (.ref C))(hb:Binds X.K fd ps ds)(hd:Vals dv ds)(hx:Passes CX X E)
  (ha:PA X (e::es) t) (me:autoParam ((x==("__debug__" : Str))=false) zA1._auto_1) (he:autoParam (CC (e::es) X.env=(false,eval e X.env)::CC es X.env) zA0._auto_1) (eW:autoParam ((JO pos (CC es X.env)).any (·.1)=false) zA0._auto_1) :
  PE X (.Call (.Name x p) (e::es) [] pos) (AHu C sp dv E t):=by
 intro aa s σ H Q I h;refine HQ (Rk I hg hm ?_ me);refine NX (h₀:=X.base) I.ok.mod.kin M.kp (thn (ha pos aa s σ H _ I h) λus s1 ⟨vs,H1,I1,r,q⟩=>⟨I1.kIn,?_⟩) he eW;exact ACw M F hr hb hd hx I1 r q
end
structure FnScope(N P:uU)(sc:F5):Prop where
 kind:sc.kind=.function
 co:sc.isCoroutine=false
 gen:sc.isGenerator=false
 nd:N.Nodup
 pre:N.take P.length=P
 par:∀x∈P,sc.names.lookup x=uA .local\/sc.names.lookup x=uA .cell
 nofree:∀y∈sc.names,y.2≠.free
abbrev zl0:uU:=["points","ties"]
abbrev zl1:uU:=["many","tie"]
abbrev zl2:uU:=["self","many","ties"]
abbrev zl3:uU:=["self"]
abbrev zl4:uU:=["self","point"]
abbrev zl5:uU:=["web","number"]
abbrev zl6:uU:=["self","n","rows","head"]
abbrev zl7:uU:=["places","row"]
abbrev zl8:uU:=["self","web","rule"]
abbrev zl9:uU:=["self","state","point"]
abbrev zl10:uU:=["self","web","state"]
abbrev zl11:uU:=["self","web","state","number"]
abbrev zl12:uU:=["self","web","state","point"]
abbrev zl13:uU:=["self","a","b"]
abbrev zl14:uU:=["self","web"]
abbrev zl15:uU:=["_law_script","_law_k"]
abbrev zl16:uU:=["heads","head"]
abbrev zl17:uU:=["numbers","some"]
abbrev zl18:uU:=["web","some"]
abbrev zl19:uU:=["counts"]
abbrev zl20:uU:=["_law_rows_here","_law_cell"]
abbrev zl21:uU:=["many","ties"]
abbrev zl22:uU:=["rows","top"]
abbrev zl23:uU:=["n","rows","top"]
abbrev zl24:uU:=["sieve"]
abbrev zl25:uU:=["self","number","reached"]
abbrev zl26:uU:=["state","tie"]
abbrev zl27:uU:=["self","state","tie"]
abbrev zl28:uU:=["web","rule"]
abbrev zl29:uU:=["_law_cell"]
abbrev zl30:uU:=["_law_many","_law_number"]
abbrev zl31:uU:=["heads","one","other"]
abbrev zl32:uU:=["self","web","some"]
abbrev zl33:uU:=["_law_told"]
abbrev zl34:uU:=["sieve","some"]
abbrev zl35:uU:=["_law_rows_here","_law_some","_law_begin","_law_end"]
abbrev zl36:uU:=["_law_rows_here","_law_begin","_law_end","_law_cell"]
noncomputable abbrev zl37:uU:=["_law_rows_here","_law_begin","_law_end","_law_told","_law_cell","_law_k"]
noncomputable abbrev zl38:uU:=["_law_rule","_law_many","_law_rows_here","_law_begin","_law_end"]
abbrev zl39:uU:=["_law_web_here","_law_rows_here","_law_begin","_law_end"]
def fscp{N P:uU}(h:(sc.kind=.function/\sc.isCoroutine=false)/\sc.isGenerator=false/\N.Nodup/\N.take P.length=P/\(∀x∈P,sc.names.lookup x=uA .local\/sc.names.lookup x=uA .cell)/\∀y∈sc.names,y.2≠.free):FnScope N P sc :=
 ⟨h.1.1,h.1.2,h.2.1,h.2.2.1,h.2.2.2.1,h.2.2.2.2.1,h.2.2.2.2.2⟩
theorem Ph{kindOf:Str->Option IM}{x:Str}:∀{binds:List (Str×AA)}{m:Str->Option AA},(∀v,(x,v)∉binds)->Q7 kindOf binds m x=m x
 | [],_,_=>rfl
 | (n,v)::r,m,h=>by
  unfold Q7;rw[Ph λw hw=>h w (AK _ hw)];split
  .have:x≠n:=by rintro rfl;exact h v AJ
   simp[this]
  .rfl
theorem Og{kindOf:Str->Option IM}{x:Str}:∀{binds:List (Str×AA)}{m:Str->Option AA},(∀v,(x,v)∉binds)->Q8 kindOf binds m x=m x
 | [],_,_=>rfl
 | (n,v)::r,m,h=>by
  unfold Q8;rw[Og λw hw=>h w (AK _ hw)];split
  .rfl
  .have:x≠n:=by rintro rfl;exact h v AJ
   simp[this]
theorem Oh{kindOf:Str->Option IM}{x:Str}{v:AA}:∀{P:uU}{vs:List AA}{i:Nat}{m:Str->Option AA},P.Nodup->P[i]?=uA x->vs[i]?=uA v->kindOf x=uA .local ->
  Q7 kindOf (P.zip vs) m x=uA v
 | [],_,_,_,_,h,_,_=>by simp at h
 | _::_,[],_,_,_,_,h,_=>by simp at h
 | p::P,w::vs,0,m,nd,h1,h2,hk=>by
  simp at h1 h2;subst h1;subst h2;show Q7 kindOf ((p,w)::P.zip vs) m p=_;unfold Q7;rw[Ph λv hv=>(DM.mp nd).1 (Ps hv).1,uD hk];simp
 | p::P,w::vs,i+1,m,nd,h1,h2,hk=>by
  show Q7 kindOf ((p,w)::P.zip vs) m x=_;unfold Q7;exact Oh (i:=i) (DM.mp nd).2 (by simpa using h1) (by simpa using h2) hk
theorem Nz{kindOf:Str->Option IM}{x:Str}{v:AA}:∀{P:uU}{vs:List AA}{i:Nat}{m:Str->Option AA},P.Nodup->P[i]?=uA x->vs[i]?=uA v->kindOf x≠uA .local ->
  Q8 kindOf (P.zip vs) m x=uA v
 | [],_,_,_,_,h,_,_=>by simp at h
 | _::_,[],_,_,_,_,h,_=>by simp at h
 | p::P,w::vs,0,m,nd,h1,h2,hk=>by
  simp at h1 h2;subst h1;subst h2;show Q8 kindOf ((p,w)::P.zip vs) m p=_;unfold Q8;rw[Og λv hv=>(DM.mp nd).1 (Ps hv).1,uC hk];simp
 | p::P,w::vs,i+1,m,nd,h1,h2,hk=>by
  show Q8 kindOf ((p,w)::P.zip vs) m x=_;unfold Q8;exact Nz (i:=i) (DM.mp nd).2 (by simpa using h1) (by simpa using h2) hk
noncomputable def start(N:uU)(vs:List V):St:=vs.map uA++VW (N.length-vs.length) uB
noncomputable def cxOf(CX:CXT)(P:AM)(w:AS)(K:As)(mg:Str->Option AA)(base:Heap)(N:uU)(qual:Str)(scope:F5)(f:Addr)(cd:AA)(A:B0)(outer:List Env)(s:AC)(H:Hp)(E:XK):Cx where
 prog:=P
 w:=w
 K:=K
 mg:=mg
 base:=base
 A:=A.deeper (NY qual scope s.heap.objs.size f cd)
 N:=N
 s₀:=s
 H₀:=H
 env:=NY qual scope s.heap.objs.size f cd
 outer:=outer
 stack:=NY qual scope s.heap.objs.size f cd::outer
 ex:=[]
 calm:=true
 fn:=λ_=>true
 pn:=[]
 xe:=λe s'=>wpAny (AN P w) (A.deeper (NY qual scope s.heap.objs.size f cd)) (leaving (NY qual scope s.heap.objs.size f cd) e) (λ_ tT=>CX outer H s E e tT) (λe' tT=>CX outer H s E e' tT) s'
def Va(h:sc.names.lookup x=uA .cell):∃c,(V8 n sc.names []).lookup x=uA c:=by
 have q:=P4 sc.names n [] (.inl h);exact F8.mp q
def Zo{N:uU}{outer:List Env}{s1:AC}{E:XK}{vs:List V}
  (S:FnScope N ps scope) (hd:A.handled=uB) (e0:Env0 P w K mg base A outer s H) (hl:vs.length=ps.length) (r:Vals vs us)
  (x:InCallC s s.heap.objs.size (Q7 (NY qual scope s.heap.objs.size f cd).kindOf (ps.zip us) λ_=>uB) (V8 (s.heap.objs.size+1) scope.names []) (Q8 (NY qual scope s.heap.objs.size f cd).kindOf (ps.zip us) λ_=>uB) s1) :
  Inv (cxOf CX P w K mg base N qual scope f cd A outer s H E) [] (start N vs) H s1:=by
 have eW:ps.length<=N.length:=by have:=congrArg FC S.pre;rw[B4] at this;lia
 obtain⟨h1,tk,rfl,hk⟩:=x.done;have rW:∀b:Addr,b∉(cxOf CX P w K mg base N qual scope f cd A outer s H E).ex:=λb z=>uH (show b∈([]:uY) from z) (by simp);refine⟨⟨e0.mod,S.kind,rfl,rfl,AF _,λy z c h1 h2=>?_,λy hy=>?_,λy c _ h=>?_,λ_=>hd,Around.frames_deeper e0.frames,.inr ⟨rfl,rfl⟩,λb z=>uH z (rW b),e0.bs,e0.bsz,λb _ _=>rW b,λb z=>uH z (rW b),e0.funs,e0.frf⟩,
  rfl,e0.bare,Un.kept hk,⟨_,x.toInCall.ns,λi y v h1 h2 h3=>?_⟩,λy c h=>⟨_,x.cell y c h⟩,e0.hok.fresh (AF _),λy c h=>?_,λp hp=>uH (show p∈([]:uQ) from hp) (by simp),e0.hok.kept hk,?_⟩
 .exact name_of_addr x.apart (Hk h1) (Hk h2)
 .have hy:=hy
  rcases hy with hy| hy
  .exact Va hy
  .exact uH rfl (S.nofree _ (Hk hy))
 .exact C1 (x.above y c (Hk h))
 .have hi:i<vs.length:=by
   unfold start at h2;by_cases hi:i<vs.length
   .exact hi
   .rw[CH (by simpa using hi)] at h2
    rw[Pe] at h2;split at h2<;>cases h2
  have ha:vs[i]?=uA v:=by
   unfold start at h2;rw[Be (by simpa using hi),AU] at h2;cases e:vs[i]? with
   | none=>rw[e] at h2;cases h2
   | some a=>rw[e] at h2;cases h2;rfl
  obtain⟨u,hu,rv⟩:=r.get ha;have hp:ps[i]?=uA y:=by
   rw[<- S.pre,F9 (vF hi hl)];exact h1
  have ndP:ps.Nodup:=by rw[<- S.pre];exact S.nd.sublist (J7 _ _)
  refine⟨u,rv,?_⟩;rcases S.par y (AT hp) with k| k
  .exact .inl ⟨k,Oh ndP hp hu k⟩
  .obtain⟨c,e⟩:=Va (n:=s.heap.objs.size+1) k
   refine .inr ⟨.inl k,c,e,?_⟩;have q:=x.cell y c e;rw[Nz ndP hp hu (by show scope.names.lookup y≠_;rw[k];decide)] at q;exact q
 .exact e0.hok.fresh (C1 (x.above y c (Hk h)))
 .unfold start
  show _=N.length;rw[BF,AB,List.length_replicate];lia
def AHT{k:Nat}{params:Arguments}{dV kV:AA}{N:uU} (lk:K.lookup f=uA ⟨oc,od,.func (Fm name qual params body scope dV kV bg pm an a7 ct),oq⟩) (kM:IH K a7 qual=true) (S:FnScope N ps scope)
  (len:∀vs H Q E,sp vs H Q E->vs.length=ps.length)
  (i8:∀(A:B0) (outer:List Env) (s:AC) (H:Hp) (vs:List V) (Q:VK) (E:XK),Room k (A.deeper (NY qual scope s.heap.objs.size f a7))->sp vs H Q E ->
   ∃t,PSs (cxOf CX P w K mg base N qual scope f a7 A outer s H E) body t/\t {nx:=λ_ H'=>Q .non H',rt:=Q} (start N vs) H) :
  FnOk P w K mg base CX (k+1) f (Fm name qual params body scope dV kV bg pm an a7 ct) ps sp:=by
 refine⟨len,λA outer s H args us vs Q E hr e0 hb r jI=>?_⟩;have hl:=len _ _ _ _ jI;have KX:=e0.mod.kin.keeps λb o e=>(e0.bs b o e).1;have lim:=e0.mod.nolimit.keeps λb o e=>(e0.bs b o e).1;have sw:∀y∈ps.zip us,scope.names.lookup y.1=uA .local\/(scope.names.lookup y.1=uA .cell/\((V8 (s.heap.objs.size+1) scope.names []).lookup y.1).isSome=true):=by
  rintro⟨n,v⟩ hy;rcases S.par n (Ps hy).1 with q| q
  .exact .inl q
  .exact .inr ⟨q,P4 _ _ _ (.inl q)⟩
 refine codeAny_call_function hr.depth (KX _ _ lk) rfl S.co S.gen rfl (PySem.W.codeRec_of KX kM) (hb _ _ _ _ ?_);refine wpAny_newFunctionEnv_cells S.kind sw λenv he s1 x=>?_;subst he;refine⟨lim.keeps x.toInCall.keep,codeAny_func ?_⟩;obtain⟨t,ht,hq⟩:=i8 A outer s H vs Q E (hr.deeper _) jI;have I:Inv (cxOf CX P w K mg base N qual scope f a7 A outer s H E) [] (start N vs) H s1:=Zo S hr.hd e0 hl r x;refine EI (ht [] s1 (start N vs) H _ I hq) (λfl s' hs=>?_) λe s' hs=>hs;have fin:∀{σ':St}{H':Hp}{v:V}{u:AA},Inv (cxOf CX P w K mg base N qual scope f a7 A outer s H E) [] σ' H' s'->RelV v u->Q v H'->CE outer P w H s Q u s' :=
  λ{σ' H' v u} J rv q=>⟨v,H',J.os,J.bare,J.base,J.hok,rv,q⟩
 cases fl with
 | ret u =>
  obtain⟨v,σ',H',J,rv,q⟩:=hs;exact fin J rv q
 | next =>
  obtain⟨σ',H',J,q⟩:=hs;exact fin (v:=V.non) (u:=DE) J rfl q
 | brk =>
  obtain⟨_,_,_,q⟩:=hs;exact E8 q
 | cont =>
  obtain⟨_,_,_,q⟩:=hs;exact E8 q
section
variable{p:Pos}{t:TA}{id:String}{r:List V->Hp->VK->Prop}
def tCB(r:List V->Hp->VK->Prop)(t:TA):TE:=λσ H Q=>t σ H λvs H1=>r vs H1 Q
def Ax(hc:CallR X (.builtin id) r)(hg:Gl X x)(hm:X.mg x=uB)(hv:IL x=uA (.builtin id))(ha:PA X (e::es) t)(hn:autoParam (x≠"__name__") zA1._auto_1)(me:autoParam ((x==("__debug__" : Str))=false) zA1._auto_1)
  (he:autoParam (CC (e::es) X.env=(false,eval e X.env)::CC es X.env) zA0._auto_1) (eW:autoParam ((JO pos (CC es X.env)).any (·.1)=false) zA0._auto_1):PE X (.Call (.Name x p) (e::es) [] pos) (tCB r t):=by
 intro aa s σ H Q I h;refine HQ (FJ I hg hm hv ?_ hn me);exact MX (thn (ha pos aa s σ H _ I h) λus s1 ⟨vs,H1,I1,r1,q1⟩=>hc aa s1 σ H1 vs us Q I1 r1 q1) he eW
def BX(hc:CallR X (.type T) r)(hg:Gl X x)(hm:X.mg x=uB)(hv:IL x=uA (.type T))(ha:PA X (e::es) t)(hn:autoParam (x≠"__name__") zA1._auto_1)(me:autoParam ((x==("__debug__" : Str))=false) zA1._auto_1)
  (he:autoParam (CC (e::es) X.env=(false,eval e X.env)::CC es X.env) zA0._auto_1) (eW:autoParam ((JO pos (CC es X.env)).any (·.1)=false) zA0._auto_1):PE X (.Call (.Name x p) (e::es) [] pos) (tCB r t):=by
 intro aa s σ H Q I h;refine HQ (FJ I hg hm hv ?_ hn me);exact DJ (thn (ha pos aa s σ H _ I h) λus s1 ⟨vs,H1,I1,r1,q1⟩=>hc aa s1 σ H1 vs us Q I1 r1 q1) he eW
end
end L2
variable{xs ys:List L2.V}{H H' H1 H2:L2.Hp}{X:L2.Cx}{σ τ:L2.St}{v y:L2.V}{ta te tv td:L2.TE}{tb:L2.TS}{tc:L2.TT}{CX:L2.CXT}{sp:L2.Sp}{J:L2.It}{af:List (List L2.Key×L2.V)}{l6:List (L2.TE×L2.TE)}{fl:List (PySem.Str×L2.V)}
namespace HT
open PySem PyProof.Rows
noncomputable def lexLt:uI->uI->Bool
 | [],[]=>false
 | [],_::_=>true
 | _::_,[]=>false
 | x::xs,y::ys=>if x=y then lexLt xs ys else decide (x<y)
def Cm(x y:Int)(xs ys:uI):lexLt (x::xs) (y::ys)=if x=y then lexLt xs ys else decide (x<y):=rfl
def Np:lexLt [] []=false:=rfl
def MJ(y:Int)(ys:uI):lexLt [] (y::ys)=true:=rfl
def NT(x:Int)(xs:uI):lexLt (x::xs) []=false:=rfl
def ABT(A:B0)(s:AC)(a:Int)(t:Tok)(c:Int)(u:Tok):∃e,MY A s (.int a t) (.int c u) e/\(e=true↔a=c) :=
 ⟨(a==c),Lm a t c u,by simp⟩
def ADc(A:B0)(s:AC)(a:Int)(t:Tok)(c:Int)(u:Tok)(prog:AM)(w:AS)(E:AA->AC->Prop)(Q:AA->AC->Prop)(h:Q (.bool (decide (a<c))) s) :
  wpAny (AN prog w) A (richCompare .Lt (.int a t) (.int c u)) Q E s :=
 (Y0 h:wpAny (AN prog w) A (D8 .Lt (.int a t) (.int c u)) Q E s)
section
open PySem.SeqAt
open PySem.AutoSeq1 (wpAny_loadPart')
open PySem.MeetsSeq PySem.MeetsSeq2 PySem.MeetsSeq3
def Ig(l b:Addr)(items bi:Array AA)(n n2:Nat)(dd h9:Option Addr)(sl iq:Array (Option AA))(ns ms:uI)(hi:F0 items.toList ns)(hj:F0 bi.toList ms) :
  Meets (Builtin.«tuple.__lt__» ⟨[.ref l,.ref b],[]⟩)
   (λ_ R s=>s.heap.get? l=uA {cls:=.type "tuple",dict:=dd,data:=.seq items n,slots:=sl}/\s.heap.get? b=uA {cls:=.type "tuple",dict:=h9,data:=.seq bi n2,slots:=iq} /\
    R (.ok (.ret (.bool (lexLt ns ms)))) s) :=
 .of_wp λprog w A R s h=>by
  obtain⟨hp,g,d,tk,os⟩:=s;obtain⟨hl,hb,h⟩:=h;have f2:=AutoSeq1.sub_tuple_tuple;have z1:items.size=ns.length:=by rw[<- hi.length];simp
  have z2:bi.size=ms.length:=by rw[<- hj.length];simp
  wp_walk using wpAny_loadPart' hl,wpAny_loadPart' hb,FS _ (λar b s'=>b.1=uB/\s'=⟨hp,g,d,tk,os⟩/\∃(vs ws:List AA) (iF qG:uI),ar=vs.zip ws /\
   F0 vs iF/\F0 ws qG/\iF.length+bi.size=qG.length+items.size/\R (.ok (.ret (.bool (lexLt iF qG)))) ⟨hp,g,d,tk,os⟩) _
  case turn =>
   rintro⟨y,x⟩ ar b s' ⟨k8,rfl,vs,ws,iF,qG,hz,sP,hwi,aw,hR⟩;cases sP with
   | nil=>rw[List.zip_nil_left] at hz;cases hz
   | cons a t hvi' =>
    cases hwi with
    | nil=>rw[List.zip_nil_right] at hz;cases hz
    | cons c u hwi' =>
     rw[SE] at hz;injection hz with hyx hrest
     injection hyx with hy hx
     subst hy hx;rw[Cm] at hR;simp only[DS] at aw;obtain⟨e,he,rS⟩:=ABT A.in1 ⟨hp,g,d,tk,os⟩ a t c u;refine Au (he prog w _ _ ?_);cases e with
     | true =>
      rw[uD (rS.mp rfl)] at hR
      wp_walk
      exact⟨rfl,rfl,_,_,_,_,hrest,hvi',hwi',by lia,hR⟩
     | false =>
      rw[uC (λq=>uH (rS.mpr q) BI)] at hR;have hri:=ADc A.in1 ⟨hp,g,d,tk,os⟩ a t c u prog w
      wp_walk using hri
      exact⟨_,rfl,by simpa using hR⟩
  case fin =>
   rintro⟨b1,b2⟩ s' ⟨k8,rfl,vs,ws,iF,qG,hz,sP,hwi,aw,hR⟩;simp only at k8;subst k8;have hv:lexLt iF qG=decide (items.size<bi.size):=by
    cases sP with
    | nil =>
     cases hwi with
     | nil =>
      rw[Np];exact(uF (by lia)).symm
     | cons c u hw =>
      simp only[JS,DS] at aw;rw[MJ];exact(uE (by lia)).symm
    | cons a t hv =>
     cases hwi with
     | nil =>
      simp only[JS,DS] at aw;rw[NT];exact(uF (by lia)).symm
     | cons c u hw =>
      rw[SE] at hz;cases hz
   rw[hv] at hR
   wp_walk
   exact⟨_,rfl,by simpa [UN] using hR⟩
  case h =>
   exact⟨rfl,rfl,items.toList,bi.toList,ns,ms,rfl,hi,hj,by lia,h⟩
end
def Wj{bi:Array AA}(hl:S7 s.heap l items)(hb:S7 s.heap b bi)(hi:F0 items.toList ns)(hj:F0 bi.toList ms)
  (hu:A.units<C2) (h:Q (.bool (lexLt ns ms)) s):wpAny (AN prog w) A (D8 .Lt (.ref l) (.ref b)) Q E s:=by
 obtain⟨⟨cls,dd,data,sl⟩,ho,hc,n,hd⟩:=id hl;obtain⟨⟨l7,h9,W4,iq⟩,fe,ft,n2,dP⟩:=id hb;simp only at hc hd ft dP;subst hc hd ft dP;exact richCompare_meets_room (op:=.Lt) ⟨_,ho,rfl⟩ ⟨_,fe,rfl⟩ ME P5 (Pf _ _) (Ig l b items bi n n2 dd h9 sl iq ns ms hi hj)
  ⟨ho,fe,show KF (lexLt ns ms)≠Value.notImplemented/\Q (.bool (lexLt ns ms)) s from⟨(λx=>nomatch x),h⟩⟩ hu
def AEX{t:Addr}{ws:List AA}(ht:S7 s.heap t vs.toArray)(hb:S7 s.heap b ws.toArray)(hv:vs≠[])
  (h1:ws=[]->Q (.ref t) s) (h2:ws≠[]->Q (.ref s.heap.objs.size) {s with heap:=s.heap.push {cls:=.type "tuple",data:=.seq (vs++ws).toArray}})
  (hsz:vs.length+ws.length<=sizeLine):wpAny (AN prog w) A (HK .Add (.ref t) (.ref b)) Q E s:=by
 obtain⟨⟨cls,dd,data,sl⟩,ho,hc,n,hd⟩:=id ht;obtain⟨⟨l7,h9,W4,iq⟩,fe,ft,n2,dP⟩:=id hb;simp only at hc hd ft dP;subst hc hd ft dP;have e:vs.toArray++ws.toArray=(vs++ws).toArray:=by simp
 by_cases hw:ws=[]
 .exact OY ⟨_,ho,rfl⟩ ⟨_,fe,rfl⟩ OZ RO L9 LU (Lu _ _)
   (tuple_addW1 t b vs.toArray ws.toArray n n2 dd h9 sl iq (by simpa using hv) (by simp[hw])) ⟨ho,fe,h1 hw⟩
 .refine OY ⟨_,ho,rfl⟩ ⟨_,fe,rfl⟩ OZ RO L9 LU (Lu _ _)
   (tuple_addW2 t b vs.toArray ws.toArray n n2 dd h9 sl iq (by simpa using hv) (by simpa using hw) (by rw[AV,AV];exact hsz)) ⟨ho,fe,?_⟩
  rw[e];exact h2 hw
noncomputable def sIx(n d:Nat):Option Int->Nat
 | none=>d
 | some v=>if v<0 then(v+(n:Int)).toNat else min v.toNat n
end HT
namespace L2
open PySem PySem.Spec PyProof.Rows
abbrev TO:=St->Hp->(Option Int->Hp->Prop)->Prop
def PO(X:Cx)(e:Option Expr)(t:TO):Prop :=
 ∀(aa:uQ) (s:AC) (σ:St) (H:Hp) (Q:Option Int->Hp->Prop),Inv X aa σ H s->t σ H Q ->
  wpAny (AN X.prog X.w) X.A (evalPart e X.env) (λu s'=>∃o H',Inv X aa σ H' s'/\IsPart u o/\Q o H') X.xe s
def AEn:TO:=λ_ H Q=>Q uB H
def AHR(t:TE):TO:=λσ H Q=>t σ H λx H1=>∃i,x=.int i/\Q (uA i) H1
def intsAre_of:∀{us:List AA},Vals (ns.map V.int) us->F0 us ns:=by
 induction ns with
 | nil=>intro us r;rw[Lv] at r;cases r;exact .nil
 | cons n ns ih =>
  intro us r;rw[B8] at r;cases r with
  | cons r1 r2 =>
   obtain⟨t,e⟩:=r1;subst e;exact .cons n t (ih r2)
section
variable{lo hi:Option Expr}{tl th:TO}
def AFh:PO X uB AEn:=by
 intro aa s σ H Q I h;rw[evalPart_none];exact AE ⟨uB,H,I,.none,h⟩
def Qq(h:PE X e te):PO X (uA e) (AHR te):=by
 intro aa s σ H Q I hw;rw[evalPart_some];refine thn (h aa s σ H _ I hw) λu s1 hq=>?_;obtain⟨x,H1,I1,r1,q1⟩:=hq;obtain⟨i,rfl,q⟩:=q1;obtain⟨t,rfl⟩:=r1;exact⟨uA i,H1,I1,.int i t,q⟩
def SlR(X:Cx)(r:V->Option Int->Option Int->Hp->VK->Prop):Prop :=
 ∀(aa:uQ) (s:AC) (σ:St) (H:Hp) (x:V) (v vl vu:AA) (lo hi:Option Int) (sl:Addr) (Q:VK),Inv X aa σ H s->RelV x v->s.heap.IsSliceOf sl vl vu .none->IsPart vl lo->IsPart vu hi->r x lo hi H Q ->
  ∃T id,typeLookup (.type T) "__getitem__" = pure (uA (.builtin id))/\s.TypeIs v T/\wpAny (AN X.prog X.w) X.A (OS v (.ref sl)) (EP X aa σ Q) X.xe s
def tSl(r:V->Option Int->Option Int->Hp->VK->Prop)(te:TE)(tl th:TO):TE:=λσ H Q=>te σ H λx H1=>tl σ H1 λl H2=>th σ H2 λu H3=>r x l u H3 Q
def TX{r:V->Option Int->Option Int->Hp->VK->Prop}(hr:SlR X r)(he:PE X e te)(hl:PO X lo tl)(hu:PO X hi th):PE X (.Subscript e (.Slice lo hi uB p2) pos) (tSl r te tl th):=by
 intro aa s σ H Q I h;refine UV (thn (he aa s σ H _ I h) λv s1 hq=>?_);obtain⟨x,H1,I1,r1,q1⟩:=hq;refine wpAny_Slice (thn (hl aa s1 σ H1 _ I1 q1) λvl s2 ⟨l,H2,I2,pl,q2⟩=>thn (hu aa s2 σ H2 _ I2 q2) λvu s3 hq=>?_);obtain⟨u,H3,I3,pu,q3⟩:=hq;rw[evalPart_none];refine AE ?_;have I4:Inv X aa σ H3 {s3 with heap:=s3.heap.push {cls:=.type "slice",data:=.fields #[vl,vu,.none]}}:=I3.kept (t':=s3.toks) λb ob q=>AL _ q;obtain⟨T,id,hT,ht,hg⟩:=hr aa {s3 with heap:=s3.heap.push {cls:=.type "slice",data:=.fields #[vl,vu,.none]}} σ H3 x v vl vu l u s3.heap.objs.size Q I4 r1 (Y4 ..) pl pu q3;exact tail_any (ops:=[.ref s3.heap.objs.size,v]) ht hT hg (by with_unfolding_all rfl)
noncomputable def cutV(xs:List V)(lo hi:Option Int):List V:=(xs.drop (HT.sIx xs.length 0 lo)).take (HT.sIx xs.length xs.length hi-HT.sIx xs.length 0 lo)
def Us(xs:List V)(lo hi:Option Int):(cutV xs lo hi).length<=xs.length:=by
 unfold cutV;rw[B4,FU];lia
def rCatT(K:As):R2:=λx y H Q=>∃a b xs ys,x=.ref a/\y=.ref b/\SqT K H a xs/\SqT K H b ys/\xs≠[]/\xs.length+ys.length<=sizeLine /\
 (ys=[]->Q (.ref a) H)/\(ys≠[]->∀p,H p=none->Q (.ref p) (upd H p (.tup (xs++ys))))
def Vals.nil_iff(r:Vals xs us):us=[]↔xs=[]:=by
 cases r with
 | nil=>simp
 | cons _ _=>simp
def AEu:OpR X (HK .Add) (rCatT X.K):=by
 intro aa s σ H x y v u Q I rx ry h;obtain⟨a,b,xs,ys,rfl,rfl,ha,hb,hx,hz,q1,q2⟩:=h;cases rx;cases ry;obtain⟨ag,r1,p1,_⟩:=I.tuple ha;obtain⟨db,r2,p2,_⟩:=I.tuple hb;refine HT.AEX p1 p2 (λz=>hx (r1.nil_iff.mp z)) (λz=>⟨.ref a,H,I,rfl,q1 (r2.nil_iff.mp z)⟩) (λz=>?_) (by rw[<- r1.length,<- r2.length];exact hz);refine⟨.ref s.heap.objs.size,_,I.laid (t':=s.toks) (o:=.tup (xs++ys)) (λb ob q=>AL _ q) (AF _) ?_,rfl,q2 (λw=>z (r2.nil_iff.mpr w)) _ (I.hok.fresh (AF _))⟩;exact⟨by rw[BF];exact hz,_,r1.append r2,Y5 _ _⟩
end
noncomputable def ixN(n:Nat)(i:Int):uX:=if 0<=i then(if i<n then uA i.toNat else uB) else if -(n:Int)<=i then uA (i+n).toNat else uB
noncomputable def atI{α:Type}(xs:List α)(i:Int):Option α:=(ixN xs.length i).bind λj=>xs[j]?
def Yd{i:Int}(h:ixN n i=uA j):seqIndex? i n=uA j/\j<n/\-(n:Int)<=i/\i<n:=by
 unfold ixN at h;by_cases h0:0<=i
 .rw[uD h0] at h
  by_cases h1:i<n
  .rw[uD h1] at h
   have e:=AO h;exact⟨by rw[TJ h0 h1,e],by lia,by lia,h1⟩
  .rw[uC h1] at h;cases h
 .rw[uC h0] at h
  by_cases h1:-(n:Int)<=i
  .rw[uD h1] at h
   have e:=AO h;exact⟨by rw[seqIndex_neg (vE h0) h1,e],by lia,h1,by lia⟩
  .rw[uC h1] at h;cases h
def atI_get{xs:List α}{i:Int}{v:α}(h:atI xs i=uA v):∃j,seqIndex? i xs.length=uA j/\xs[j]?=uA v/\j<xs.length/\-(xs.length:Int)<=i/\i<xs.length:=by
 unfold atI at h;cases e:ixN xs.length i with
 | none=>rw[e] at h;cases h
 | some j =>
  rw[e] at h;obtain⟨h1,h2,h3,h4⟩:=Yd e;exact⟨j,h1,h,h2,h3,h4⟩
def Bk{xs:List α}{v:α}(h:xs[j]?=uA v):atI xs (j:Int)=uA v:=by
 have hj:=(AG.mp h).1;have e:ixN xs.length (j:Int)=uA j:=by
  unfold ixN;rw[uD fv,uD (uz hj)];simp
 unfold atI;rw[e];exact h
def AFT(b:Expr):Prop:=∀o i,P6 b false o i=operate [o,i] (OS o i)
def IxR(X:Cx)(r:R2):Prop :=
 ∀(a5 bm:Expr) (aa:uQ) (s:AC) (σ:St) (H:Hp) (x y:V) (v u:AA) (Q:VK),Inv X aa σ H s->RelV x v->RelV y u->r x y H Q ->
  P6 bm false v u=operate [v,u] (OS v u)->wpAny (AN X.prog X.w) X.A (subscriptTail a5 bm v u) (EP X aa σ Q) X.xe s
def MtR(X:Cx)(id:String)(r:V->List V->Hp->VK->Prop):Prop :=
 ∀(aa:uQ) (s:AC) (σ:St) (H:Hp) (x:V) (xs:List V) (v:AA) (us:List AA) (Q:VK),Inv X aa σ H s->RelV x v->Vals xs us->r x xs H Q ->
  wpAny (AN X.prog X.w) X.A (call (.builtin id) (v::us)) (EP X aa σ Q) X.xe s
section
variable{a b:Expr}{tb:TE}
def Ay{r:R2}(hr:IxR X r)(ha:PE X a ta)(hb:PE X b tb)(hs:AFT b:=by exact λ_ _=>rfl):PE X (.Subscript a b pos) (tOp r ta tb):=by
 intro aa s σ H Q I h;exact UV (binT ha hb I h λv u s2 x y H2 I2 rx ry q=>hr a b aa s2 σ H2 x y v u Q I2 rx ry q (hs _ _))
def rIxL(K:As):R2:=λx y H Q=>E4 λp xs i v=>A5 (x=.ref p) (y=.int i) (SqL K H p xs) (atI xs i=uA v) (Q v H)
def rIxT(K:As):R2:=λx y H Q=>E4 λp xs i v=>A5 (x=.ref p) (y=.int i) (SqT K H p xs) (atI xs i=uA v) (Q v H)
def Bm:IxR X (rIxL X.K):=by
 intro a5 bm aa s σ H x y v u Q I rx ry h hs;obtain⟨p,xs,i,z,rfl,rfl,hq,he,q⟩:=h;cases rx;obtain⟨t,rfl⟩:=ry;obtain⟨ag,r,pl,hz⟩:=I.list hq;obtain⟨j,h1,h2,h3,h4,h5⟩:=atI_get he;obtain⟨w,ew,eK⟩:=r.get h2;have hl:=r.length;have hn:=line63;have fin:EP X aa σ Q w s:=⟨z,H,I,eK,q⟩;by_cases h0:0<=i
 .have hj:i.toNat=j:=by
   rw[TJ h0 h5] at h1;exact AO h1
  exact item_listR pl.isList h0 (by lia) (by rw[hj];simpa using ew) fin hs
 .have hj:(i+(ag.toArray.size:Int)).toNat=j:=by
   rw[seqIndex_neg (vE h0) h4] at h1;rw[AV,<- hl];exact AO h1
  exact P7 (x:=w) pl.isList.typeIs Th.lookup
   (wpAny_getItem_list_neg (Q:=λr s'=>r=w/\EP X aa σ Q r s') pl.isList (vE h0) (by rw[AV]<;>lia) (by lia) (by rw[hj];simpa using ew) ⟨rfl,fin⟩) hs
def Bc:IxR X (rIxT X.K):=by
 intro a5 bm aa s σ H x y v u Q I rx ry h hs;obtain⟨p,xs,i,z,rfl,rfl,hq,he,q⟩:=h;cases rx;obtain⟨t,rfl⟩:=ry;obtain⟨ag,r,pl,hz⟩:=I.tuple hq;obtain⟨j,h1,h2,h3,h4,h5⟩:=atI_get he;obtain⟨w,ew,eK⟩:=r.get h2;have hl:=r.length;have hn:=line63;have fin:EP X aa σ Q w s:=⟨z,H,I,eK,q⟩;exact P7 (x:=w) pl.typeIs slot_tuple_getitem.lookup
  (getItem_tuple (j:=j) (Q:=λr s'=>r=w/\EP X aa σ Q r s') pl (by lia) (by lia) (by rw[AV,<- hl];exact h1) (by simpa using ew) ⟨rfl,fin⟩) hs
def Wc(ag:List AA)(n j:Nat)(u:AA):DZ (·.setIfInBounds j u) {cls:=.type "list",data:=.seq ag.toArray n}={cls:=.type "list",data:=.seq (ag.set j u).toArray n}:=by
 simp[DZ]
def Inv.lst(I:Inv X aa σ H s)(h:H p=uA (.lst xs)) :
  ∃(ag:List AA) (n:Nat),Vals xs ag/\s.heap.get? p=uA {cls:=.type "list",data:=.seq ag.toArray n}/\xs.length<=sizeLine:=by
 obtain⟨z,ag,n,r,e⟩:=I.hok p _ h;exact⟨ag,n,r,e,z⟩
def Inv.lstUpd{n':Nat}{f:Obj->Obj}(I:Inv X aa σ H s)(h:H p=uA (.lst xs))
  (ho:s.heap.get? p=uA {cls:=.type "list",data:=.seq ag.toArray n}) (hf:f {cls:=.type "list",data:=.seq ag.toArray n}={cls:=.type "list",data:=.seq its'.toArray n'}) (r:Vals ys its') (hz:ys.length<=sizeLine) (t:Nat) :
  Inv X aa σ (upd H p (.lst ys)) {s with heap:=s.heap.update p f,toks:=t}:=by
 have e:(s.heap.update p f).get? p=uA {cls:=.type "list",data:=.seq its'.toArray n'}:=by
  rw[EJ f ho (by rw[hf]<;>rfl),hf]
 refine I.write (x:=p) (e:=p) (by rw[h];trivial) (.inl rfl) (λb u hb q=>(EZ _ _ (Bi hb)).trans q) ⟨_,e⟩ ?_;exact⟨hz,its',n',r,e⟩
def rSetL:V->V->V->Hp->(Hp->Prop)->Prop:=λo i v H Q=>E4 λp xs k j=>A5 (o=.ref p) (i=.int k) (H p=uA (.lst xs)) (ixN xs.length k=uA j) (Q (upd H p (.lst (xs.set j v))))
def set_list:PSet X rSetL:=by
 intro aa s σ H o i v ov iv u Q I ro ri rv h;obtain⟨p,xs,k,j,rfl,rfl,hp,hj,q⟩:=h;cases ro;obtain⟨t,rfl⟩:=ri;obtain⟨ag,n,r,ho,hz⟩:=I.lst hp;obtain⟨h1,h2,h3,h4⟩:=Yd hj;have hl:=r.length;have hn:=line63;have I':Inv X aa σ (upd H p (.lst (xs.set j v))) {s with heap:=s.heap.update p (DZ (·.setIfInBounds j u))} :=
  I.lstUpd hp ho (Wc ag n j u) (r.set rv j) (by rw[EU];exact hz) s.toks
 by_cases h0:0<=k
 .have hk:k.toNat=j:=by
   rw[TJ h0 h4] at h1;exact AO h1
  exact PySem.W.ki_setAt ho h0 (by lia) (by rw[AV,<- hl];exact h4) (by rw[hk];exact⟨_,I',q⟩)
 .have hk:(k+(ag.toArray.size:Int)).toNat=j:=by
   rw[seqIndex_neg (vE h0) h3] at h1;rw[AV,<- hl];exact AO h1
  exact PySem.W.ki_setBack ho (vE h0) (by rw[AV,<- hl];exact h3) (by lia) (by rw[hk];exact⟨_,I',q⟩)
def Qp(lo hi:Option Int)(n:Nat):(K2 lo hi uB n).1=((HT.sIx n 0 lo:Nat):Int)/\(K2 lo hi uB n).2.1=((HT.sIx n n hi:Nat):Int)/\(K2 lo hi uB n).2.2=1:=by
 refine⟨?_,?_,rfl⟩
 .cases lo with
  | none=>simp[K2,HT.sIx]
  | some i =>
   simp only[K2,HT.sIx,T9,show(1:Int)>0 by decide,if_true];by_cases h:i<0
   .simp only[h,if_true]<;>exact yh h
   .simp only[h,if_false]<;>exact yj
 .cases hi with
  | none=>simp[K2,HT.sIx]
  | some i =>
   simp only[K2,HT.sIx,T9,show(1:Int)>0 by decide,if_true];by_cases h:i<0
   .simp only[h,if_true]<;>exact yh h
   .simp only[h,if_false]<;>exact yj
def Ni(ag:List AA)(lo hi:Option Int):slicePick ag.toArray lo hi uB=((ag.drop (HT.sIx ag.length 0 lo)).take (HT.sIx ag.length ag.length hi-HT.sIx ag.length 0 lo)).toArray:=by
 obtain⟨h1,h2,h3⟩:=Qp lo hi ag.toArray.size;unfold slicePick;rw[h1,h2,h3];simp only[sliceRange_one,pick_run,AV]<;>rfl
def rSlL(K:As):V->Option Int->Option Int->Hp->VK->Prop:=λx lo hi H Q=>E2 λa xs=>A3 (x=.ref a) (SqL K H a xs) (∀p,H p=none->Q (.ref p) (upd H p (.lst (cutV xs lo hi))))
def Ys:SlR X (rSlL X.K):=by
 intro aa s σ H x v vl vu lo hi sl Q I rx hs pl pu h;obtain⟨a,xs,rfl,hx,q⟩:=h;cases rx;obtain⟨ag,r,ht,hz⟩:=I.list hx;have aw:=r.length;refine⟨"list",_,Th.lookup,ht.isList.typeIs,?_⟩;refine wpAny_getItem_list_slice ht.isList hs pl pu .none (by simp) ?_ (by rw[AV]<;>exact uT aw hz);rw[Ni,<- aw];refine⟨.ref s.heap.objs.size,_,I.laid (t':=s.toks) (o:=.lst (cutV xs lo hi)) (λb ob q=>AL _ q) (AF _) ?_,rfl,q _ (I.hok.fresh (AF _))⟩;exact⟨BV (Us xs lo hi) hz,_,0,(r.drop (HT.sIx xs.length 0 lo)).take (HT.sIx xs.length xs.length hi-HT.sIx xs.length 0 lo),A2 _ rfl⟩
def flatV:V->Bool
 | .non=>true
 | .bl _=>true
 | .int _=>true
 | .str _=>true
 | _=>false
noncomputable def eqV:V->V->Bool
 | .non,.non=>true
 | .bl a,.bl b=>a==b
 | .bl a,.int b=>(if a then 1 else 0)==b
 | .int a,.bl b=>a==(if b then 1 else 0)
 | .int a,.int b=>a==b
 | .str a,.str b=>a==b
 | _,_=>false
def AGL{x:V}{v:AA}(ry:RelV y u)(rx:RelV x v)(fy:flatV y=true)(fx:flatV x=true):MY A s u v (eqV y x):=by
 cases y with
 | non =>
  cases ry;cases x with
  | non=>cases rx;exact M1 _
  | bl b=>cases rx;exact SeqAt.EqAt.none_bool b
  | int b=>obtain⟨t,rfl⟩:=rx;exact Nw b t
  | str b=>obtain⟨t,rfl⟩:=rx;exact SeqAt.EqAt.none_str b t
  | _=>exact uH fx BI
 | bl a =>
  cases ry;cases x with
  | non=>cases rx;exact SeqAt.EqAt.bool_none a
  | bl b=>cases rx;exact SeqAt.EqAt.bool_bool a b
  | int b=>obtain⟨t,rfl⟩:=rx;exact SeqAt.EqAt.bool_int a b t
  | str b=>obtain⟨t,rfl⟩:=rx;exact SeqAt.EqAt.bool_str a b t
  | _=>exact uH fx BI
 | int a =>
  obtain⟨t',rfl⟩:=ry;cases x with
  | non=>cases rx;exact NA a t'
  | bl b=>cases rx;exact SeqAt.EqAt.int_bool a t' b
  | int b=>obtain⟨t,rfl⟩:=rx;exact Lm a t' b t
  | str b=>obtain⟨t,rfl⟩:=rx;exact Sn a t' b t
  | _=>exact uH fx BI
 | str a =>
  obtain⟨t',rfl⟩:=ry;cases x with
  | non=>cases rx;exact SeqAt.EqAt.str_none a t'
  | bl b=>cases rx;exact SeqAt.EqAt.str_bool a t' b
  | int b=>obtain⟨t,rfl⟩:=rx;exact So a t' b t
  | str b=>obtain⟨t,rfl⟩:=rx;exact SeqAt.EqAt.str_str a t' b t
  | _=>exact uH fx BI
 | _=>exact uH fy BI
noncomputable def eqU(x:V)(u:AA):Bool:=match u with
 | .none=>eqV .non x
 | .bool b=>eqV (.bl b) x
 | .int i _=>eqV (.int i) x
 | .str z _=>eqV (.str z) x
 | _=>false
def ADU{x:V}(r:RelV y u)(f:flatV y=true):eqU x u=eqV y x:=by
 cases y with
 | non=>cases r;rfl
 | bl b=>cases r;rfl
 | int i=>obtain⟨t,rfl⟩:=r;rfl
 | str z=>obtain⟨t,rfl⟩:=r;rfl
 | _=>exact uH f BI
def Km{x:V}:∀{xs:List V}{us:List AA},Vals xs us->xs.all flatV=true->us.any (eqU x)=xs.any λy=>eqV y x:=by
 intro xs us h
 induction h with
 | nil=>intro _;rfl
 | cons r t ih =>
  intro f;rw[WA,FV] at f;rw[JI,JI,ADU r f.1,ih f.2]
theorem Hq{A:B0}{s:AC}{x:V}{v:AA}(rx:RelV x v)(fx:flatV x=true):∀{xs:List V}{us:List AA},Vals xs us->xs.all flatV=true->∀u∈us,MY A s u v (eqU x u)
 | _,_,.nil,_=>λu hu=>by cases hu
 | y::xs,u::us,.cons r t,f=>λu' hu=>by
  rw[WA,FV] at f;rcases AW.mp hu with rfl| hu
  .rw[ADU r f.1];exact AGL r rx f.1 fx
  .exact Hq rx fx t f.2 u' hu
noncomputable def inV(x:V)(xs:List V):Bool:=xs.any λy=>eqV y x
def rIn(K:As)(neg:Bool):R2:=λx y H Q=>E2 λp xs=>A5 (y=.ref p) ((SqL K H p xs\/SqT K H p xs)) (flatV x=true) (xs.all flatV=true) (Q (.bl (if neg then !inV x xs else inV x xs)) H)
def Fx:OpR X (D8 .In) (rIn X.K false):=by
 intro aa s σ H x y v u Q I rx ry h;obtain⟨p,xs,rfl,hq,fx,fs,q⟩:=h;cases ry;rcases hq with hq| hq
 .obtain⟨ag,r,pl,hz⟩:=I.list hq
  refine UX (eqU x) pl.isList (λw hw=>Hq rx fx r fs w (by simpa using hw)) ⟨.bl _,H,I,rfl,?_⟩;rw[show ag.toArray.any (eqU x)=ag.any (eqU x) by simp,Km r fs];exact q
 .obtain⟨ag,r,pl,hz⟩:=I.tuple hq
  refine Uf (eqU x) pl (λw hw=>Hq rx fx r fs w (by simpa using hw)) ⟨.bl _,H,I,rfl,?_⟩;rw[show ag.toArray.any (eqU x)=ag.any (eqU x) by simp,Km r fs];exact q
def JR:OpR X (D8 .NotIn) (rIn X.K true):=by
 intro aa s σ H x y v u Q I rx ry h;obtain⟨p,xs,rfl,hq,fx,fs,q⟩:=h;cases ry;rcases hq with hq| hq
 .obtain⟨ag,r,pl,hz⟩:=I.list hq
  refine SeqAt.notIn_listAt (eqU x) pl.isList (λw hw=>Hq rx fx r fs w (by simpa using hw)) ⟨.bl _,H,I,rfl,?_⟩;rw[show ag.toArray.any (eqU x)=ag.any (eqU x) by simp,Km r fs];exact q
 .obtain⟨ag,r,pl,hz⟩:=I.tuple hq
  refine SeqAt.notIn_tupleAt (eqU x) pl (λw hw=>Hq rx fx r fs w (by simpa using hw)) ⟨.bl _,H,I,rfl,?_⟩;rw[show ag.toArray.any (eqU x)=ag.any (eqU x) by simp,Km r fs];exact q
def Av:CallR X (.builtin "len") (λxs H Q=>∃p ys,xs=[.ref p]/\(SqL X.K H p ys\/SqT X.K H p ys)/\Q (.int ys.length) H):=by
 intro aa s σ H xs us Q I r h;obtain⟨p,ys,rfl,hq,q⟩:=h;obtain⟨u,rfl,rx⟩:=vals1 r;cases rx;have hn:=line63;rcases hq with hq| hq
 .obtain⟨ag,r',pl,hz⟩:=I.list hq
  have aw:=r'.length;exact Calls.call_len_list pl.isList (by simp only[AV]<;>lia) ⟨.int ys.length,H,I.tok _,⟨s.toks+1,by rw[AV,aw]⟩,q⟩
 .obtain⟨ag,r',pl,hz⟩:=I.tuple hq
  have aw:=r'.length;exact len_tuple pl (by simp only[AV]<;>lia) ⟨.int ys.length,H,I.tok _,⟨s.toks+1,by rw[AV,aw]⟩,q⟩
def Dp:CallR X (.type "list") (λxs H Q=>∃p ys,xs=[.ref p]/\(SqL X.K H p ys\/SqT X.K H p ys)/\∀l,H l=none->Q (.ref l) (upd H l (.lst ys))):=by
 intro aa s σ H xs us Q I r h;obtain⟨p,ys,rfl,hq,q⟩:=h;obtain⟨u,rfl,rx⟩:=vals1 r;cases rx;have fin:∀(ag:List AA),Vals ys ag->ys.length<=sizeLine->∀(h':Heap) (c':Nat),(∀b o',s.heap.get? b=uA o'->h'.get? b=uA o') ->
   h'.get? s.heap.objs.size=uA {cls:=.type "list",dict:=uB,data:=.seq ag.toArray c',slots:=#[]}->EP X aa σ Q (.ref s.heap.objs.size) {s with heap:=h'}:=λag r' hz h' c' kp e =>
  ⟨.ref s.heap.objs.size,_,I.laid (t':=s.toks) kp (AF _) (show ObjOk X.prog X.w _ h' _ (.lst ys) from⟨hz,ag,c',r',e⟩),rfl,q _ (I.hok.fresh (AF _))⟩
 rcases hq with hq| hq
 .obtain⟨ag,r',pl,hz⟩:=I.list hq
  have aw:=r'.length;obtain⟨o,ho,hc,n,hd⟩:=pl.isList;exact call_list_seq p (.inl rfl) ho hc hd (λh' c' kp e=>fin ag r' hz h' c' kp e) (by simp only[AV]<;>exact uT aw hz)
 .obtain⟨ag,r',pl,hz⟩:=I.tuple hq
  have aw:=r'.length;obtain⟨o,ho,hc,n,hd⟩:=pl;exact call_list_seq p (.inr rfl) ho hc hd (λh' c' kp e=>fin ag r' hz h' c' kp e) (by simp only[AV]<;>exact uT aw hz)
def CT:CallR X (.type "tuple") (λxs H Q=>∃p ys,xs=[.ref p]/\((SqL X.K H p ys/\∀l,H l=none->Q (.ref l) (upd H l (.tup ys)))\/(SqT X.K H p ys/\Q (.ref p) H))):=by
 intro aa s σ H xs us Q I r h;obtain⟨p,ys,rfl,h⟩:=h;obtain⟨u,rfl,rx⟩:=vals1 r;cases rx;rcases h with⟨hq,q⟩| ⟨hq,q⟩
 .obtain⟨ag,r',pl,hz⟩:=I.list hq
  have aw:=r'.length;refine call_tuple_list pl.isList (λh' kp=>?_) (by simp only[AV]<;>exact uT aw hz);have I1:=I.kept (t':=s.toks) kp;have I2:Inv X aa σ (upd H h'.objs.size (.tup ys)) {s with heap:=h'.push {cls:=.type "tuple",data:=.seq ag.toArray}} :=
   I1.laid (t':=s.toks) (λb o e=>AL _ e) (AF _) (⟨hz,ag,r',Y5 _ _⟩)
  exact⟨.ref h'.objs.size,_,I2,rfl,q _ (I1.hok.fresh (AF _))⟩
 .obtain⟨ag,r',pl,hz⟩:=I.tuple hq
  exact call_tuple_same pl ⟨.ref p,H,I,rfl,q⟩
def tyV(K:As)(T:String)(x:V)(H:Hp):Prop:=match x with
 | .str _=>T = "str"
 | .int _=>T = "int"
 | .ref p=>(T = "list"/\∃xs,SqL K H p xs)\/(T = "tuple"/\∃o,K.lookup p=uA o/\o.cls=.type "tuple"/\o.dict=uB) \/
   (T = "dict"/\((∃af,H p=uA (.dK af))\/∃af,H p=uA (.dT af)))\/(T = "set"/\∃S n,H p=uA (.set S n))
 | _=>False
def ACs{x:V}{v:AA}(I:Inv X aa σ H s)(r:RelV x v)(ty:tyV X.K T x H) :
  s.TypeIs v T/\∀a,v=.ref a->∃ob,s.heap.get? a=uA ob/\ob.dict=uB:=by
 cases x with
 | str z =>
  obtain⟨t,rfl⟩:=r;cases ty;exact⟨typeIs_str s z t,λ_ e=>nomatch e⟩
 | int i =>
  obtain⟨t,rfl⟩:=r;cases ty;exact⟨typeIs_int s i t,λ_ e=>nomatch e⟩
 | ref p =>
  cases r;rcases ty with⟨rfl,xs,hq⟩| ⟨rfl,o,hk,hc,hd⟩| ⟨rfl,hk⟩| ⟨rfl,S,n,hk⟩
  .obtain⟨ag,_,pl,_⟩:=I.list hq
   refine⟨pl.isList.typeIs,λa e=>?_⟩;cases e;obtain⟨o,n,e,c,hd,_⟩:=pl;exact⟨o,e,hd⟩
  .refine⟨⟨o,I.kIn p o hk,hc⟩,λa e=>?_⟩
   cases e;exact⟨o,I.kIn _ o hk,hd⟩
  .have z:∃o,s.heap.get? p=uA o/\o.ExactDict:=by
    rcases hk with⟨af,hk⟩| ⟨af,hk⟩
    .obtain⟨_,_,_,_,o,_,_,e,ex,_⟩:=I.hok p _ hk
     exact⟨o,e,ex⟩
    .obtain⟨_,_,_,_,o,_,_,e,ex,_⟩:=I.hok p _ hk
     exact⟨o,e,ex⟩
   obtain⟨o,e,ex⟩:=z;refine⟨⟨o,e,ex.1⟩,λa e2=>?_⟩;cases e2;exact⟨o,e,ex.2.1⟩
  .obtain⟨o,_,_,_,e,ex,_⟩:=I.hok p _ hk
   refine⟨⟨o,e,ex.1⟩,λa e2=>?_⟩;cases e2;exact⟨o,e,ex.2.1⟩
 | _=>exact E8 ty
def AIS(K:As)(T:String)(r:V->List V->Hp->VK->Prop)(to:TE):TE:=λσ H Q=>to σ H λx H1=>tyV K T x H1/\r x [] H1 Q
def tBM(K:As)(T:String)(r:V->List V->Hp->VK->Prop)(to:TE)(t:TA):TE:=λσ H Q=>to σ H λx H1=>tyV K T x H1/\t σ H1 λxs H2=>r x xs H2 Q
variable{o:Expr}{to:TE}{t:TA}{id:String}{r:V->List V->Hp->VK->Prop}
def AGc(pa:PlainAttrs T)(slot:Slot T name id)(hty:typeOf (.builtin id)=pure (.type "method_descriptor"))(hm:MtR X id r)(ho:PE X o to)
  (jS:autoParam (K0 o name X.env (eval o X.env)=eval o X.env) zA0._auto_1) (kH:autoParam ((bv.endLine==bt.line)=true) zA0._auto_1):PE X (.Call (.Attribute o name bv) [] [] bt) (AIS X.K T r to):=by
 intro aa s σ H Q I h;refine wpAny_Call_method0_late jS kH (thn (ho aa s σ H _ I h) λv s1 hq=>?_);obtain⟨x,H1,I1,r1,ty,q1⟩:=hq;obtain⟨h1,h2⟩:=ACs I1 r1 ty;exact⟨T,id,pa,slot,hty,h1,h2,Mb rfl (PySem.evalArgs_none (hm aa s1 σ H1 x [] v [] Q I1 r1 .nil q1))⟩
def Ih(pa:PlainAttrs T)(slot:Slot T name id)(hty:typeOf (.builtin id)=pure (.type "method_descriptor"))(hm:MtR X id r)(ho:PE X o to)(ha:PA X (e::es) t)
  (jS:autoParam (K0 o name X.env (eval o X.env)=eval o X.env) zA0._auto_1)
  (kB:autoParam (((JO bt (CC (e::es) X.env)).all (λx=>!x.1)&&(T8 bt (P3 [] X.env)).all (λx=>x.1.isSome)
   && decide ((e::es).length+([]:List VX).length+(if([]:List VX).isEmpty then 0 else 1)<30))=true) zA0._auto_1)
  (kH:autoParam ((bv.endLine==bt.line)=true) zA0._auto_1) (hs:autoParam (CC (e::es) X.env=(false,eval e X.env)::CC es X.env) zA0._auto_1) (p7:autoParam ((JO bt (CC es X.env)).any (·.1)=false) zA0._auto_1) :
  PE X (.Call (.Attribute o name bv) (e::es) [] bt) (tBM X.K T r to t):=by
 intro aa s σ H Q I h;refine wpAny_Call_method_late jS kB kH rfl (thn (ho aa s σ H _ I h) λv s1 hq=>?_);obtain⟨x,H1,I1,r1,ty,q1⟩:=hq;obtain⟨h1,h2⟩:=ACs I1 r1 ty;refine⟨T,id,pa,slot,hty,h1,h2,?_⟩;have hA:=ha bt aa s1 σ H1 _ I1 q1;rw[hs] at hA ⊢;refine Mb (by show(false||(JO bt (CC es X.env)).any (·.1))=false;rw[p7]<;>rfl) (Q9 ?_);exact thn hA λus s2 ⟨vs,H2,I2,r2,q2⟩=>hm aa s2 σ H2 x vs v us Q I2 r1 r2 q2
end
def MtM(X:Cx)(id:String)(r:V->List V->Hp->VK->Prop):Prop :=
 ∀(aa:uQ) (s:AC) (σ:St) (H:Hp) (x:V) (xs:List V) (v:AA) (us:List AA) (Q:VK),Inv X aa σ H s->RelV x v->Vals xs us->r x xs H Q ->
  wpAny (AN X.prog X.w) X.A (call (.builtin id) (v::us)) (EP X aa σ Q) X.xe s
def Vals.one:∀{x:V}{us:List AA},Vals [x] us->∃u,us=[u]/\RelV x u:=by
 intro x us h;cases h with| cons r h=>cases h;exact⟨_,rfl,r⟩
def Vals.two:∀{x y:V}{us:List AA},Vals [x,y] us->∃u v,us=[u,v]/\RelV x u/\RelV y v:=by
 intro x y us h;cases h with| cons r h=>cases h with| cons q h=>cases h;exact⟨_,_,rfl,r,q⟩
theorem Vals.zero:∀{us:List AA},Vals [] us->us=[]
 | _,.nil=>rfl
def Vals.reverse(h:Vals xs us):Vals xs.reverse us.reverse:=by
 induction h with
 | nil=>exact .nil
 | cons r t ih=>rw[LX,LX];exact Vals.append ih (.cons r .nil)
section
variable{zs:List V}
def Inv.lset{f:Array AA->Array AA}(I:Inv X aa σ H s)(hH:H l=uA (.lst xs))
  (e:s.heap.get? l=uA {cls:=.type "list",data:=.seq ag.toArray n}) (hf:f ag.toArray=its'.toArray) (hv:Vals ys its') (hz:ys.length<=sizeLine) :
  Inv X aa σ (upd H l (.lst ys)) {s with heap:=s.heap.update l (DZ f),toks:=t'}:=by
 have q:=PySem.IsL.update e f;rw[hf] at q;refine I.write (x:=l) (e:=l) (by rw[hH];exact trivial) (.inl rfl) (λb' u hb hu=>(EZ s.heap (DZ f) (Bi hb)).trans hu) ⟨_,q⟩ ?_;exact⟨hz,its',_,hv,q⟩
def Inv.lstM(I:Inv X aa σ H s)(hH:H l=uA (.lst xs)):xs.length<=sizeLine/\∃(ag:List AA) (n:Nat),Vals xs ag/\xs.length=ag.length/\s.heap.get? l=uA {cls:=.type "list",data:=.seq ag.toArray n}:=by
 obtain⟨z,ag,n,r,e⟩:=I.hok l _ hH;exact⟨z,ag,n,r,r.length,e⟩
def ABW(h:n<=sizeLine):LD n=false:=by
 unfold LD;exact uF (by lia)
end
def AEW:V->List V->Hp->VK->Prop:=λx vs H Q=>∃l xs y,x=.ref l/\vs=[y]/\H l=uA (.lst xs)/\xs.length<sizeLine/\Q .non (upd H l (.lst (xs++[y])))
def Dd:MtM X "list.append" AEW:=by
 intro aa s σ H x vs v us Q I rx rv h;obtain⟨l,xs,y,rfl,rfl,hH,hz,q⟩:=h;cases rx;obtain⟨u,rfl,ru⟩:=rv.one;obtain⟨z,ag,n,r,hl,e⟩:=I.lstM hH;refine OL F.slot_list_append ⟨_,e,rfl⟩ F.entry_list_append (F.args_list_append_2 _ _) (PySem.list_append l ag.toArray n u (by rw[AV];exact xY hz hl)) ⟨e,?_⟩;refine⟨.non,_,I.lset (its':=ag++[u]) hH e (by simp) (r.append (.cons ru .nil)) ?_,rfl,q⟩;rw[BF,EK];exact hz
def AFU:V->List V->Hp->VK->Prop:=λx vs H Q=>∃l b xs zs,x=.ref l/\vs=[.ref b]/\H l=uA (.lst xs)/\H b=uA (.lst zs)/\xs.length+zs.length<=sizeLine/\Q .non (upd H l (.lst (xs++zs)))
def Zu:MtM X "list.extend" AFU:=by
 intro aa s σ H x vs v us Q I rx rv h;obtain⟨l,b,xs,zs,rfl,rfl,hH,hB,hz,q⟩:=h;cases rx;obtain⟨u,rfl,ru⟩:=rv.one;cases ru;obtain⟨z,ag,n,r,hl,e⟩:=I.lstM hH;obtain⟨z2,db,n2,r2,gz,e2⟩:=I.lstM hB;have hsz:ag.toArray.size+db.toArray.size<=sizeLine:=by rw[AV,AV];exact xE hz hl gz
 have tU:¬ (!ag.toArray.isEmpty&&LD (ag.toArray.size+db.toArray.size))=true:=by
  rw[ABW hsz,VY];exact BI
 refine OL F.slot_list_extend ⟨_,e,rfl⟩ F.entry_list_extend (F.args_list_extend_2 _ _)
  (AutoSeq1.list_extend_list_list_0 l ag.toArray n b db.toArray n2 tU (by rw[AV];exact uT hl z) (u4 hsz)) ⟨e,e2,?_⟩
 refine⟨.non,_,I.lset (its':=ag++db) hH e (by simp) (r.append r2) ?_,rfl,q⟩;rw[BF];exact hz
def ADm:V->List V->Hp->VK->Prop:=λx vs H Q=>∃l xs,x=.ref l/\vs=[]/\H l=uA (.lst xs)/\Q .non (upd H l (.lst xs.reverse))
def Vc:MtM X "list.reverse" ADm:=by
 intro aa s σ H x vs v us Q I rx rv h;obtain⟨l,xs,rfl,rfl,hH,q⟩:=h;cases rx;have hus:=rv.zero;subst hus;obtain⟨z,ag,n,r,hl,e⟩:=I.lstM hH;refine OL F.slot_list_reverse ⟨_,e,rfl⟩ F.entry_list_reverse (F.args_list_reverse_1 _) (AutoSeq1.list_reverse_list_0 l ag.toArray n (by rw[AV];exact uT hl z)) ⟨e,?_⟩;refine⟨.non,_,I.lset (its':=ag.reverse) hH e (by simp) r.reverse ?_,rfl,q⟩;rw[R9];exact z
end L2
namespace Att
open PySem PySem.W PySem.Calls PyProof.Rows
def KZ{P:XW}:∀(ns:uI) (vs:List AA),WellAll P h vs (ns.map Y6)->F0 vs ns:=by
 intro ns
 induction ns with
 | nil =>
  intro vs w;rw[Lv] at w;cases w;exact .nil
 | cons n ns ih =>
  intro vs w;rw[B8] at w;cases w with
  | cons a b =>
   cases a;exact .cons _ _ (ih _ b)
def Zd{l:OpenLaw}(hn:l.most=uA n){P:XW}{args:List WData}{vals:List AA}
  (mr:l.row.toRowW.claim.pre args=true) (hwl:WellAll P h vals args) :
  ∃a vs ns,vals=[A9 a]/\args=[WData.list (ns.map Y6)]/\h.get? a=uA {cls:=.type "list",data:=.seq vs.toArray}/\F0 vs ns/\ns.length<=n:=by
 have hsh:=(pre_splitW mr).1;have hc:l.pre.holds [] {args:=args}=true:=(pre_splitW mr).2;obtain⟨d,r,rfl,h1,h2⟩:=hasAllW_cons hsh;obtain rfl:=hasAllW_nil h2;obtain⟨xs,rfl,h3⟩:=hasW_list h1;obtain⟨ns,rfl⟩:=items_int h3;have aw:ns.length<=n:=by
  unfold OpenLaw.pre at hc;have h4:(WTm.not (.lt (.lit (.int (n:Int))) (.len (.arg 0)))).holds [] {args:=[.list (ns.map .int)]}=true:=by
   have h4:=(holds_andW hc).1;rw[hn] at h4;exact h4
  have h5:=condW_of h4 (w_not (w_lt w_lit (w_len_list (w_arg rfl))));rw[AB] at h5;refine TU λq=>?_;have q':(n:Int)<((ns.length:Nat):Int):=uz q
  first
   | (rw[uE q'] at h5;exact uH h5 (by decide))
   | (simp at h5;lia)
 cases hwl with
 | cons w1 w2 =>
  cases w2;cases w1 with
  | list ho bp=>exact⟨_,_,ns,rfl,rfl,ho,KZ ns _ bp,aw⟩
def ZQ(l:OpenLaw)(args:List WData):l.row.toRowW.claim.post args (.bool true) args=true :=
 postW_of (r:=l.row.toRowW) (X:=(true==true))
  (show YU [] (.bool true) .bool=true by first| rfl| decide| simp[YU,WShape.arms,WShape.armsAll])
  (w_eq_bool (w_res rfl) w_lit) rfl
def Uz{l:OpenLaw}{q:AM}{d:DefRec}
  (hn:l.most=uA n) (tH:d.params.defaults=[])
  (call:∀(w:AS) (s₀ s₁:AC) (mg mb:Str->Option AA) (fa:Addr) (o:Obj) (pm cd bg:AA) (a:Addr) (vs:List AA) (ns:uI),
   Ground q dq [] XP w s₀ mg mb s₁.heap->YP w s₁.heap ->
   s₁.heap.get? fa=uA o->o.data=.func (docDef d.name d.params d.body d.scope pm cd bg)->s₁.heap.CodeRec cd d.name->mg d.name=uA (.ref fa) ->
   s₁.heap.get? a=uA {cls:=.type "list",data:=.seq vs.toArray}->F0 vs ns->ns.length<=n->s₁.gens=#[] ->
   codeAny (AN l.prog w) OT (.call (.ref fa) ⟨[.ref a],[]⟩) (λr s'=>r=.ok (.ret (.bool true))/\OldK s₁.heap s'.heap/\s'.os=s₁.os/\MC s'.gens) s₁) :
  WalkO q dq XP YP l.row.toRowW d [] (λf vs=>UY f vs):=by
 intro w s₀ s₁ mg mb G Y fa o pm cd bg dV kV ho hd kM hD hmg hg args vals as mr hlay hrd hwl qd;obtain rfl:dV=.none:=Dflts.none hD tH;obtain rfl:kV=.none:=Dflts.noKw hD;obtain⟨a,vs,ns,rfl,rfl,qw,kc,aw⟩:=Zd hn mr hwl;refine enter_call (FM (call w s₀ s₁ mg mb fa o pm cd bg a vs ns G Y ho (fd_plain hd) kM hmg qw kc aw hg) λr s' hq=>?_);obtain⟨rfl,h2,h3,h4⟩:=hq;exact⟨.inl ⟨.bool true,.bool true,[],rfl,λ_=>rfl,.bool true,ZQ l _,λ_=>⟨LY,λ_ hm=>(nomatch hm)⟩⟩,h2,h3,h4⟩
end Att
namespace L2
open PySem PySem.Spec PyProof.Rows
def AAL:∀{vs:List AA}{ns:uI},F0 vs ns->Vals (ns.map V.int) vs:=by
 intro vs ns h
 induction h with
 | nil=>exact .nil
 | cons n t h ih=>exact .cons ⟨t,rfl⟩ ih
def Only(H:Hp):Prop:=∀b,H b=uB\/∃o xs,H b=uA (.frz o (.lst xs))
def ADb{mb:Str->Option AA}{k:Nat}{s₁:AC}
  (KX:K.In s₁.heap) (f':s₁.heap.Ns DC mg) (hb:s₁.heap.Ns UO mb) (hbb:∀x:Str,x≠"__name__"->mb x=IL x) (hlim:s₁.heap.NoLimit) (hg:s₁.gens=#[])
  (ha:s₁.heap.get? a=uA {cls:=.type "list",data:=.seq vs.toArray}) (hi:F0 vs ns) (hl:ns.length<=sizeLine) (hr:Room k OT)
  (F:∀base:Heap,K.In base->base.Ns DC mg->FnOk P w K mg base CX k fa fd [x] sp) (rh:∀(s:AC) (u:AA),QE s fd ⟨[u],[]⟩ [(x,u)])
  (jI:∀H:Hp,Only H->SqL K H a (ns.map V.int)->sp [.ref a] H (λv _=>v=.bl true) λ_ _ _=>False)
  (hCX:∀H e s',CX [] H s₁ (λ_ _ _=>False) e s'->False) :
  codeAny (AN P w) OT (.call (.ref fa) ⟨[.ref a],[]⟩) (λr s'=>r=.ok (.ret (.bool true))/\OldK s₁.heap s'.heap/\s'.os=s₁.os/\MC s'.gens) s₁:=by
 have rv:=AAL hi;have lenV:=hi.length;have sI:∀H:Hp,Only H->SqL K H a (ns.map V.int)->HOk P w H s₁.heap->(∀b,H b≠none->b=a)->(H a≠none->K.lookup a=uB) ->
   codeAny (AN P w) OT (.call (.ref fa) ⟨[.ref a],[]⟩) (λr s'=>r=.ok (.ret (.bool true))/\OldK s₁.heap s'.heap/\s'.os=s₁.os/\MC s'.gens) s₁:=by
  intro H hO hS hok hA hK;have base_of:∀{b:Addr}{o:Obj},s₁.heap.get? b=uA o->H b=none->(hidT s₁.heap H).get? b=uA o:=λe n=>ACg e n;have rW:∀{b:Addr}{o:Obj}{es:Array N0}{ep:Nat},s₁.heap.get? b=uA o->o.data=.dict es ep->H b=uB:=λ{b o es ep} e d=>by
   cases q:H b with
   | none=>rfl
   | some u =>
    have e':=hA b (by rw[q];simp);subst e';rw[ha] at e;cases e;have d':=d;cases d'
  have nsK:∀{b:Addr}{m:Str->Option AA},s₁.heap.Ns b m->(hidT s₁.heap H).Ns b m:=λ{b m} ⟨o,es,ep,e,d,r⟩=>⟨o,es,ep,base_of e (rW e d),d,r⟩;have hKb:K.In (hidT s₁.heap H):=λb o e=>base_of (KX b o e) (by
   cases q:H b with
   | none=>rfl
   | some u =>
    have e':=hA b (by rw[q];simp);subst e';rw[hK (by rw[q];simp)] at e;cases e)
  have hM:Mod K mg (hidT s₁.heap H):=⟨hKb,nsK f',⟨mb,nsK hb,hbb⟩,by obtain⟨mc,h1,h2⟩:=hlim;exact⟨mc,nsK h1,h2⟩⟩;have e0:Env0 P w K mg (hidT s₁.heap H) OT [] s₁ H:=⟨rfl,hM,λb o e=>AFL e,MQ (Zq _ _),trivial,λb hb=>uH (show b∈([]:uY) from hb) (by simp),hok,.of_eq hg⟩;refine FM ((F _ hKb (nsK f')).run OT [] s₁ H ⟨[.ref a],[]⟩ [.ref a] [.ref a] _ _ hr e0 (rh s₁ (.ref a)) (.cons rfl .nil) (jI H hO hS)) λr s' h=>?_;cases r with
  | error e=>exact(hCX H e s' h).elim
  | ok fl =>
   cases fl with
   | next=>exact E8 h
   | brk=>exact E8 h
   | cont=>exact E8 h
   | ret u =>
    obtain⟨v,H',os,bare,un,hok',r',q⟩:=h;have q':=q;subst q';obtain rfl:u=KF true:=r';refine⟨rfl,OldK.of_keep λb o e=>?_,os,bare⟩;cases q:H b with
    | none=>exact un.keep b o e q (by intro z;exact uH (show b∈([]:uY) from z) (by simp)) (by simp)
    | some u =>
     rcases hO b with z| ⟨ob,xs,z⟩
     .rw[q] at z;cases z
     .have z2:=un.frzs b ob _ z
      obtain⟨e1,_⟩:=hok b _ z;obtain⟨e2,_⟩:=hok' b _ z2;rw[e] at e1;cases e1;exact e2
 cases hk:K.lookup a with
 | some o =>
  have e:=KX a o hk;rw[ha] at e;cases e;refine sI (λ_=>uB) (λ_=>.inl rfl) (.inr ⟨_,vs.toArray,_,hk,rfl,rfl,rfl,by rw[AV,lenV];exact hl,by simpa using rv⟩) (λb u z=>by have z':=z;cases z') (λb z=>uH rfl z) λz=>uH rfl z
 | none =>
  refine sI (λb=>if b=a then uA (.frz {cls:=.type "list",data:=.seq vs.toArray} (.lst (ns.map V.int))) else uB) (λb=>?_) (.inl (.inr ⟨{cls:=.type "list",data:=.seq vs.toArray},uD rfl⟩)) (λb u z=>?_) (λb z=>?_) λ_=>hk
  .by_cases hb:b=a
   .exact .inr ⟨_,_,uD hb⟩
   .exact .inl (uC hb)
  .by_cases hb:b=a
   .have z':=(uD hb).symm.trans z
    cases z';subst hb;exact⟨ha,by rw[AB];exact hl,vs,_,rv,ha⟩
   .have z':=(uC hb).symm.trans z
    cases z'
  .by_cases hb:b=a
   .exact hb
   .exact uH (uC hb) z
def AFG{l:Pw}{k:Nat}{q:AM}{d:DefRec}{K:XW->As}{CX:AS->CXT}{sp:AS->Sp}
  (hn:l.most=uA n) (hn2:n<=sizeLine) (tH:d.params.defaults=[]) (hr:Room k OT)
  (hY:∀(w:AS) (h:Heap),YP w h->(K w.params).In h)
  (F:∀(w:AS) (mg:Str->Option AA) (fa:Addr) (h:Heap),(K w.params).In h->h.Ns DC mg->mg d.name=uA (.ref fa) ->
   ∃fd:Bz,(∀(s:AC) (u:AA),QE s fd ⟨[u],[]⟩ [(x,u)]) /\
    ∀base:Heap,(K w.params).In base->base.Ns DC mg->FnOk l.prog w (K w.params) mg base (CX w) k fa fd [x] (sp w))
  (jI:∀(w:AS) (H:Hp) (a:Addr) (ns:uI),ns.length<=n->Only H->SqL (K w.params) H a (ns.map V.int)->sp w [.ref a] H (λv _=>v=.bl true) λ_ _ _=>False)
  (hCX:∀(w:AS) (H:Hp) (s:AC) (e:AA) (s':AC),CX w [] H s (λ_ _ _=>False) e s'->False) :
  WB q dq XP YP l.row.toRowW d [] (λf vs=>UY f vs):=by
 refine Att.Uz hn tH λw s₀ s₁ mg mb fa o pm cd bg a vs ns G Y ho hd kM hmg qw kc aw hg=>?_;have KX:=hY w _ Y;obtain⟨fd,hb,hF⟩:=F w mg fa _ KX G.T.g hmg;exact ADb KX G.T.g G.T.b G.T.builtins G.T.nolimit hg qw kc (BV aw hn2) hr hF hb (λH hO hS=>jI w H a ns aw hO hS) λH e s'=>hCX w H s₁ e s'
noncomputable def inClass(s:Stmt)(j:Nat):Stmt:=match s with
 | .ClassDef _ _ _ body _ _ _ _ _ _ _=>body.getD j (.Pass ⟨0,0,0,0⟩)
 | _=>.Pass ⟨0,0,0,0⟩
def Ec(s:Stmt):Arguments:=match s with
 | .FunctionDef _ a _ _ _ _ _ _ _ _=>a
 | _=>{posonlyargs:=[],args:=[],vararg:=uB,kwonlyargs:=[],kw_defaults:=[],kwarg:=uB,defaults:=[]}
def DY(s:Stmt):List Stmt:=match s with
 | .FunctionDef _ _ b _ _ _ _ _ _ _=>b
 | _=>[]
def Ae(s:Stmt):F5:=match s with
 | .FunctionDef _ _ _ _ _ _ sc _ _ _=>sc
 | _=>{kind:=.function,names:=[],isGenerator:=false,isCoroutine:=false}
abbrev CX0:CXT:=λ_ _ _ _ _ _=>False
abbrev E0:XK:=λ_ _ _=>False
def pass0:Passes CX0 X E0:=λ_ _ _ _ _ _ _ h=>h.elim
structure Cal(P:AM)(w:AS)(K:As)(mg:Str->Option AA)(base:Heap)(n:Nat)(f:Addr)(fd:Bz)(x:Str)(ps:uU)(sp:Sp):Prop where
 G:FnOk P w K mg base CX0 n f fd ps sp
 b:Binds K fd ps []
 k:DI K (.ref f)=true
 m:mg x=uA (.ref f)
def BL{t:TA}{p:Pos}(c:Cal X.prog X.w X.K X.mg X.base n f fd x ps sp)(hr:Room n X.A)(hg:Gl X x)
  (ha:PA X (e::es) t) (me:autoParam ((x==("__debug__" : Str))=false) zA1._auto_1) (he:autoParam (CC (e::es) X.env=(false,eval e X.env)::CC es X.env) zA0._auto_1) (eW:autoParam ((JO pos (CC es X.env)).any (·.1)=false) zA0._auto_1) :
  PE X (.Call (.Name x p) (e::es) [] pos) (AFt sp [] E0 t):=Hw c.G hr hg c.m c.k c.b .nil pass0 ha me he eW
structure Fun(K:As)(x qual:Str)(st:Stmt)(f:Addr)(fd:Bz):Prop where
 ex:∃(oc:AA) (od:Option Addr) (kV bg pm:AA) (an:Option Addr) (a7 ct:AA) (oq:Array (Option AA)),
  fd=Fm x qual (Ec st) (DY st) (Ae st) .none kV bg pm an a7 ct/\K.lookup f=uA ⟨oc,od,.func fd,oq⟩/\IH K a7 qual=true
 kp:DI K (.ref f)=true
def Fun.ok{st:Stmt}{N:uU}{k:Nat}(F:Fun K x qual st f fd)(S:FnScope N ps (Ae st))(len:∀vs H Q E,sp vs H Q E->vs.length=ps.length)
  (i8:∀(a7:AA) (A:B0) (outer:List Env) (s:AC) (H:Hp) (vs:List V) (Q:VK) (E:XK),Room k (A.deeper (NY qual (Ae st) s.heap.objs.size f a7))->sp vs H Q E ->
   ∃t,PSs (cxOf CX0 P w K mg base N qual (Ae st) f a7 A outer s H E).nox (DY st) t/\t {nx:=λ_ H'=>Q .non H',rt:=Q} (start N vs) H):FnOk P w K mg base CX0 (k+1) f fd ps sp:=by
 obtain⟨oc,od,kV,bg,pm,an,a7,ct,oq,rfl,lk,kM⟩:=F.ex;refine AHT lk kM S len λA outer s H vs Q E hr jI=>?_;obtain⟨t,h,q⟩:=i8 a7 A outer s H vs Q E hr jI;exact⟨t,h.nox,q⟩
def Fun.binds{st:Stmt}(F:Fun K x qual st f fd)
  (h:∀(kV bg pm:AA) (an:Option Addr) (a7 ct:AA) (us:List AA),us.length=ps.length->T7 (Fm x qual (Ec st) (DY st) (Ae st) .none kV bg pm an a7 ct) ⟨us,[]⟩=pure (ps.zip us)):Binds K fd ps []:=by
 obtain⟨oc,od,kV,bg,pm,an,a7,ct,oq,rfl,lk,kM⟩:=F.ex;exact .all (h kV bg pm an a7 ct)
def Ld{st:Stmt}{kV:AA}(l:K.lookup f=uA ⟨oc,od,.func (Fm x qual (Ec st) (DY st) (Ae st) .none kV bg pm an a7 ct),oq⟩)
  (c:IH K a7 qual=true) (k:DI K (.ref f)=true):Fun K x qual st f (Fm x qual (Ec st) (DY st) (Ae st) .none kV bg pm an a7 ct):=⟨⟨oc,od,kV,bg,pm,an,a7,ct,oq,rfl,l,c⟩,k⟩
def Az(h:n<=1000):n<sizeLine:=EV h (by decide)
def pv(i:Nat)(hN:autoParam (X.N[i]?=uA x) zA0._auto_1)(hv:Vis X.env.scope x:=by first| exact KW rfl| exact NU (KW rfl)| exact NU (NU rfl))(hd:autoParam ((x==("__debug__" : Str))=false) zA1._auto_1)
  (kM:autoParam ((x==("__classdict__" : Str))=false) zA1._auto_1):PE X (.Name x pos) (ACO i):=AGn hN hv hd kM
def iteF{A B:Prop}(h:B):if false=true then A else B:=by
 rw[uC BI];exact h
def iteT{A B:Prop}(h:A):if true=true then A else B:=by
 rw[uD rfl];exact h
def ite2{c A B:Prop}[Decidable c](h1:c->A)(h2:¬ c->B):if c then A else B:=by
 by_cases h:c
 .rw[uD h]
  exact h1 h
 .rw[uC h]
  exact h2 h
def Same(H H':Hp):Prop:=∀b o,H b=uA o->H' b=uA o
def Same.refl(H:Hp):Same H H:=λ_ _ h=>h
def um:=@Same.refl
def Same.trans(a:Same H H1)(b:Same H1 H2):Same H H2:=λc o h=>b c o (a c o h)
def Same.free(e:Same H H')(h:H' l=YA):H l=YA:=by
 cases q:H l with
 | none=>rfl
 | some o =>
  rw[e l o q] at h;cases h
def Same.seq(e:Same H H')(h:SqL K H a xs):SqL K H' a xs:=by
 rcases h with(h| ⟨o,h⟩)| h
 .exact .inl (.inl (e _ _ h))
 .exact .inl (.inr ⟨o,e _ _ h⟩)
 .exact .inr h
noncomputable def cloOf(cells:List (Str×Addr)):List (Str×IM)->List (Str×Addr)->List (Str×Addr)
 | [],cs=>cs
 | (n,k)::r,cs=>cloOf cells r (if k == .free then match cells.lookup n with| some c=>(n,c)::cs| none=>cs else cs)
theorem Ox{cells:List (Str×Addr)}:∀{names:List (Str×IM)}{cs:List (Str×Addr)},(∀x c,cs.lookup x=uA c->cells.lookup x=uA c)->∀x c,(cloOf cells names cs).lookup x=uA c->cells.lookup x=uA c
 | [],_,h=>h
 | (n,k)::r,cs,h=>by
  unfold cloOf;refine Ox (names:=r) ?_;intro x c e;by_cases hk:(k==C7)=true
  .rw[uD hk] at e
   cases q:cells.lookup n with
   | none=>rw[q] at e;exact h x c e
   | some d =>
    rw[q] at e;rw[EE] at e;cases hx:x==n with
    | true =>
     rw[hx] at e;have hxn:x=n:=eq_of_beq hx;subst hxn;rw[q];exact e
    | false=>rw[hx] at e;exact h x c e
  .rw[uC hk] at e;exact h x c e
theorem cloOf_mono{cells:List (Str×Addr)}{x:Str}:∀{names:List (Str×IM)}{cs:List (Str×Addr)},(cs.lookup x).isSome=true->((cloOf cells names cs).lookup x).isSome=true
 | [],_,h=>h
 | (n,k)::r,cs,h=>by
  unfold cloOf;refine cloOf_mono (names:=r) ?_;by_cases hk:(k==C7)=true
  .rw[uD hk]
   cases q:cells.lookup n with
   | none=>exact h
   | some d =>
    show(FL x ((n,d)::cs)).isSome=true;rw[EE];cases hx:x==n with
    | true=>rfl
    | false=>exact h
  .rw[uC hk];exact h
theorem OJ{cells:List (Str×Addr)}{x:Str}(hc:(cells.lookup x).isSome=true):∀{names:List (Str×IM)}{cs:List (Str×Addr)},(x,C7)∈names->((cloOf cells names cs).lookup x).isSome=true
 | [],_,h=>by cases h
 | (n,k)::r,cs,h=>by
  unfold cloOf;rcases AW.mp h with e| h
  .cases e
   refine cloOf_mono ?_;rw[uD (show(C7==C7)=true from rfl)];obtain⟨d,q⟩:=F8.mp hc;rw[q];rw[EE,beq_self_eq_true];rfl
  .exact OJ hc h
theorem Wh{env:Env}:∀(names:List (Str×IM)) (cs:List (Str×Addr)),(∀y∈names,y.2=.free->(env.cells.lookup y.1).isSome=true) ->
  (forIn names cs λ(x:Str×IM) (r:List (Str×Addr))=>match x with
   | (name,kind)=>if(kind == .free)=true then do let c <- cellOf env name;pure (C6 ((name,c)::r)) else pure (C6 r):Sem (List (Str×Addr)))=pure (cloOf env.cells names cs)
 | [],cs,_=>rfl
 | (n,k)::r,cs,h=>by
  have hr:∀y∈r,y.2=.free->(env.cells.lookup y.1).isSome=true:=λy hy=>h y (AK _ hy);rw[List.forIn_cons];unfold cloOf;by_cases hk:(k==C7)=true
  .have hf:k=.free:=by simpa using hk
   obtain⟨d,q⟩:=F8.mp (h (n,k) AJ hf);have q':=q;have gp:cellOf env n=pure d:=by unfold cellOf;rw[q']
   simp only[hk,if_true,gp,pure_bind,q'];exact Wh r _ hr
  .simp only[hk,if_false,pure_bind,B7]
   exact Wh r _ hr
def ABL{env:Env}(h:∀y∈scope.names,y.2=.free->(env.cells.lookup y.1).isSome=true):closureFor scope env=pure (cloOf env.cells scope.names []):=by
 unfold closureFor;have e:=Wh (env:=env) scope.names [] h;simp only[bind_pure];exact e
theorem Eo{env:Env}:∀{names:List (Str×IM)}{x:Str},names.lookup x=uA .free ->
  (names.map λ(n,k)=>if(k==C7&&env.scope.kind == .function&&env.kindOf n==uA .cell) then(n,Ix) else(n,k)).lookup x=uA .cell \/
  (names.map λ(n,k)=>if(k==C7&&env.scope.kind == .function&&env.kindOf n==uA .cell) then(n,Ix) else(n,k)).lookup x=uA .free
 | [],_,h=>by simp at h
 | (n,k)::r,x,h=>by
  have ih:=@Eo env r x;rw[B8];show FL x ((if(k==C7&&env.scope.kind == .function&&env.kindOf n==uA .cell)=true then(n,Ix) else(n,k))::_)=_\/FL x ((if(k==C7&&env.scope.kind == .function&&env.kindOf n==uA .cell)=true then(n,Ix) else(n,k))::_)=_;cases hx:x==n with
  | true =>
   rw[EE,hx] at h;have hk:k=.free:=by simpa using h
   by_cases hc:(k==C7&&env.scope.kind == .function&&env.kindOf n==uA .cell)=true
   .rw[uD hc];left;rw[EE,hx]
   .rw[uC hc];right;rw[EE,hx,hk]
  | false =>
   rw[EE,hx] at h;by_cases hc:(k==C7&&env.scope.kind == .function&&env.kindOf n==uA .cell)=true
   .rw[uD hc];rw[EE,hx];exact ih h
   .rw[uC hc];rw[EE,hx];exact ih h
theorem KY{env:Env}{x:Str}:∀{names:List (Str×IM)},(∀y∈names,y.2≠.cell) ->
  (
   (names.map λ(n,k)=>if(k==C7&&env.scope.kind == .function&&env.kindOf n==uA .cell) then(n,Ix) else(n,k)).lookup x=uA .cell \/
   (names.map λ(n,k)=>if(k==C7&&env.scope.kind == .function&&env.kindOf n==uA .cell) then(n,Ix) else(n,k)).lookup x=uA .free)->(x,C7)∈names
 | [],_,h=>by simp at h
 | (n,k)::r,hc,h=>by
  have ih:=@KY env x r λy hy=>hc y (AK _ hy);rw[B8] at h;have h':FL x ((if(k==C7&&env.scope.kind == .function&&env.kindOf n==uA .cell)=true then(n,Ix) else(n,k))::_)=_\/FL x ((if(k==C7&&env.scope.kind == .function&&env.kindOf n==uA .cell)=true then(n,Ix) else(n,k))::_)=_:=h;by_cases hb:(k==C7&&env.scope.kind == .function&&env.kindOf n==uA .cell)=true
  .rw[uD hb] at h'
   have hk:k=.free:=by simp at hb;exact hb.1.1
   rw[EE] at h';cases hx:x==n with
   | true =>
    have:x=n:=eq_of_beq hx;subst this;subst hk;exact AJ
   | false=>rw[hx] at h';exact AK _ (ih h')
  .rw[uC hb] at h'
   rw[EE] at h';cases hx:x==n with
   | true =>
    rw[hx] at h';have:x=n:=eq_of_beq hx;subst this;rcases h' with h' | h'
    .exact uH (AO h') (hc (x,k) AJ)
    .have hk:=AO h'
     subst hk;exact AJ
   | false=>rw[hx] at h';exact AK _ (ih h')
noncomputable def compOk(f6 sc:F5):Bool :=
 (decide (sc.kind=.function))&&sc.names.all (λy=>decide (y.2≠.cell))&&sc.names.all (λy=>decide (y.2=.local->sc.names.lookup y.1=uA .local)) &&
  sc.names.all (λy=>decide (y.2=.free->f6.names.lookup y.1=uA .cell\/f6.names.lookup y.1=uA .free))
structure CompOk(f6 sc:F5):Prop where
 kind:sc.kind=.function
 nocell:∀y∈sc.names,y.2≠.cell
 loc:∀y∈sc.names,y.2=.local->sc.names.lookup y.1=uA .local
 free:∀y∈sc.names,y.2=.free->f6.names.lookup y.1=uA .cell\/f6.names.lookup y.1=uA .free
def CompOk.of{f6:F5}(h:compOk f6 sc=true):CompOk f6 sc:=by
 unfold compOk at h;rw[FV,FV,FV] at h;obtain⟨⟨⟨h1,h2⟩,h3⟩,h4⟩:=h;exact⟨uG h1,λy hy=>uG (EW.mp h2 y hy),λy hy=>uG (EW.mp h3 y hy),λy hy=>uG (EW.mp h4 y hy)⟩
abbrev cloX(X:Cx)(scope:F5):List (Str×Addr):=cloOf X.env.cells scope.names []
noncomputable def cxComp(X:Cx)(N':uU)(scope:F5)(fp:uY)(s:AC)(H:Hp):Cx where
 prog:=X.prog
 w:=X.w
 K:=X.K
 mg:=X.mg
 base:=X.base
 A:=X.A
 N:=N'
 s₀:=s
 H₀:=H
 env:=XX scope (cloX X scope) s.heap.objs.size X.env
 outer:=X.stack
 stack:=X.stack
 ex:=fp
 fn:=λ_=>false
 calm:=X.calm
 pn:=[]
 xe:=λ_ _=>False
def FreeAt(X:Cx)(sc:F5):uU->uL->Prop
 | [],[]=>True
 | x::fr,j::ix=>(X.N[j]?=uA x/\sc.names.lookup x=uA .free)/\FreeAt X sc fr ix
 | _,_=>False
noncomputable def start2(σ:St)(own:uU)(ix:uL):St:=VW own.length uB++ix.map λj=>(σ[j]?).join
def XS:∀{fr:uU}{ix:uL},FreeAt X sc fr ix->(start2 σ own ix).length=(own++fr).length:=by
 intro fr ix h;have:fr.length=ix.length:=by
  induction fr generalizing ix with
  | nil=>cases ix with
   | nil=>rfl
   | cons _ _=>exact h.elim
  | cons x fr ihf=>cases ix with
   | nil=>exact h.elim
   | cons j ix=>simp[ihf h.2]
 simp[start2,this]
theorem Mh{X:Cx}{sc:F5}{σ:St}{x:Str}{v:V}:∀{fr:uU}{ix:uL}{i:Nat},FreeAt X sc fr ix->fr[i]?=uA x->(ix.map λj=>(σ[j]?).join)[i]?=uA (uA v) ->
  ∃j:Nat,X.N[j]?=uA x/\σ[j]?=uA (uA v)/\sc.names.lookup x=uA .free
 | [],_,_,_,h,_=>by simp at h
 | _::_,[],_,h,_,_=>h.elim
 | y::fr,j::ix,0,h,h1,h2=>by
  have e1:y=x:=by simpa using h1
  subst e1;have e2:(σ[j]?).join=uA v:=by simpa using h2
  refine⟨j,h.1.1,?_,h.1.2⟩;cases q:σ[j]? with
  | none=>rw[q] at e2;cases e2
  | some o=>rw[q] at e2;cases o with
   | none=>cases e2
   | some z =>
         have:z=v:=by simpa using e2
         rw[this]
 | y::fr,j::ix,i+1,h,h1,h2=>Mh (fr:=fr) (ix:=ix) (i:=i) h.2 (by simpa using h1) (by simpa using h2)
def Vf(h:FreeAt X sc fr ix)(h1:(own++fr)[i]?=uA x)(h2:(start2 σ own ix)[i]?=uA (uA v)) :
  ∃j:Nat,X.N[j]?=uA x/\σ[j]?=uA (uA v)/\sc.names.lookup x=uA .free:=by
 by_cases hi:i<own.length
 .unfold start2 at h2
  rw[Be (by simpa using hi),Pe,uD hi] at h2;cases h2
 .unfold start2 at h2
  rw[CH (by simpa using hi)] at h2;rw[CH (by simpa using hi)] at h1;exact Mh h h1 (by simpa using h2)
def PIfs(X:Cx)(eC:uV)(t:TT):Prop :=
 ∀(aa:uQ) (s:AC) (σ:St) (H:Hp) (Q:Bool->Hp->Prop),Inv X aa σ H s->t σ H Q ->
  wpAny (AN X.prog X.w) X.A (forIn eC true λc r=>if r=true then do let ok <- UP c X.env (eval c X.env);pure (C6 ok) else pure (C6 r)) (TP X aa σ Q) X.xe s
def AGi:TT:=λ_ H Q=>Q true H
def Dl:PIfs X [] AGi:=λ_ _ _ H _ I h=>wpAny_tests_nil ⟨H,I,h⟩
def Br{t:TT}(h:PT X c t):PIfs X [c] t:=λaa s σ H Q I hw=>wpAny_tests_one (h aa s σ H Q I hw)
theorem Hh{R:UT->AC->Prop}{cv iter:Expr}{it acc:AA}{env:Env}(I:Nat->AC->Prop)
  (turn:∀n s,I n s->wpAny (AN prog w) A (L8 it) (λr s₁=>match r with
   | none=>R (.ok .next) s₁
   | some v=>wpAny (AN prog w) A (MT cv it v) (λ_ s₁'=>wpAny (AN prog w) A (Sz cv env v) (λ_ s₂ =>
     wpAny (AN prog w) A (forIn eC true λc r=>if r=true then do let ok <- UP c env (eval c env);pure (C6 ok) else pure (C6 r)) (λok s₃ =>
      if ok=true then wpAny (AN prog w) A (eval eJ env) (λx s₄ =>
       wpAny (AN prog w) A (call (.builtin "list.append") [acc,x]) (λ_ s₅=>∃m,m<n/\I m s₅) (λ_ _=>False) s₄) (λ_ _=>False) s₃
      else ∃m,m<n/\I m s₃) (λ_ _=>False) s₂) (λ_ _=>False) s₁') (λ_ _=>False) s₁) (λ_ _=>False) s)
  (n:Nat) (h:I n s) :
  codeAny (AN prog w) A (.compLoop (.ListComp eJ [⟨cv,iter,eC,0⟩] scope pos) 0 it acc env) R s:=by
 refine codeAny_loop rfl I (λn s hI=>?_) n h;refine wpAny_noted ?_;rw[compTurn_list];refine Au (RH (Au (EI (turn n s hI) (λr s₁ h₁=>?_) λ_ _ h'=>h'.elim)));cases r with
 | none=>exact AE h₁
 | some v =>
  refine Au (EI h₁ (λ_ s₁' h₁'=>?_) λ_ _ h'=>h'.elim);refine Au (EI h₁' (λ_ s₂ h₂=>Au (EI h₂ (λok s₃ h₃=>?_) λ_ _ h'=>h'.elim)) λ_ _ h'=>h'.elim);cases ok with
  | false=>exact AE ⟨rfl,h₃⟩
  | true =>
   exact Au (Au (EI h₃ (λx s₄ h₄=>Au (EI h₄ (λ_ s₅ h₅=>AE (AE ⟨rfl,h₅⟩)) λ_ _ h'=>h'.elim)) λ_ _ h'=>h'.elim))
def Behind(X:Cx)(aa:uQ)(σ:St)(R:Hp->Prop)(C:Addr)(s':AC):Prop :=
 ∃(H':Hp) (m:Str->Option AA),Inv X aa σ H' s'/\s'.heap.Ns C m/\FpOk X aa H' C/\R H'
def Inv.sameBut(I:Inv X aa σ H s)(f:FpOk X aa H C)(sb:EX C s.heap h'):Inv X aa σ H {s with heap:=h'}:=by
 obtain⟨f0,f1,f2,f3,f4,f5⟩:=f;exact I.turned (t':=s.toks) (λb o hb e=>(sb.2 b hb).trans e) f0 f1 f3 f4 f5
def Hj(J:It)(D:Addr)(g:TG)(tc:TT)(te:TE)(R:Hp->Prop)(τ:St)(H:Hp):Prop :=
 ∃W:Nat->Nat->St->Hp->Prop,(∃m,W 0 m τ H)/\∀i m τ H,W i m τ H ->
  (J.stop i H/\R H)\/(J.go i H/\∃N:St->Hp->Prop,(∀τ' H',N τ' H'->∃m',m'<m/\W (i+1) m' τ' H')/\∀x H',J.yld i H x H'->g x τ H' λτ2 H2=>tc τ2 H2 λb H3 =>
   if b=true then te τ2 H3 λv H4=>∃ys,H4 D=uA (.lst ys)/\ys.length<sizeLine/\N τ2 (upd H4 D (.lst (ys++[v]))) else N τ2 H3)
section
variable{iter:Expr}{g:TG}
def WD{R:Hp->Prop}{h₁:Heap}{m0:Str->Option AA}(hc:X.calm=true)(ok:CompOk X.env.scope scope)(n5:FreeAt X scope fr ix)
  (hg:PG (cxComp X (own++fr) scope fp s H) tg g) (hi:PIfs (cxComp X (own++fr) scope fp s H) eC tc) (he:PE (cxComp X (own++fr) scope fp s H) eJ te)
  (I3:Inv X aa σ H s) (T:Turn X.prog X.w X.K tg J fp it tn) (dk:tn 0 s.heap) (f3:∀b∈fp,FpOk X aa H b)
  (f':h₁.Ns s.heap.objs.size m0) (hsb:EX s.heap.objs.size (s.heap.push ob) h₁) (hq:Hj J D g tc te R (start2 σ own ix) H) :
  codeAny (AN X.prog X.w) X.A (.compStart (.ListComp eJ [⟨tg,iter,eC,0⟩] scope pos) 0 (.ref it) (.ref D) (XX scope (cloX X scope) s.heap.objs.size X.env))
   (λr s'=>r=.ok .next/\Behind X aa σ R s.heap.objs.size s') {s with heap:=h₁,toks:=tk}:=by
 have b5:∀b o,s.heap.get? b=uA o->h₁.get? b=uA o:=λb o e=>hsb.extBut b o (BY (BH e)) (AL _ e);have sub:∀x c,(cloX X scope).lookup x=uA c->X.env.cells.lookup x=uA c:=Ox (λx c e=>by simp at e);have j3:∀x,(x,C7)∈scope.names->X.env.kindOf x=uA .cell\/X.env.kindOf x=uA .free:=λx hx=>ok.free (x,.free) hx rfl;have has:∀x,(x,C7)∈scope.names->∃c,(cloX X scope).lookup x=uA c:=λx hx=>by
  obtain⟨c,ir⟩:=I3.ok.has x (j3 x hx);exact F8.mp (OJ (by rw[ir];rfl) hx)
 have lt3:∀b∈fp,b<s.heap.objs.size:=λb hb=>by
  obtain⟨o,ho,_⟩:=T.obj 0 _ dk b hb;exact BH ho
 have pT:∀b∈fp,b∉frs X.stack:=λb hb hs=>by
  rcases AW.mp (I3.stkSub b hs) with z| z
  .exact(f3 b hb).2.1 z
  .exact(f3 b hb).2.2.1 z
 have nV:∀b∈fp,∀x c,(cloX X scope).lookup x=uA c->c≠b:=λb hb x c h=>(f3 b hb).2.2.2.2.1 x c (sub x c h);have I4:Inv (cxComp X (own++fr) scope fp s H) [] (start2 σ own ix) H {s with heap:=h₁,toks:=tk}:=by
  refine⟨⟨I3.ok.mod,ok.kind,I3.ok.glob,I3.ok.blt,AF _,?inj,?has,?cab,I3.ok.hd,I3.ok.frames,.inl rfl,?exf,I3.bs,BV I3.ok.bsz I3.sz,?noex,pT,I3.stack,I3.stkFree⟩,
   rfl,I3.bare,Un.kept b5,⟨m0,f',?loc⟩,?cell,I3.hok.fresh (AF _),?freeC,?pin,I3.hok.kept b5,?len⟩
  case inj=>exact λx y c h1 h2=>I3.ok.inj x y c (sub x c h1) (sub y c h2)
  case has=>exact λx hx=>has x (KY ok.nocell hx)
  case cab=>exact λx c h=>by cases h
  case exf=>exact λb hb=>⟨BY (lt3 b hb),nV b hb⟩
  case noex =>
   intro b o e hb;rcases (f3 b hb).2.2.2.1 with z| z
   .exact I3.ok.noex b o e z
   .exact uH (CF (CF (BH e) I3.ok.bsz) z) (FB _)
  case loc =>
   intro i x v e1 e2 e3;obtain⟨j,a1,a2,a3⟩:=Vf n5 e1 e2;have mem:=Hk a3;obtain⟨m,hn,hl⟩:=I3.loc;have ok1:=j3 x mem;obtain⟨u,r,l⟩:=hl j x v a1 a2 (ok1.elim (λz=>.inr (.inl z)) λz=>.inr (.inr z));rcases l with⟨k,_⟩| ⟨k,c,ir,o,ho,hd⟩
   .rcases ok1 with z| z
    .rw[k] at z;cases z
    .rw[k] at z;cases z
   .obtain⟨c',tL⟩:=has x mem
    have e:=sub x c' tL;rw[ir] at e;cases e;exact⟨u,r,.inr ⟨Eo a3,c,tL,o,b5 _ _ ho,hd⟩⟩
  case cell =>
   intro x c h;obtain⟨v,o,ho,hd⟩:=I3.cell x c (sub x c h);exact⟨v,o,b5 _ _ ho,hd⟩
  case freeC=>exact λx c h=>I3.freeC x c (sub x c h)
  case pin=>exact λp hp=>uH (show p∈([]:uQ) from hp) (by simp)
  case len=>exact XS n5
 have st4:=T.keep 0 _ _ dk λb _ o e=>b5 b o e;have fg:∀{H':Hp},(∀b∈fp,H' b=uB)->∀b∈fp,FpOk (cxComp X (own++fr) scope fp s H) [] H' b:=λ{H'} hn b hb =>
  ⟨hn b hb,BY (lt3 b hb),pT b hb,.inl hb,nV b hb,λp hp=>uH (show p∈([]:uQ) from hp) (by simp)⟩
 obtain⟨W,⟨m1,w0⟩,turn⟩:=hq;have loop:codeAny (AN X.prog X.w) X.A (.compLoop (.ListComp eJ [⟨tg,iter,eC,0⟩] scope pos) 0 (.ref it) (.ref D) (XX scope (cloX X scope) s.heap.objs.size X.env))
   (λr s'=>r=.ok .next/\Behind X aa σ R s.heap.objs.size s') {s with heap:=h₁,toks:=tk}:=by
  refine Hh (λn s'=>∃i τ H',Inv (cxComp X (own++fr) scope fp s H) [] τ H' s'/\tn i s'.heap/\(∀b∈fp,H' b=uB)/\W i n τ H') ?_ m1 ⟨0,_,H,I4,st4,λb hb=>(f3 b hb).1,w0⟩;rintro n s5 ⟨i,τ5,H5,I5,qY,fr5,w5⟩;rcases turn i n τ5 H5 w5 with⟨stop,qn⟩| ⟨go,N,hN,step⟩
  .refine thn (T.done (cxComp X (own++fr) scope fp s H) rfl rfl rfl hc i [] s5 τ5 H5 _ I5 (fg fr5) qY stop) λr s6 hq=>?_
   obtain⟨hr,I6⟩:=hq;subst hr;obtain⟨m6,hn6,_⟩:=I6.loc;exact⟨rfl,H5,m6,I3.call' (ch:=fp) I6.os I6.base I6.hok I6.bare (λb hb=>⟨(f3 b hb).2.2.2.1,(f3 b hb).2.1,(f3 b hb).2.2.2.2.1,(f3 b hb).2.2.2.2.2⟩),hn6,I3.fpOk (AF _) I6.free,qn⟩
  .refine thn (T.item (cxComp X (own++fr) scope fp s H) rfl rfl rfl hc i [] s5 τ5 H5 _ I5 (fg fr5) qY go) λr s6 hq=>?_
   obtain⟨u,hr,h6⟩:=hq;subst hr;refine thn h6 λ_ s7 hq=>?_;obtain⟨x,H7,I7,r7,y7,st7,fr7⟩:=hq;have I7':=I7.pinned (fg fr7) (T.obj _ _ st7);have again:∀{τ8:St}{H8:Hp}{s8:AC},Inv (cxComp X (own++fr) scope fp s H) ([]++pinsAt fp s7.heap) τ8 H8 s8->N τ8 H8 ->
     ∃m,m<n/\∃i τ H',Inv (cxComp X (own++fr) scope fp s H) [] τ H' s8/\tn i s8.heap/\(∀b∈fp,H' b=uB)/\W i m τ H':=λ{τ8 H8 s8} I8 n8=>by
    obtain⟨m',hm,w8⟩:=hN τ8 H8 n8;refine⟨m',hm,i+1,τ8,H8,I8.unpinned,T.keep _ _ _ st7 λb hb o e=>(I8.pin (b,o) (Ct _ (Ct _ (Gi hb e)))).1,λb hb=>?_,w8⟩;obtain⟨o,e,d⟩:=T.obj _ _ st7 b hb;exact(I8.pin (b,o) (Ct _ (Ct _ (Gi hb e)))).2.1
   refine thn (hg _ s7 τ5 H7 x u _ I7' r7 (step x H7 y7)) λ_ s8 hq=>?_;obtain⟨τ8,H8,I8,q8⟩:=hq;refine thn (hi _ s8 τ8 H8 _ I8 q8) λb s9 hq=>?_;obtain⟨H9,I9,q9⟩:=hq;cases b with
   | false=>exact again I9 q9
   | true =>
    refine thn (he _ s9 τ8 H9 _ I9 q9) λuv s10 hq=>?_;obtain⟨v,H10,I10,r10,ys,hD,hz,q10⟩:=hq;refine thn (Dd (X:=cxComp X (own++fr) scope fp s H) _ s10 τ8 H10 (.ref D) [v] (.ref D) [uv] (λ_ H'=>N τ8 H') I10 rfl (.cons r10 .nil) ⟨D,ys,v,rfl,rfl,hD,hz,q10⟩) λ_ s11 hq=>?_;obtain⟨_,H11,I11,_,q11⟩:=hq;exact again I11 q11
 exact codeAny_compStart_list loop (T.self X.A 0 _ _ _ st4 loop)
def Ss{R:V->Hp->Prop}(hc:X.calm=true)(ok:CompOk X.env.scope scope)(n5:FreeAt X scope fr ix)
  (hg:∀fp s H,PG (cxComp X (own++fr) scope fp s H) tg g) (hi:∀fp s H,PIfs (cxComp X (own++fr) scope fp s H) eC tc) (he:∀fp s H,PE (cxComp X (own++fr) scope fp s H) eJ te)
  (I2:Inv X aa σ H s) (T:Turn X.prog X.w X.K tg J fp it tn) (be:tn 0 s.heap) (f2:∀b∈fp,FpOk X aa H b)
  (hq:∀D,H D=none->Hj J D g tc te (R (.ref D)) (start2 σ own ix) (upd H D (.lst []))) :
  wpAny (AN X.prog X.w) X.A (newList []) (λacc s₃=>wpAny (AN X.prog X.w) X.A (newFunctionEnv scope X.env.globals (cloX X scope) [] X.env.qual uB .none (uA X.env)) (λtz s₄ =>
   codeAny (AN X.prog X.w) X.A (.compStart (.ListComp eJ [⟨tg,iter,eC,0⟩] scope pos) 0 (.ref it) acc {tz with scope:=relabel scope X.env})
    (λr s'=>r=.ok .next/\∃v,RelV v acc/\Behind X aa σ (R v) tz.locals s') s₄) E s₃) E s:=by
 refine DU (wpAny_newFunctionEnv ok.nocell (by intro y hy;simp at hy) (λh₁ hns₁ hsb₁=>?_) ok.kind);have hD:=I2.hok.fresh (AF _);have I3:Inv X aa σ (upd H s.heap.objs.size (.lst [])) {s with heap:=s.heap.push {cls:=.type "list",dict:=uB,data:=.seq ([]:List AA).toArray}} :=
  I2.laid (t':=s.toks) (λb u e=>AL _ e) (AF _) ⟨By _,[],0,.nil,A2 _ rfl⟩
 have dk:tn 0 (s.heap.push {cls:=.type "list",dict:=uB,data:=.seq ([]:List AA).toArray}):=T.keep 0 _ _ be λb _ o e=>AL _ e;have f3:∀b∈fp,FpOk X aa (upd H s.heap.objs.size (.lst [])) b:=λb hb=>by
  obtain⟨f0,fr⟩:=f2 b hb;obtain⟨o,ho,_⟩:=T.obj 0 _ be b hb;exact⟨by rw[Ah (BY (BH ho))];exact f0,fr⟩
 refine FM (WD (R:=R (.ref s.heap.objs.size)) (D:=s.heap.objs.size) hc ok n5 (hg _ _ _) (hi _ _ _) (he _ _ _) I3 T dk f3 hns₁ hsb₁ (hq _ hD)) λr s' ⟨e,b⟩=>⟨e,V.ref s.heap.objs.size,rfl,b⟩
def AFw(own:uU)(ix:uL)(wi:TI)(g:TG)(tc:TT)(te:TE):TE:=λσ H Q=>wi σ H λJ H1=>∀D,H1 D=none->Hj J D g tc te (Q (.ref D)) (start2 σ own ix) (upd H1 D (.lst []))
end
section
variable{iter:Expr}{g:TG}{wi:TI}
def PJ(I:Inv X aa σ H s)(ok:CompOk X.env.scope scope):∀y∈scope.names,y.2=.free->(X.env.cells.lookup y.1).isSome=true:=λy hy hf=>by
 obtain⟨c,h⟩:=I.ok.has y.1 (ok.free y hy hf);rw[h];rfl
def Bp(f6:F5)(own fr:uU)(ix:uL)(hc:X.calm=true)(ho:X.env.scope=f6)(hok:compOk f6 scope=true)(n5:FreeAt X scope fr ix)(bq:PI X tg iter wi)
  (hg:∀fp s H,PG (cxComp X (own++fr) scope fp s H) tg g) (hi:∀fp s H,PIfs (cxComp X (own++fr) scope fp s H) eC tc) (he:∀fp s H,PE (cxComp X (own++fr) scope fp s H) eJ te)
  (hs:autoParam (∀x,OC iter X.env x=pure x) zA2._auto_1):PE X (.ListComp eJ [⟨tg,iter,eC,0⟩] scope pos) (AFw own ix wi g tc te):=by
 intro aa s σ H Q I h;have ok:=CompOk.of (ho ▸ hok);rw[eval_ListComp];refine O0 (use:=uB) rfl hs (ABL (PJ I ok)) ok.kind ok.loc (thn (bq aa s σ H _ I h) λxv s₁ h₁=>thn h₁ λitv s₂ h₂=>?_);obtain⟨it,fp,tn,J,H2,rfl,I2,T,be,f2,hq⟩:=h₂;refine thn (Ss (R:=Q) hc ok n5 hg hi he I2 T be f2 hq) λacc s₃ h₃=>thn h₃ λtz s₄ h₄=>FM h₄ λr s' hq=>?_;obtain⟨hr,v,rv,H',m,I',hn,rM,q⟩:=hq;subst hr;exact⟨m,hn,λh' sb=>⟨v,H',I'.sameBut rM sb,rv,q⟩⟩
set_option tactic.hygienic true in
theorem Jh{sK:Pos}(f6:F5)(own fr:uU)(ix:uL)(hN:X.N.Nodup)(hx:X.N[i]?=uA x)(hl:Loc X.env.scope x)(hc:X.calm=true)(ho:X.env.scope=f6)(hok:compOk f6 scope=true)(n5:FreeAt X scope fr ix)(bq:PI X tg iter wi)
  (hg:∀fp s H,PG (cxComp X (own++fr) scope fp s H) tg g) (hi:∀fp s H,PIfs (cxComp X (own++fr) scope fp s H) eC tc) (he:∀fp s H,PE (cxComp X (own++fr) scope fp s H) eJ te)
  (hsw:autoParam (MD (.ListComp eJ [⟨tg,iter,eC,0⟩] scope pos) (uA (.Name x bh)) sK.line X.env=pure true) zA0._auto_1) (hs:autoParam (∀x,OC iter X.env x=pure x) zA2._auto_1)
  (hf:autoParam (X.fn x=true\/X.env.scope.names.lookup x=uA .local) zB1._auto_1) :
  PS X (.Assign [.Name x bh] (.ListComp eJ [⟨tg,iter,eC,0⟩] scope pos) sK) (AFX (AFw own ix wi g tc te) (gName i)):=by
 intro aa s σ H D I h;have ok:=CompOk.of (ho ▸ hok);rw[exec_Assign_Name_used _ _ _ _ hsw];refine Au (RH (Au ?_));refine Au (EI (O0 (use:=uA (Sz (.Name x bh) X.env)) (Q:=λ_ s'=>SP X aa D .next s') rfl hs (ABL (PJ I ok)) ok.kind ok.loc
  (thn (bq aa s σ H _ I h) λxv s₁ h₁=>thn h₁ λitv s₂ h₂=>?_)) (λ_ s' hq=>AE (AE hq)) λ_ _ e=>e)
 obtain⟨it,fp,tn,J,H2,rfl,I2,T,be,f2,hq⟩:=h₂;refine thn (Ss (R:=λv H'=>D.nx (σ.set i (uA v)) H') hc ok n5 hg hi he I2 T be f2 hq) λacc s₃ h₃=>thn h₃ λtz s₄ h₄=>FM h₄ λr s' hq=>?_;obtain⟨hr,v,rv,H',m,I',hn,rM,q⟩:=hq;subst hr;refine Tb (Om I' hN hx hl rv (λtT I'' ii=>?_) hf);obtain⟨a,sb,ha⟩:=ii;have hCa:tz.locals≠a:=by
  rcases ha with z| z
  .rw[z];exact rM.2.1
  .exact λe=>rM.2.2.2.2.1 x a z e.symm
 exact⟨m,hn.sameBut sb hCa,λh' sb'=>⟨_,H',I''.sameBut rM sb',q⟩⟩
end
def Ja{items}{x:AA}(bq:s.heap.IsTupleIter it l i)
  (hl:s.heap.IsTuple l items) (hx:items[i]?=uA x)
  (hQ:∀h',h'.IsTupleIter it l (i+1)->EX it s.heap h'->Q x {s with heap:=h'}) :
  wpAny (AN prog w) A (ID (.ref it)) Q E s:=by
 obtain⟨o,ho,hc,hd⟩:=id bq;obtain⟨ol,iL,_,nl,qP⟩:=hl;unfold ID;refine Au (wpAny_callSpecial?_slot (name:=Kj "__next__") bq.typeIs Iy
  (D5 Iy bq.typeIs N1 ?_ (NG _)))
 show wpAny _ _ (field (.ref it) 0 >>= _) _ _ s;refine Au (P8 ho hd (x:=.ref l) rfl ?_);rw[uC (show ¬ ((A9 l==DE)=true) from BI)];refine Au (P8 ho hd (x:=.int i 0) rfl ?_);refine Au (Kk iL qP ?_);simp only[Cn,hx];refine Au (IJ ho hd (by simp) (AE ⟨x,rfl,AE (hQ _ ?_ (D7 ..))⟩));exact⟨_,EJ _ ho (Kn (Fn hd _)),(LZ ..).trans hc,by
  rw[Fn hd];simp[He]⟩
def Js{items}(hh:A.handled=uB)
  (bq:s.heap.IsTupleIter it l i) (hl:s.heap.IsTuple l items) (hx:items[i]?=uB)
  (hE:∀h' e,TK it s.heap h'->(∃o,h'.get? e=uA o/\o.cls=.type "StopIteration")->E (.ref e) {s with heap:=h'}) :
  wpAny (AN prog w) A (ID (.ref it)) Q E s:=by
 obtain⟨o,ho,hc,hd⟩:=id bq;obtain⟨ol,iL,_,nl,qP⟩:=hl;unfold ID;refine Au (wpAny_callSpecial?_slot (name:=Kj "__next__") bq.typeIs Iy
  (D5 Iy bq.typeIs N1 ?_ (NG _)))
 show wpAny _ _ (field (.ref it) 0 >>= _) _ _ s;refine Au (P8 ho hd (x:=.ref l) rfl ?_);rw[uC (show ¬ ((A9 l==DE)=true) from BI)];refine Au (P8 ho hd (x:=.int i 0) rfl ?_);refine Au (Kk iL qP ?_);simp only[Cn,hx];refine Au (IE (Au (IJ ho hd (by simp) ?_)));refine Au ?_;refine Au (DU ?_ (by size_fits));refine Au (m:=Kt _ _) (Mc (a:=DE) (by first| rfl| (simp only[Kt];rfl)) ?_);refine DU ?_ (by size_fits);refine Au (RR ?_)
 first| rw[show A.in1.handled=uB from hh]| rw[hh]
 refine Au (AE (TL ?_));exact hE _ _ (((D7 ..).extBut.push _).push _) ⟨_,A2 _ rfl,rfl⟩
def Tc(hh:A.handled=uB)(it l:Addr)(dA:l≠it)(items:Array AA) :
  Draws prog w A it [it,l] items.size (λi v=>items[i]?=uA v) (λi h=>h.IsTupleIter it l i/\h.IsTuple l items) where
 live:=λ_ _ st=>by obtain⟨o,ho,_⟩:=st.1;exact⟨o,ho⟩
 frame:=λ_ _ _ st hk=>⟨st.1.at λo e=>hk it (by simp) o e,st.2.at λo e=>hk l (by simp) o e⟩
 item:=λi s Q E hi st hQ=>by
  refine Ja st.1 st.2 (x:=items[i]) (by simp[hi]) λh' hU oz=>?_;exact hQ _ h' s.toks (by simp[hi]) ⟨hU,st.2.extBut oz.extBut dA⟩ oz
 done:=λs Q E st hE=>Js hh st.1 st.2 (by simp) hE
section
open AutoSeq1 (wpAny_loadPart')
set_option tactic.hygienic true in
theorem Gu(l:Addr)(items:Array AA)(n:Nat)(dct:Option Addr)(sl:Array (Option AA)) :
  Meets (Builtin.«enumerate.__new__» ⟨[.type "enumerate",.ref l],[]⟩) (λ_ R s=>s.heap.get? l=uA {cls:=.type "tuple",dict:=dct,data:=.seq items n,slots:=sl} /\
   R (.ok (.ret (.ref (s.heap.push {cls:=.type "tuple_iterator",data:=.fields #[.ref l,.int 0 0]}).objs.size)))
    {s with heap:=(s.heap.push {cls:=.type "tuple_iterator",data:=.fields #[.ref l,.int 0 0]}).push {cls:=.type "enumerate",data:=.fields #[.none,.bool false,.ref s.heap.objs.size,He 0,.none,.none]}}) :=
 .of_wp λprog w A R s h=>by
  obtain⟨hp,g,d,tk,os⟩:=s;obtain⟨hl,h⟩:=h;have qy:=sub_enumerate;have hL:Heap.IsTuple (Shared.heap ⟨hp,g,d,tk,os⟩) l items:=⟨_,hl,rfl,n,rfl⟩
  wp_walk using wpAny_loadPart' hl
  refine wpAny_stack_any λst=>AE ?_;split
  .rename_i c _ _ _ _ _
   cases (c==C3 "enumerate")
   .wp_walk using wpAny_loadPart' hl,Ll hL
    exact⟨_,rfl,h⟩
   .wp_walk using wpAny_loadPart' hl,Ll hL
    exact⟨_,rfl,h⟩
  .wp_walk using wpAny_loadPart' hl,Ll hL
   exact⟨_,rfl,h⟩
end
def HX(hL:s.heap.IsTuple l items)
  (h:∀h',SF h' (s.heap.objs.size+1) s.heap.objs.size 0 .none->h'.IsTupleIter s.heap.objs.size l 0->h'.objs.size=s.heap.objs.size+2 ->
   (∀b o,s.heap.get? b=uA o->h'.get? b=uA o)->Q (.ref (s.heap.objs.size+1)) {s with heap:=h'}) :
  wpAny (AN prog w) A (call (.type "enumerate") [.ref l]) Q E s:=by
 obtain⟨⟨c,dct,dt,sl⟩,hl,hc,n,hd⟩:=hL
 replace hc:c=.type "tuple":=hc
 replace hd:dt=.seq items n:=hd
 subst hc hd;refine callType_new F.called_enumerate (by decide) (F.typeCall_enumerate_1 _) (F.newCall_enumerate_1 _) (λobj=>F.args_object_init_2 obj _) F.entry_enumerate_new
  (Gu l items n dct sl) ⟨hl,?_⟩
 have hz:(s.heap.push {cls:=.type "tuple_iterator",data:=.fields #[.ref l,.int 0 0]}).objs.size=s.heap.objs.size+1:=FY ..;rw[hz];have he:SF ((s.heap.push {cls:=.type "tuple_iterator",data:=.fields #[.ref l,.int 0 0]}).push
   {cls:=.type "enumerate",data:=.fields #[.none,.bool false,.ref s.heap.objs.size,He 0,.none,.none]}) (s.heap.objs.size+1) s.heap.objs.size 0 .none:=by
  have:=A2 (s.heap.push {cls:=.type "tuple_iterator",data:=.fields #[.ref l,.int 0 0]})
   (o:={cls:=.type "enumerate",data:=.fields #[.none,.bool false,.ref s.heap.objs.size,He 0,.none,.none]}) rfl
  rw[hz] at this;exact this
 refine⟨⟨_,he,rfl⟩,h _ he ⟨_,AL _ (A2 _ rfl),rfl,rfl⟩ (by rw[FY,hz]) λb o x=>AL _ (AL _ x)⟩
def Inv.walked(I:Inv X aa σ H s)(k:∀b o,b∉wr->s.heap.get? b=uA o->h'.get? b=uA o)(hf:∀b∈wr,FpOk X aa H b):Inv X aa σ H {s with heap:=h',toks:=t'}:=by
 have rZ:∀b u,H b=uA u->b∉wr:=λb u e z=>by rw[(hf b z).1] at e;cases e
 refine I.step (g':=s.gens) (d':=s.drawn) (ch:=wr) (λb hb=>?_) (λb o _ _ hc e _=>k b o hc e) (λb o _ _ hc e _=>⟨o.slots,k b o hc e⟩) (λ_ _ _ _ n=>n)
  (λb o hc e=>⟨o,k b o hc e⟩) (λ_ _ e=>e) (λ_ _ _ e=>e) (λb ps e=>⟨#[],by rw[e];simp⟩) (λm hm=>?_) (λb u e=>?_) I.bare
 .obtain⟨f0,f1,f2,f3,f4,f5⟩:=hf b hb
  exact⟨f3,f1,f4,f5⟩
 .obtain⟨o,es,ep,ho,r⟩:=hm
  exact⟨o,es,ep,k _ o (λz=>(hf _ z).2.1 rfl) ho,r⟩
 .refine(I.hok b u e).stay (λc v hc q=>k c v ?_ q) (λ_ q=>q) λ_ _ q=>q
  rcases hc with z| z
  .rw[z];exact rZ b u e
  .exact rZ c _ z
def Inv.track{o:HO}(I:Inv X aa σ H s)(f:FpOk X aa H a)(new:ObjOk X.prog X.w (upd H a o) s.heap a o):Inv X aa σ (upd H a o) s:=by
 obtain⟨f0,f1,f2,f3,f4,f5⟩:=f;have ne:∀b u,H b=uA u->b≠a:=λb u e z=>by rw[z,f0] at e;cases e
 obtain⟨hh,g,d,t,os⟩:=s;refine I.step (h':=hh) (g':=g) (d':=d) (t':=t) (ch:=[a]) (λb hb=>?_) (λb o _ _ _ e _=>e) (λb o _ _ _ e _=>⟨o.slots,e⟩) (λb o hc _ n=>?_) (λb o _ e=>⟨o,e⟩)
  (λb xs e=>?_) (λb u xs e=>?_) (λb ps e=>⟨#[],?_⟩) (λm hm=>hm) (λb u e=>?_) I.bare
 .have e:b=a:=by simpa using hb
  subst e;exact⟨f3,f1,f4,f5⟩
 .rw[Ah (λz=>hc (by simp[z]))];exact n
 .rw[Ah (ne b _ e)];exact e
 .rw[Ah (ne b _ e)];exact e
 .rw[Ah (ne b _ e),e];simp
 .by_cases hb:b=a
  .subst hb;rw[Ab] at e;cases e;exact new
  .rw[Ah hb] at e
   exact(I.hok b u e).stay (λ_ _ _ q=>q) (λc q=>by rw[Ah (ne c _ q)];exact q) λc xs q=>by rw[Ah (ne c _ q)];exact q
def Ien(S:Hp->List V->Prop):It :=
 ⟨λi H=>∃xs x,S H xs/\xs[i]?=uA x,λi H v H'=>∃T x,v=.ref T/\H T=uB/\H'=upd H T (.tup [.int i,x])/\∀xs,S H xs->xs[i]?=uA x,λi H=>∃xs,S H xs/\xs.length=i⟩
def PX{k:Nat}{S:Hp->List V->Prop}{e l:Addr}{St0:Nat->Heap->Prop}
  (oo:e≠it)
  (obj:∀i h,St0 i h->∃o,h.get? it=uA o/\∀v,o.data≠.cell v)
  (keep:∀i h h',St0 i h->(∀o,h.get? it=uA o->h'.get? it=uA o)->St0 i h')
  (drw:∀(X:Cx),X.prog=P->X.w=w->X.K=K->X.calm=true->∀(i:Nat) (aa:uQ) (s:AC) (σ:St) (H:Hp) (xs:List V),Inv X aa σ H s->St0 i s.heap->(∃b5,SF s.heap e it i b5)->S H xs ->
   ∃(ag:List AA) (fp:uY) (St:Nat->Heap->Prop),Vals xs ag/\Draws P w X.A.in1 it fp ag.toArray.size (λi v=>ag.toArray[i]?=uA v) St/\St i s.heap/\e∉fp/\it∈fp/\(∀j h,St j h->St0 j h))
  (inj:∀(X:Cx),X.K=K->∀(aa:uQ) (s:AC) (σ:St) (H:Hp) (xs ys:List V),Inv X aa σ H s->S H xs->S H ys->xs=ys) :
  Turn P w K (.Tuple ci k tp) (Ien S) [e,it] e (λi h=>(∃b5,SF h e it i b5)/\St0 i h) where
 mem:=by simp
 obj:=λi h st b hb=>by
  obtain⟨⟨b5,he⟩,hs⟩:=st;rcases AW.mp hb with rfl| hb
  .exact⟨_,he,λv z=>by
    have z':=z;cases z'⟩
  .have e1:b=it:=by simpa using hb
   subst e1;exact obj i h hs
 keep:=λi h h' st k=>⟨by obtain⟨b5,he⟩:=st.1;exact⟨b5,k e (by simp) _ he⟩,keep i h h' st.2 λo q=>k it (by simp) o q⟩
 item:=by
  intro X hP hw hK hc i aa s σ H E I hf st hg;obtain⟨xs,x,hq,hx⟩:=hg;obtain⟨ag,fp,St,rv,Dr,dE,hef,hif,oP⟩:=drw X hP hw hK hc i aa s σ H xs I st.2 st.1 hq;subst hP hw;obtain⟨u,hu,ru⟩:=rv.get hx;have hi:i<ag.toArray.size:=by rw[AV];exact(AG.mp hu).1
  have kx:ag.toArray[i]?=uA u:=by simpa using hu
  have WT:=Tk Dr e oo hef hif;refine WT.item i s _ _ hi ⟨st.1,dE⟩ λT vals h' tk hPt hsz hT rf hk=>⟨.ref T,rfl,?_⟩;obtain⟨t,y,hy,rfl⟩:=hPt;have hTw:=WT.apart i T _ rf;rw[kx] at hy;have hy':=AO hy;subst hy';have hwr:=hf;have I1:Inv X aa σ H {s with heap:=h',toks:=tk}:=I.walked hk hwr;have rV:=I.hok.fresh hsz;have I2:Inv X aa σ (upd H T (.tup [.int i,x])) {s with heap:=h',toks:=tk}:=by
   refine I1.track (I.fpOk hsz rV) ⟨by show 2<=sizeLine;decide,[.int i t,u],.cons ⟨t,rfl⟩ (.cons ru .nil),?_⟩;exact hT
  have rX:∀b∈[e,it],FpOk X aa (upd H T (.tup [.int i,x])) b:=λb hb=>by
   obtain⟨f0,fr⟩:=hf b hb;have ne:b≠T:=λz=>hTw (by rw[<- z];exact hb);exact⟨by rw[Ah ne];exact f0,fr⟩
  refine WT.go ci k tp i T _ _ _ rf λh'' pX hk''=>?_;refine⟨.ref T,_,I2.walked (t':=tk) hk'' rX,rfl,⟨T,x,rfl,rV,rfl,λys hy=>by rw[inj X hK aa s σ H ys xs I hy hq];exact hx⟩,⟨pX.1,oP _ _ pX.2⟩,λb hb=>(rX b hb).1⟩
 done:=by
  intro X hP hw hK hc i aa s σ H E I hf st hg;obtain⟨xs,hq,hx⟩:=hg;obtain⟨ag,fp,St,rv,Dr,dE,hef,hif,oP⟩:=drw X hP hw hK hc i aa s σ H xs I st.2 st.1 hq;subst hP hw;have hl:=rv.length;have hi:i=ag.toArray.size:=by rw[AV];lia
  subst hi;exact(Tk Dr e oo hef hif).done s _ _ ⟨st.1,dE⟩ λh' tk hk=>⟨rfl,I.walked hk hf⟩
 self:=λA i s Q E st h=>by
  obtain⟨⟨b5,he⟩,_⟩:=st;exact OF he h
def En{u:Obj}(ha:h.get? a=uA o)(hb:h.get? b=uA u)(hc:o.cls≠u.cls):a≠b:=λe=>by
 subst e;rw[ha] at hb;cases hb;exact hc rfl
def Xh{k:Nat}{e:Addr}(oo:e≠it) :
  Turn P w K (.Tuple ci k tp) (Ien λH xs=>SqL K H a xs) [e,it] e (λi h=>(∃b5,SF h e it i b5)/\h.IsListIter it a i):=by
 refine PX (l:=a) oo (λi h st=>?_) (λi h h' st k=>st.at k) (λX hP hw hK hc i aa s σ H xs I st he hq=>?_) (λX hK aa s σ H xs ys I h1 h2=>?_)
 .obtain⟨o,e,c,d⟩:=st
  exact⟨o,e,λv z=>by rw[d] at z;cases z⟩
 .subst hP hw hK
  obtain⟨ag,rv,p,hz⟩:=I.list hq;obtain⟨b5,he⟩:=he;obtain⟨ol,nl,iL,ir,_,_⟩:=id p;obtain⟨oi,oC,sq,_⟩:=id st;have h1:a≠it:=En iL oC (by rw[ir,sq];decide);have h2:e≠a:=En he iL (by rw[ir];show C3 "enumerate"≠C3 "list";decide);exact⟨ag,[it,a],_,rv,Draws.list (A:=X.A.in1) (I.ok.hd hc) it a h1 ag.toArray,⟨st,p.isList⟩,by simp[oo,h2],by simp,λj h z=>z.1⟩
 .subst hK
  exact I.list_inj h1 h2
def Vx{k:Nat}{e:Addr}(oo:e≠it) :
  Turn P w K (.Tuple ci k tp) (Ien λH xs=>SqT K H a xs) [e,it] e (λi h=>(∃b5,SF h e it i b5)/\h.IsTupleIter it a i):=by
 refine PX (l:=a) oo (λi h st=>?_) (λi h h' st k=>st.at k) (λX hP hw hK hc i aa s σ H xs I st he hq=>?_) (λX hK aa s σ H xs ys I h1 h2=>?_)
 .obtain⟨o,e,c,d⟩:=st
  exact⟨o,e,λv z=>by rw[d] at z;cases z⟩
 .subst hP hw hK
  obtain⟨ag,rv,p,hz⟩:=I.tuple hq;obtain⟨b5,he⟩:=he;obtain⟨ol,iL,ir,_⟩:=id p;obtain⟨oi,oC,sq,_⟩:=id st;have h1:=En iL oC (by rw[ir,sq];decide);have h2:=En he iL (by rw[ir];show C3 "enumerate"≠C3 "tuple";decide);exact⟨ag,[it,a],_,rv,Tc (A:=X.A.in1) (I.ok.hd hc) it a h1 ag.toArray,⟨st,p⟩,by simp[oo,h2],by simp,λj h z=>z.1⟩
 .subst hK
  exact I.tuple_inj h1 h2
section
variable{k:Nat}
def AHz(K:As)(ta:TA):TI:=λσ H R=>ta σ H λvs H1=>∃a,vs=[.ref a]/\(∃xs,SqL K H1 a xs)/\R (Ien λH xs=>SqL K H a xs) H1
def AIM(K:As)(ta:TA):TI:=λσ H R=>ta σ H λvs H1=>∃a,vs=[.ref a]/\(∃xs,SqT K H1 a xs)/\R (Ien λH xs=>SqT K H a xs) H1
def GD{l:Expr}{ta:TA}{p:Pos}(hg:Gl X "enumerate")(hm:X.mg "enumerate" = uB)(ha:PA X [l] ta)(hs:autoParam (CC [l] X.env=[(false,eval l X.env)]) zA0._auto_1) :
  PI X (.Tuple ci k tp) (.Call (.Name "enumerate" p) [l] [] pos) (AHz X.K ta):=by
 intro aa s σ H R I h;refine US (FJ I hg hm VZ (DJ (thn (ha pos aa s σ H _ I h) λus s1 hq=>?_) hs rfl));obtain⟨vs,H1,I1,r1,q1⟩:=hq;obtain⟨a,rfl,⟨xs,hq⟩,q⟩:=q1;obtain⟨u,rfl,ru⟩:=r1.one;cases ru;obtain⟨ag,rv,pl,hz⟩:=I1.list hq;refine call_enumerate_list pl.isList λh' he bq hsz hk=>OF he ?_;have I2:Inv X aa σ H1 {s1 with heap:=h'}:=I1.kept (t':=s1.toks) hk;refine⟨s1.heap.objs.size+1,[s1.heap.objs.size+1,s1.heap.objs.size],_,_,H1,rfl,I2,Xh (UA _),⟨⟨_,he⟩,bq⟩,λb hb=>?_,q⟩;have e:s1.heap.objs.size<=b:=by
  rcases AW.mp hb with rfl| hb
  .exact NN _
  .rw[B2.mp hb];exact AF _
 exact I1.fpOk e (I1.hok.fresh e)
def Ut{l:Expr}{ta:TA}{p:Pos}(hg:Gl X "enumerate")(hm:X.mg "enumerate" = uB)(ha:PA X [l] ta)(hs:autoParam (CC [l] X.env=[(false,eval l X.env)]) zA0._auto_1) :
  PI X (.Tuple ci k tp) (.Call (.Name "enumerate" p) [l] [] pos) (AIM X.K ta):=by
 intro aa s σ H R I h;refine US (FJ I hg hm VZ (DJ (thn (ha pos aa s σ H _ I h) λus s1 hq=>?_) hs rfl));obtain⟨vs,H1,I1,r1,q1⟩:=hq;obtain⟨a,rfl,⟨xs,hq⟩,q⟩:=q1;obtain⟨u,rfl,ru⟩:=r1.one;cases ru;obtain⟨ag,rv,pl,hz⟩:=I1.tuple hq;refine HX pl λh' he bq hsz hk=>OF he ?_;have I2:=I1.kept (t':=s1.toks) hk;refine⟨s1.heap.objs.size+1,[s1.heap.objs.size+1,s1.heap.objs.size],_,_,H1,rfl,I2,Vx (UA _),⟨⟨_,he⟩,bq⟩,λb hb=>?_,q⟩;have e:s1.heap.objs.size<=b:=by
  rcases AW.mp hb with rfl| hb
  .exact NN _
  .rw[B2.mp hb];exact AF _
 exact I1.fpOk e (I1.hok.fresh e)
end
def Iz{g:TG}{R:Hp->Prop}(n:Nat)(Pv:Nat->St->Hp->Prop)(h0:Pv 0 τ H)(hgo:∀i τ H,i<n->Pv i τ H->J.go i H)(kP:∀τ H,Pv n τ H->J.stop n H)
  (hs:∀i τ H x H',i<n->Pv i τ H->J.yld i H x H'->g x τ H' λτ2 H2=>tc τ2 H2 λb H3=>if b=true then te τ2 H3 λv H4=>∃ys,H4 D=uA (.lst ys)/\ys.length<sizeLine/\Pv (i+1) τ2 (upd H4 D (.lst (ys++[v]))) else Pv (i+1) τ2 H3)
  (hd:∀τ H,Pv n τ H->R H):Hj J D g tc te R τ H:=by
 refine⟨λi m τ H=>m=n-i/\i<=n/\Pv i τ H,⟨n,by simp,By _,h0⟩,?_⟩;rintro i m τ H ⟨rfl,hi,p⟩;by_cases a8:i<n
 .exact .inr ⟨hgo i τ H a8 p,Pv (i+1),λτ' H' p'=>⟨n-(i+1),vB a8,rfl,a8,p'⟩,λx H' y=>hs i τ H x H' a8 p y⟩
 .have e:i=n:=vk hi a8
  subst e;exact .inl ⟨kP τ H p,hd τ H p⟩
def ABR{g:TG}{D:Ends}(n:Nat)(Pv:Nat->St->Hp->Prop)(h0:Pv 0 σ H)(hgo:∀i σ H,i<n->Pv i σ H->J.go i H)(kP:∀σ H,Pv n σ H->J.stop n H)
  (hs:∀i σ H x H',i<n->Pv i σ H->J.yld i H x H'->g x σ H' λσ2 H2=>tb {D with nx:=Pv (i+1),ct:=Pv (i+1),bk:=D.nx} σ2 H2) (hd:∀σ H,Pv n σ H->D.nx σ H) :
  ∃W:Nat->Nat->St->Hp->Prop,(∃m,W 0 m σ H)/\∀i m σ H,W i m σ H ->
   (J.stop i H/\D.nx σ H)\/(J.go i H/\∃N:St->Hp->Prop,(∀σ' H',N σ' H'->∃m',m'<m/\W (i+1) m' σ' H')/\∀x H',J.yld i H x H'->g x σ H' λσ2 H2=>tb {D with nx:=N,ct:=N,bk:=D.nx} σ2 H2):=by
 refine⟨λi m σ H=>m=n-i/\i<=n/\Pv i σ H,⟨n,by simp,By _,h0⟩,?_⟩;rintro i m σ H ⟨rfl,hi,p⟩;by_cases a8:i<n
 .exact .inr ⟨hgo i σ H a8 p,Pv (i+1),λσ' H' p'=>⟨n-(i+1),vB a8,rfl,a8,p'⟩,λx H' y=>hs i σ H x H' a8 p y⟩
 .have e:i=n:=vk hi a8
  subst e;exact .inl ⟨kP σ H p,hd σ H p⟩
def Nj{Q:List AA->AC->Prop}(hl:s.heap.IsTuple l vs.toArray)
  (h:Q vs {s with heap:=(s.heap.push (E9 "list" #[] 0)).update s.heap.objs.size (DZ (·++vs.toArray))}) (hsz:vs.length<=sizeLine:=by size_fits) :
  wpAny (AN prog w) A (QI (.ref l)) Q E s:=by
 obtain⟨o,ho,hc,n,hd⟩:=id hl;unfold QI;refine Au (NH (EA entry_proto_collect' ?_));refine Au (N9 (AE ⟨SG _ (by decide+kernel),EA entry_list_iadd' ?_⟩));show wpAny _ _ (HR (.ref s.heap.objs.size) (.ref l) (.ref s.heap.objs.size)) _ _ {s with heap:=s.heap.push (E9 "list" #[] 0)};unfold HR;have eh:(s.heap.push (E9 "list" #[] 0)).get? l=uA o:=AL _ ho;refine Au (M3 (T:="tuple") ⟨o,eh,hc⟩ ?_);have ht:(C3 "tuple" == C3 "tuple")=true:=by rfl
 rw[uD (by rw[ht];simp)];refine Au (O2 eh hd ?_);refine Au (O2 (xs:=#[]) (n:=0) (A2 _ rfl) rfl ?_);rw[uC (by simp)];refine Au (On (xs:=#[]) (n:=0) (A2 _ rfl) rfl ?_ (By _) (by simp only[Array.size_append,AV,JS];lia));refine AE ?_;show wpAny (AN prog w) A (do
   let o <- load s.heap.objs.size
   match o.data with
   | .seq xs _=>pure xs.toList
   | _=>unsupported "internal:collect") Q E {s with heap:=(s.heap.push (E9 "list" #[] 0)).update s.heap.objs.size (DZ (·++vs.toArray))}
 refine Au (Q6 (get?_update_seq (A2 _ rfl) _) ?_);show wpAny _ _ (pure ((#[]:Array AA)++vs.toArray).toList) Q E _;rw[show((#[]:Array AA)++vs.toArray).toList=vs by simp];exact AE h
def QM(hl:s.heap.IsTuple l vs.toArray)(hI:F0 vs ns)(qZ:vs.length<64)
  (h:∀(out:Array AA) (iF:uI),F0 out.toList iF->iF.Perm ns->iF.Pairwise (·<=·)->Q (.ref (s.heap.objs.size+1)) {s with heap:=sortedAll s.heap vs out}) :
  wpAny (AN prog w) A (call (.builtin "sorted") [.ref l]) Q E s:=by
 refine K5 kind_sorted plain_sorted entry_sorted (args_sorted1 _) ?_;unfold UB;refine Au (m:=checkCount "sorted" 1 1 _) (AE ?_);refine Au (Nj hl ?_ (by
                       have:(64:Nat)<=sizeLine:=by decide
                       exact wQ qZ this))
 refine Au (N9 ?_);have hsz:((s.heap.push (E9 "list" #[] 0)).update s.heap.objs.size (DZ (·++vs.toArray))).objs.size=s.heap.objs.size+1:=by
  rw[Heap.size_update,size_push']
 have og:(((s.heap.push (E9 "list" #[] 0)).update s.heap.objs.size (DZ (·++vs.toArray))).push (E9 "list" vs.toArray 0)).get? (s.heap.objs.size+1)=uA (E9 "list" vs.toArray 0):=by
  rw[<- hsz];exact A2 _ rfl
 rw[hsz];refine Au (Ee (D5 V0 ⟨_,og,rfl⟩ UZ (list_sort_tree og hI qZ λout iF a1 a2 a3=>⟨_,rfl,?_⟩) (V1 _)));exact AE ⟨_,rfl,h out iF a1 a2 a3⟩
def AFj(K:As):List V->Hp->VK->Prop:=λxs H Q=>∃(p:Addr) (ns:uI),xs=[.ref p]/\(SqL K H p (ns.map V.int)\/SqT K H p (ns.map V.int))/\ns.length<64/\∀(l:Addr) (ms:uI),H l=none->ms.Perm ns->ms.Pairwise (·<=·)->Q (.ref l) (upd H l (.lst (ms.map V.int)))
def Qj:∀{us:List AA}{ns:uI},F0 us ns->Vals (ns.map V.int) us:=by
 intro vs ns h
 induction h with
 | nil=>exact .nil
 | cons n t h ih=>exact .cons ⟨t,rfl⟩ ih
def KN:CallR X (.builtin "sorted") (AFj X.K):=by
 intro aa s σ H xs us Q I r h;obtain⟨p,ns,rfl,hq,qZ,q⟩:=h;obtain⟨u,rfl,ru⟩:=r.one;cases ru;have fin:∀(ag:List AA) (out:Array AA) (ms:uI),F0 out.toList ms->ms.Perm ns->ms.Pairwise (·<=·)->EP X aa σ Q (.ref (s.heap.objs.size+1)) {s with heap:=sortedAll s.heap ag out}:=λag out ms a1 a2 a3=>by
  obtain⟨e,he⟩:=sortedAll_at s.heap ag out;have hn:=I.hok.fresh (NN _);have hv:=Qj a1;have hms:=a2.length_eq;refine⟨.ref (s.heap.objs.size+1),_,I.laid (a:=s.heap.objs.size+1) (o:=.lst (ms.map V.int)) (t':=s.toks) (λb o=>sortedAll_old) (NN _) ⟨?_,out.toList,e,hv,?_⟩,rfl,q _ ms hn a2 a3⟩
  .rw[AB,hms]
   exact BV (C1 qZ) (by decide)
  .rw[Rc]
   exact he
 rcases hq with hq| hq
 .obtain⟨ag,rv,pl,hz⟩:=I.list hq
  have hl:=rv.length;rw[AB] at hl;exact sorted_ints pl.isList (intsAre_of rv) (vZ qZ hl) λout ms a1 a2 a3=>fin ag out ms a1 a2 a3
 .obtain⟨ag,rv,pl,hz⟩:=I.tuple hq
  have hl:=rv.length;rw[AB] at hl;exact QM pl (intsAre_of rv) (vZ qZ hl) λout ms a1 a2 a3=>fin ag out ms a1 a2 a3
def ABZ:CallR X (.builtin "isinstance") (λxs H Q=>∃p ys,xs=[.ref p,.ty "list"]/\SqL X.K H p ys/\Q (.bl true) H):=by
 intro aa s σ H xs us Q I r h;obtain⟨p,ys,rfl,hq,q⟩:=h;obtain⟨u,v,rfl,ru,rv⟩:=r.two;cases ru;cases rv;obtain⟨ag,_,⟨o,n,ho,hc,_⟩,_⟩:=I.list hq;exact IsiPair.list_list ho hc ⟨.bl true,H,I,rfl,q⟩
def ZM:CallR X (.builtin "isinstance") (λxs H Q=>∃p ys,xs=[.ref p,.ty "tuple"]/\SqT X.K H p ys/\Q (.bl true) H):=by
 intro aa s σ H xs us Q I r h;obtain⟨p,ys,rfl,hq,q⟩:=h;obtain⟨u,v,rfl,ru,rv⟩:=r.two;cases ru;cases rv;obtain⟨ag,_,⟨o,ho,hc,_⟩,_⟩:=I.tuple hq;exact IsiPair.tuple_tuple ho hc ⟨.bl true,H,I,rfl,q⟩
abbrev Rep(α:Type):=Hp->α->V->Prop
def rInt:Rep Int:=λ_ i v=>v=.int i
def rTup(K:As){α:Type}(R:Rep α):Rep (List α):=λH as v=>∃p xs,v=.ref p/\SqT K H p xs/\BN (R H) as xs
def rLst(K:As){α:Type}(R:Rep α):Rep (List α):=λH as v=>∃p xs,v=.ref p/\SqL K H p xs/\BN (R H) as xs
theorem Paired.get{F:α->β->Prop}:∀{l₁:List α}{l₂:List β}{i:Nat}{b:β},BN F l₁ l₂->l₂[i]?=uA b->∃a,l₁[i]?=uA a/\F a b
 | _,_,_,_,.nil,e=>by simp at e
 | _,_,0,_,.cons r _,e=>by simp at e;subst e;exact⟨_,rfl,r⟩
 | _,_,i+1,b,.cons _ t,e=>by
  obtain⟨a,h1,h2⟩:=Paired.get (i:=i) (b:=b) t (by simpa using e);exact⟨a,by simpa using h1,h2⟩
def ug{F:α->β->Prop}:∀{l₁:List α}{l₂:List β}{i:Nat}{a:α},BN F l₁ l₂->l₁[i]?=uA a->∃b,l₂[i]?=uA b/\F a b:=by
 intro l m i a h
 induction h generalizing i with
 | nil=>intro e;simp at e
 | cons r t ih =>
  intro e;cases i with
  | zero=>simp at e;subst e;exact⟨_,rfl,r⟩
  | succ i =>
   obtain⟨b,h1,h2⟩:=ih (i:=i) (by simpa using e);exact⟨b,by simpa using h1,h2⟩
def Paired.app{F:α->β->Prop}:∀{l₁ m₁:List α}{l₂ m₂:List β},BN F l₁ l₂->BN F m₁ m₂->BN F (l₁++m₁) (l₂++m₂):=by
 intro l l' m m' h s
 induction h with
 | nil=>exact s
 | cons r t ih=>exact .cons r ih
def uo:=@Paired.app
def Paired.one{F:α->β->Prop}{a:α}{b:β}(h:F a b):BN F [a] [b]:=.cons h .nil
def uq:=@Paired.one
def Paired.uniq{F:α->β->Prop}(fn:∀a a' b,F a b->F a' b->a=a'):∀{l₁ l₁':List α}{l₂:List β},BN F l₁ l₂->BN F l₁' l₂->l₁=l₁':=by
 intro l l' m h
 induction h generalizing l' with
 | nil=>intro h;cases h;rfl
 | cons r t ih=>intro h;cases h with| cons r' t'=>rw[fn _ _ _ r r',ih t']
theorem paired_ints{H:Hp}:∀(ns:uI),BN (rInt H) ns (ns.map V.int)
 | []=>.nil
 | _::r=>.cons rfl (paired_ints r)
def KC:∀{ns:uI}{xs:List V},BN (rInt H) ns xs->xs=ns.map V.int:=by
 intro ns xs h
 induction h with
 | nil=>rfl
 | cons r t ih=>rw[B8,<- ih];exact congrArg (·::_) r
structure Dat(X:Cx){α:Type}[DecidableEq α](n:Nat)(R:Rep α):Prop where
 eq:∀(aa:uQ) (s:AC) (σ:St) (H:Hp) (A:B0) (a b:α) (x y:V) (u v:AA),Inv X aa σ H s->A.units+n<C2->R H a x->R H b y->RelV x u->RelV y v->MY A s u v (decide (a=b))
 fn:∀(aa:uQ) (s:AC) (σ:St) (H:Hp) (a b:α) (x:V),Inv X aa σ H s->R H a x->R H b x->a=b
section
variable[DecidableEq α]{R:Rep α}
def DX:Dat X 0 rInt where
 eq:=λaa s σ H A a b x y u v I hu ha hb ru rv=>by
  cases ha;cases hb;obtain⟨t,rfl⟩:=ru;obtain⟨t',rfl⟩:=rv;have e:=Lm (A:=A) (s:=s) a t b t';rw[MG] at e;exact e
 fn:=λaa s σ H a b x I ha hb=>by
  cases ha;exact(V.int.inj hb)
def Ip{as bs:List α}{k:Nat}(h1:as.length=m)(h2:bs.length=k):((AR (min m k)).all (λj=>decide (as[j]?=bs[j]?))&&m==k)=decide (as=bs):=by
 subst h1;subst h2;by_cases e:as=bs
 .subst e
  simp
 .rw[uF e]
  cases q:((AR (min as.length bs.length)).all (λj=>decide (as[j]?=bs[j]?))&&as.length==bs.length) with
  | false=>rfl
  | true =>
   rw[FV] at q;obtain⟨q1,q2⟩:=q;have hl:as.length=bs.length:=by simpa using q2
   refine uH (Hc λj=>?_) e;by_cases hj:j<as.length
   .exact uG (EW.mp q1 j (AZ.mpr (by lia)))
   .rw[EL (uN hj),EL (by lia)]
def Sd{as bs:List α}(h1:as.length=m)(h2:bs.length=m):((AR m).all (λj=>decide (as[j]?=bs[j]?)))=decide (as=bs):=by
 have e:=Ip h1 h2;rw[Nat.min_self,beq_self_eq_true,WC] at e;exact e
def Dat.place(D:Dat X n R)(I:Inv X aa σ H s)(hu:A.units+n<C2){as bs:List α}{ik:List AA}
  (pa:BN (R H) as xs) (pb:BN (R H) bs ys) (ra:Vals xs ag) (rb:Vals ys ik):∀(j:Nat) (h1:j<ag.toArray.size) (h2:j<ik.toArray.size),MY A s ag.toArray[j] ik.toArray[j] (decide (as[j]?=bs[j]?)):=by
 intro j h1 h2;rw[AV] at h1 h2;have hx:j<xs.length:=by rw[ra.length];exact h1
 have hy:j<ys.length:=by rw[rb.length];exact h2
 have ex:=AI hx;have ey:=AI hy;obtain⟨u,qv,ru⟩:=ra.get ex;obtain⟨v,hv1,rv⟩:=rb.get ey;obtain⟨a,ha,qa⟩:=Paired.get pa ex;obtain⟨b,hb,qb⟩:=Paired.get pb ey;have e1:ag.toArray[j]=u:=by
  rw[Re];rw[AI h1] at qv;exact AO qv
 have e2:ik.toArray[j]=v:=by
  rw[Re];rw[AI h2] at hv1;exact AO hv1
 rw[e1,e2,ha,hb];have e3:decide (uA a=uA b)=decide (a=b):=by simp
 rw[e3];exact D.eq aa s σ H A a b _ _ u v I hu qa qb ru rv
def Gp(D:Dat X n R):Dat X (n+1) (rTup X.K R) where
 eq:=λaa s σ H A as bs x y u v I hu ha hb ru rv=>by
  obtain⟨p,xs,rfl,hp,pa⟩:=ha;obtain⟨q,ys,rfl,hq,pb⟩:=hb;cases ru;cases rv;by_cases e:p=q
  .subst e
   have exy:=I.tuple_inj hp hq;subst exy;have eab:=Paired.uniq (λa a' b h1 h2=>D.fn aa s σ H a a' b I h1 h2) pa pb;subst eab;rw[uE rfl];exact M1 _
  .obtain⟨ag,ra,ta,_⟩:=I.tuple hp
   obtain⟨ik,rb,tb,_⟩:=I.tuple hq;have l1:as.length=ag.toArray.size:=by rw[AV,<- ra.length];exact AY pa
   have l2:bs.length=ik.toArray.size:=by rw[AV,<- rb.length];exact AY pb
   have r:=SeqAt.RcAt.tuples (A:=A) (s:=s) (e:=λj=>decide (as[j]?=bs[j]?)) ta tb (uR hu) (D.place (A:=A.in1) I (by show A.units+1+n<C2;exact vt hu) pa pb ra rb);rw[Ip l1 l2] at r;exact .of_refs e r
 fn:=λaa s σ H as bs x I ha hb=>by
  obtain⟨p,xs,rfl,hp,pa⟩:=ha;obtain⟨q,ys,e,hq,pb⟩:=hb;cases e;have exy:=I.tuple_inj hp hq;subst exy;exact Paired.uniq (λa a' b h1 h2=>D.fn aa s σ H a a' b I h1 h2) pa pb
def VH(D:Dat X n R)(I:Inv X aa σ H s)(hu:A.units+(n+1)<C2){q:Addr}{as bs:List α}
  (hp:SqL X.K H p xs) (hq:SqL X.K H q ys) (pa:BN (R H) as xs) (pb:BN (R H) bs ys):SeqAt.RcAt A s (.ref p) (.ref q) (decide (as=bs))/\SeqAt.RcNeAt A s (.ref p) (.ref q) (!decide (as=bs)):=by
 obtain⟨ag,ra,ta,_⟩:=I.list hp;obtain⟨ik,rb,tb,_⟩:=I.list hq;have l1:as.length=ag.toArray.size:=by rw[AV,<- ra.length];exact AY pa
 have l2:bs.length=ik.toArray.size:=by rw[AV,<- rb.length];exact AY pb
 by_cases hs:ag.toArray.size=ik.toArray.size
 .have r:=SeqAt.RcAt.lists (A:=A) (s:=s) (e:=λj=>decide (as[j]?=bs[j]?)) ta.isList tb.isList hs (uR hu) (D.place (A:=A.in1) I (by show A.units+1+n<C2;exact vt hu) pa pb ra rb)
  have r':=Y7 (A:=A) (s:=s) (e:=λj=>decide (as[j]?=bs[j]?)) ta.isList tb.isList hs (uR hu) (D.place (A:=A.in1) I (by show A.units+1+n<C2;exact vt hu) pa pb ra rb);rw[Sd l1 (l2.trans hs.symm)] at r r';exact⟨r,r'⟩
 .have hb:(ag.toArray.size != ik.toArray.size)=true:=by simpa using hs
  have e:as≠bs:=λe=>hs (by rw[<- l1,<- l2,e]);rw[uF e];exact⟨SeqAt.RcAt.lists_lengths ta.isList tb.isList hb (uR hu),WE ta.isList tb.isList hb (uR hu)⟩
def rEqL(K:As){α:Type}[DecidableEq α](R:Rep α):R2:=λx y H Q=>∃as bs,rLst K R H as x/\rLst K R H bs y/\Q (.bl (decide (as=bs))) H
def rNeL(K:As){α:Type}[DecidableEq α](R:Rep α):R2:=λx y H Q=>∃as bs,rLst K R H as x/\rLst K R H bs y/\Q (.bl (!decide (as=bs))) H
def RP(D:Dat X n R)(hu:X.A.units+(n+1)<C2):OpR X (D8 .Eq) (rEqL X.K R):=by
 intro aa s σ H x y v u Q I rx ry h;obtain⟨as,bs,⟨p,xs,rfl,hp,pa⟩,⟨q,ys,rfl,hq,pb⟩,h⟩:=h;cases rx;cases ry;exact(VH D I hu hp hq pa pb).1 X.prog X.w _ _ ⟨.bl _,H,I,rfl,h⟩
def Rr(D:Dat X n R)(hu:X.A.units+(n+1)<C2):OpR X (D8 .NotEq) (rNeL X.K R):=by
 intro aa s σ H x y v u Q I rx ry h;obtain⟨as,bs,⟨p,xs,rfl,hp,pa⟩,⟨q,ys,rfl,hq,pb⟩,h⟩:=h;cases rx;cases ry;exact(VH D I hu hp hq pa pb).2 X.prog X.w _ _ ⟨.bl _,H,I,rfl,h⟩
open Classical in
noncomputable def isDat(R:Rep α)(H:Hp)(a:α)(u:AA):Bool:=decide (∃z,RelV z u/\R H a z)
def Ln(D:Dat X n R)(I:Inv X aa σ H s){a b:α}{z:V}(rz:RelV z u)(hb:R H b z):isDat R H a u=decide (b=a):=by
 unfold isDat;by_cases e:b=a
 .subst e
  rw[uE rfl];exact @decide_eq_true _ (Pl _) ⟨z,rz,hb⟩
 .rw[uF e]
  refine @decide_eq_false _ (Pl _) ?_;rintro⟨z',rz',h'⟩;have ez:=rz'.inj rz;subst ez;exact e (D.fn aa s σ H b a z' I hb h')
def Yl(D:Dat X n R)(I:Inv X aa σ H s){a:α}:∀{as:List α}{xs:List V}{ag:List AA},BN (R H) as xs->Vals xs ag->ag.any (isDat R H a)=decide (a∈as):=by
 intro as xs ag h hv
 induction h generalizing ag with
 | nil=>cases hv;simp
 | @cons b _ as _ r t ih =>
  cases hv with
  | cons rv tv =>
   rw[JI,Ln D I rv r,ih tv];by_cases e:b=a
   .subst e;simp
   .have e':¬ a=b:=λz=>e z.symm
    simp[e,e']
theorem LC(D:Dat X n R){aa:uQ}{s:AC}{σ:St}{H:Hp}{A:B0}(I:Inv X aa σ H s)(hu:A.units+n<C2){a:α}{x:V}{v:AA}(rx:RelV x v)(ha:R H a x) :
  ∀{as:List α}{xs:List V}{ag:List AA},BN (R H) as xs->Vals xs ag->∀u∈ag,MY A s u v (isDat R H a u)
 | _,_,_,.nil,.nil=>λu hm=>by cases hm
 | _,_,_,.cons r t,.cons rv tv=>λu hm=>by
  rcases AW.mp hm with rfl| hm
  .rw[Ln D I rv r]
   exact D.eq aa s σ H A _ a _ x _ v I hu r ha rv rx
  .exact LC D I hu rx ha t tv u hm
def rInL(K:As){α:Type}[DecidableEq α](R:Rep α)(neg:Bool):R2:=λx y H Q=>∃a as,R H a x/\(rLst K R H as y\/rTup K R H as y)/\Q (.bl (if neg then !decide (a∈as) else decide (a∈as))) H
def ACo(D:Dat X n R)(hu:X.A.units+(n+1)<C2):OpR X (D8 .In) (rInL X.K R false):=by
 intro aa s σ H x y v u Q I rx ry h;obtain⟨a,as,ha,hs,h⟩:=h;have qv:X.A.in1.units+n<C2:=by show X.A.units+1+n<C2;exact vt hu
 rcases hs with⟨p,xs,rfl,hp,pa⟩| ⟨p,xs,rfl,hp,pa⟩
 .cases ry
  obtain⟨ag,r,pl,_⟩:=I.list hp;refine UX (isDat R H a) pl.isList (λw hw=>LC D I qv rx ha pa r w (by simpa using hw)) ⟨.bl _,H,I,rfl,?_⟩;rw[show ag.toArray.any (isDat R H a)=ag.any (isDat R H a) by simp,Yl D I pa r];exact h
 .cases ry
  obtain⟨ag,r,pl,_⟩:=I.tuple hp;refine Uf (isDat R H a) pl (λw hw=>LC D I qv rx ha pa r w (by simpa using hw)) ⟨.bl _,H,I,rfl,?_⟩;rw[show ag.toArray.any (isDat R H a)=ag.any (isDat R H a) by simp,Yl D I pa r];exact h
end
def TSm(H H':Hp):Prop:=∀b u,H b=uA u->(∃xs,u=.tup xs\/∃o,u=.frz o (.tup xs))->H' b=uA u
def TSm.trans(a:TSm H H1)(b:TSm H1 H2):TSm H H2:=λc u h t=>b c u (a c u h t) t
def Same.ts(e:Same H H'):TSm H H':=λb u h _=>e b u h
def TSm.lst{o:HO}(h:H l=uA (.lst xs)):TSm H (upd H l o):=λb u hb t=>by
 rw[Ah ?_]
 .exact hb
 .rintro rfl
  rw[h] at hb;cases hb;obtain⟨ys,e| ⟨o,e⟩⟩:=t
  .cases e
  .cases e
def ur:=@TSm.lst
def TSm.new{o:HO}(h:H p=uB):TSm H (upd H p o):=λb u hb _=>by rw[Ah (Ai hb h)];exact hb
def TSm.seq(e:TSm H H')(h:SqT K H a xs):SqT K H' a xs:=by
 rcases h with(h| ⟨o,h⟩)| h
 .exact .inl (.inl (e _ _ h ⟨xs,.inl rfl⟩))
 .exact .inl (.inr ⟨o,e _ _ h ⟨xs,.inr ⟨o,rfl⟩⟩⟩)
 .exact .inr h
def Paired.imp{F G:α->β->Prop}(f:∀a b,F a b->G a b):∀{l₁:List α}{l₂:List β},BN F l₁ l₂->BN G l₁ l₂:=by
 intro l m h
 induction h with
 | nil=>exact .nil
 | cons r t ih=>exact .cons (f _ _ r) ih
def ut:=@Paired.imp
def TRep{α:Type}(R:Rep α):Prop:=∀H H' a x,TSm H H'->R H a x->R H' a x
def Aw:TRep rInt:=λ_ _ _ _ _ h=>h
def Aq{R:Rep α}(t:TRep R):TRep (rTup K R):=λH H' as x e h=>by
 obtain⟨p,xs,rfl,hp,pa⟩:=h;exact⟨p,xs,rfl,e.seq hp,ut (λa b=>t H H' a b e) pa⟩
def Same.new(h:H p=uB)(o:HO):Same H (upd H p o):=λb u q=>by rw[Ah (Ai q h)];exact q
def uw:=@Same.new
def Same.put(s:Same H H')(h:H p=uB)(o:HO):Same H (upd H' p o):=λb u q=>by rw[Ah (Ai q h)];exact s b u q
def Same.obj{q:Addr}(h:H p=uB)(g:H q=uB)(o u:HO):Same H (upd (upd H q u) p o):=(uw g u).put h o
abbrev rPair(K:As):Rep uI:=rTup K rInt
def GZ(h:H p=uA (.tup (ns.map V.int))):rPair K H ns (.ref p):=⟨p,_,rfl,uk h,paired_ints ns⟩
def CG{x:V}(h:rPair K H ns x):∃p,x=.ref p/\SqT K H p (ns.map V.int):=by
 obtain⟨p,xs,rfl,hp,pa⟩:=h;rw[KC pa] at hp;exact⟨p,rfl,hp⟩
def rSeq(K:As):Rep uI:=λH t x=>rLst K rInt H t x\/rPair K H t x
def ACl{x:V}(h:rSeq K H ns x):∃p,x=.ref p/\(SqL K H p (ns.map V.int)\/SqT K H p (ns.map V.int)):=by
 rcases h with⟨p,xs,rfl,hp,pa⟩| h
 .rw[KC pa] at hp
  exact⟨p,rfl,.inl hp⟩
 .obtain⟨p,e,hp⟩:=CG h
  exact⟨p,e,.inr hp⟩
section
variable{g:TG}{R:Hp->Prop}
abbrev putD(D:Addr)(N:St->Hp->Prop)(te:TE)(τ2:St):Bool->Hp->Prop:=λb H3=>if b=true then te τ2 H3 λv H4=>∃ys,H4 D=uA (.lst ys)/\ys.length<sizeLine/\N τ2 (upd H4 D (.lst (ys++[v]))) else N τ2 H3
def yesD{N:St->Hp->Prop}(h:te τ H λv H4=>∃ys,H4 D=uA (.lst ys)/\ys.length<sizeLine/\N τ (upd H4 D (.lst (ys++[v])))):AGi τ H (putD D N te τ):=by
 show putD D N te τ true H;unfold putD;rw[uD rfl];exact h
def yesN{N:St->Hp->Prop}{x:V}(h:te (τ.set i (uA x)) H λv H4=>∃ys,H4 D=uA (.lst ys)/\ys.length<sizeLine/\N (τ.set i (uA x)) (upd H4 D (.lst (ys++[v])))):gName i x τ H λτ2 H2=>AGi τ2 H2 (putD D N te τ2):=yesD h
def Cj(Pv:Nat->St->Hp->Prop)(h0:Pv 0 τ H)(hl:∀i τ H,i<=xs.length->Pv i τ H->SqL K H a xs)
  (hs:∀i x τ H,xs[i]?=uA x->Pv i τ H->g x τ H λτ2 H2=>tc τ2 H2 (putD D (Pv (i+1)) te τ2)) (hd:∀τ H,Pv xs.length τ H->R H):Hj (Itl K a) D g tc te R τ H:=by
 refine Iz xs.length Pv h0 (λi τ H hi p=>⟨xs,xs[i],hl i τ H (C1 hi) p,by simp[hi]⟩) (λτ H p=>⟨xs,hl _ τ H (AF _) p,AF _⟩) (λi τ H x H' hi p y=>?_) hd;obtain⟨e,y⟩:=y;subst e;exact hs i x τ _ (y xs (hl i τ _ (C1 hi) p)) p
def Jj(Pv:Nat->St->Hp->Prop)(h0:Pv 0 τ H)(hl:∀i τ H,i<=xs.length->Pv i τ H->SqT K H a xs)
  (hs:∀i x τ H,xs[i]?=uA x->Pv i τ H->g x τ H λτ2 H2=>tc τ2 H2 (putD D (Pv (i+1)) te τ2)) (hd:∀τ H,Pv xs.length τ H->R H):Hj (Itt K a) D g tc te R τ H:=by
 refine Iz xs.length Pv h0 (λi τ H hi p=>⟨xs,xs[i],hl i τ H (C1 hi) p,by simp[hi]⟩) (λτ H p=>⟨xs,hl _ τ H (AF _) p,AF _⟩) (λi τ H x H' hi p y=>?_) hd;obtain⟨e,y⟩:=y;subst e;exact hs i x τ _ (y xs (hl i τ _ (C1 hi) p)) p
def Cg{lo:Int}(Pv:Nat->St->Hp->Prop)(h0:Pv 0 τ H)
  (hs:∀i τ H,i<n->Pv i τ H->g (.int (lo+i)) τ H λτ2 H2=>tc τ2 H2 (putD D (Pv (i+1)) te τ2)) (hd:∀τ H,Pv n τ H->R H):Hj (Itr lo n) D g tc te R τ H:=by
 refine Iz n Pv h0 (λi τ H hi p=>hi) (λτ H p=>AF _) (λi τ H x H' hi p y=>?_) hd;obtain⟨e,y⟩:=y;subst e y;exact hs i τ _ hi p
def FP{S:Hp->List V->Prop}(Pv:Nat->St->Hp->Prop)(h0:Pv 0 τ H)(hl:∀i τ H,i<=xs.length->Pv i τ H->S H xs)
  (hs:∀i x τ H T,xs[i]?=uA x->H T=none->Pv i τ H->g (.ref T) τ (upd H T (.tup [.int i,x])) λτ2 H2=>tc τ2 H2 (putD D (Pv (i+1)) te τ2)) (hd:∀τ H,Pv xs.length τ H->R H):Hj (Ien S) D g tc te R τ H:=by
 refine Iz xs.length Pv h0 (λi τ H hi p=>⟨xs,xs[i],hl i τ H (C1 hi) p,by simp[hi]⟩) (λτ H p=>⟨xs,hl _ τ H (AF _) p,rfl⟩) (λi τ H x H' hi p y=>?_) hd;obtain⟨T,z,rfl,hT,rfl,y⟩:=y;exact hs i z τ H T (y xs (hl i τ _ (C1 hi) p)) hT p
end
def CN{k:Nat}(hr:Room k A)(h:autoParam (n<=64) zA1._auto_1):A.units+n<C2:=EV (Nat.add_le_add_left h _) hr.units
def Gh(hK:X.K=K){k:Nat}{t:TGs}(hc:X.calm=true)(h:PGs X es t)
  (hn:autoParam ((KI es X.env).length=n) zA0._auto_1) (dE:autoParam ((KI es X.env).findIdx? (·.1)=uB) zA0._auto_1):PG X (.Tuple es k pos) (gTup K n t):=by subst hK;exact Iv hc h hn dE
def Ey(hK:X.K=K):OpR X (D8 .In) (rIn K false):=by subst hK;exact Fx
def Eb(hK:X.K=K):OpR X (D8 .NotIn) (rIn K true):=by subst hK;exact JR
def Ii(hK:X.K=K):CallR X (.builtin "len") (λxs H Q=>∃p ys,xs=[.ref p]/\(SqL K H p ys\/SqT K H p ys)/\Q (.int ys.length) H):=by subst hK;exact Av
def Ly(hK:X.K=K):IxR X (rIxL K):=by subst hK;exact Bm
def Yx(hK:X.K=K):IxR X (rIxT K):=by subst hK;exact Bc
theorem CZ(x:Int):∀(tie:uI),inV (.int x) (tie.map V.int)=decide (x∈tie)
 | []=>rfl
 | z::r=>by
  have ih:=CZ x r;unfold inV at ih ⊢;rw[B8,JI,ih];show((z==x)||decide (x∈r))=decide (x∈z::r);by_cases e:z=x
  .subst e;simp
  .have e':¬ x=z:=λq=>e q.symm
   simp[e,e']
def iteNN{c A B:Prop}{inst:Decidable c}(hc:¬ c)(h:A):if(!decide c)=true then A else B:=by
 rw[uF hc];exact iteT h
def iteNP{c A B:Prop}{inst:Decidable c}(hc:c)(h:B):if(!decide c)=true then A else B:=by
 rw[uE hc];exact iteF h
def iteN{c A B:Prop}{inst:Decidable c}(hc:¬ c)(h:B):if decide c=true then A else B:=by
 rw[uF hc];exact iteF h
def iteP{c A B:Prop}{inst:Decidable c}(hc:c)(h:A):if decide c=true then A else B:=by
 rw[uE hc];exact iteT h
def ADd{k:Int}(h0:0<=k)(h:k<(ns.length:Int)):∃v:Int,atI (ns.map V.int) k=uA (.int v):=by
 have hk:k.toNat<ns.length:=vf h0 h;have ek:k=((k.toNat:Nat):Int):=by lia
 have q:atI (ns.map V.int) ((k.toNat:Nat):Int)=uA (.int ns[k.toNat]):=Bk (by rw[AU,AI hk]<;>rfl);rw[<- ek] at q;exact⟨_,q⟩
def small(h:n<=1000):n<=sizeLine:=C1 (Az h)
noncomputable def srt:uI->uI
 | [a,b]=>if b<a then [b,a] else [a,b]
 | t=>t
def FQ(a b:Int):srt [a,b]=if b<a then [b,a] else [a,b]:=rfl
def Zb{a b:Int}(h:ms.Perm [a,b])(s:ms.Pairwise (·<=·)):ms=srt [a,b]:=by
 have hl:=h.length_eq
 match ms,hl,h,s with
 | [x,y],_,h,s =>
  have hxy:x<=y:=by simpa using s
  have hx:x∈[a,b]:=h.mem_iff.mp (by simp);have hy:y∈[a,b]:=h.mem_iff.mp (by simp);have ha:a∈[x,y]:=h.mem_iff.mpr (by simp);have hb:b∈[x,y]:=h.mem_iff.mpr (by simp);simp only[AW,Da,or_false] at hx hy ha hb;rw[FQ];split
  .have e1:x=b:=by lia
   have e2:y=a:=by lia
   rw[e1,e2]
  .have e1:x=a:=by lia
   have e2:y=b:=by lia
   rw[e1,e2]
def OkTie(m:Int)(t:uI):Prop:=∃a b,t=[a,b]/\0<=a/\a<m/\0<=b/\b<m/\a≠b
structure OkTies(m:Int)(as:uJ):Prop where
 ok:∀t∈as,OkTie m t
 nd:(as.map srt).Nodup
def OkTies.take_new{m:Int}{t:uI}(h:OkTies m as)(ht:as[i]?=uA t):srt t∉(as.take i).map srt:=by
 intro hm;obtain⟨u,hu,e⟩:=A7.mp hm;obtain⟨j,hj,ej⟩:=C4.mp hu;have hji:j<i:=by rw[B4] at hj;exact vW hj
 have hi:=(AG.mp ht).1;have et:=(AG.mp ht).2;have eu:as[j]'(uP hji hi)=u:=by rw[<- ej,J8]
 have hnd:=h.nd;have:=(T5 (h₀:=by rw[AB];exact uP hji hi) (h₁:=by rw[AB];exact hi) hnd (i:=j) (j:=i)).mp (by rw[MB,MB,et,eu,e]);exact vd hji this
noncomputable def Bb(p:Int):Nat->uJ->uI
 | _,[]=>[]
 | k,t::r=>if p∈t then(k:Int)::Bb p (k+1) r else Bb p (k+1) r
theorem QC(p:Int)(t:uI):∀(k:Nat) (as:uJ),Bb p k (as++[t])=Bb p k as++(if p∈t then [((k+as.length:Nat):Int)] else [])
 | k,[]=>by
  show(if p∈t then(k:Int)::Bb p (k+1) [] else Bb p (k+1) [])=_;split<;>simp[Bb]
 | k,u::r=>by
  have ih:=QC p t (k+1) r;have e:k+1+r.length=k+(u::r).length:=by simp;exact vj
  rw[e] at ih;show(if p∈u then(k:Int)::Bb p (k+1) (r++[t]) else Bb p (k+1) (r++[t]))=(if p∈u then(k:Int)::Bb p (k+1) r else Bb p (k+1) r)++_;rw[ih];split<;>rfl
abbrev hits(p:Int)(as:uJ):uI:=Bb p 0 as
def Oa{p:Int}{t:uI}(h:as[i]?=uA t):hits p (as.take (i+1))=hits p (as.take i)++(if p∈t then [(i:Int)] else []):=by
 have hi:=(AG.mp h).1;have e:as.take (i+1)=as.take i++[t]:=by rw[D9,h];rfl
 rw[e,hits,QC];have:0+(as.take i).length=i:=by rw[B4];lia
 rw[this]
theorem Je(p:Int):∀(k:Nat) (as:uJ),(Bb p k as).length<=as.length
 | _,[]=>AF _
 | k,t::r=>by
  have ih:=Je p (k+1) r;show(if p∈t then(k:Int)::Bb p (k+1) r else Bb p (k+1) r).length<=r.length+1;split
  .simp;exact ih
  .exact u4 ih
def max_list(hc:X.calm=true):CallR X (.builtin "max") (λxs H Q=>∃(p:Addr) (ns:uI),xs=[.ref p]/\SqL X.K H p (ns.map V.int)/\0<ns.length/\∀m,m∈ns->(∀a∈ns,a<=m)->Q (.int m) H):=by
 intro aa s σ H xs us Q I r h;obtain⟨p,ns,rfl,hq,dA,q⟩:=h;obtain⟨u0,rfl,ru⟩:=r.one;cases ru;obtain⟨ag,rv,pl,hz⟩:=I.list hq;have hi:=intsAre_of rv;have hl:=pl.isList;obtain⟨ys,e⟩:=hi.allInts.items;have f':ns=ys.toList.map (·.1):=by rw[<- hi.numsOf,<- nums_intItems,<- e]
 have hsz:0<ys.size:=by
  rw[f',AB,A1] at dA;exact dA
 rw[e] at hl;refine max_intList (I.ok.hd hc) hl hsz λv h' tk hv hk=>?_;obtain⟨t,rfl⟩:=intItems_at hv;obtain⟨h1,h2⟩:=argBest_gt (Rs ys) (ys.size-1);refine⟨.int (Rs ys (argBest (λi j=>decide (Rs ys i>Rs ys j)) (ys.size-1))),H,I.kept hk,⟨t,rfl⟩,q _ ?_ λa ha=>?_⟩
 .rw[f',UC]
  exact getD_mem (by rw[AB,A1];exact yX h1 hsz)
 .rw[f'] at ha
  obtain⟨j,hj,rfl⟩:=mem_getD ha;rw[AB,A1] at hj;rw[<- UC];exact h2 j (vo hj)
noncomputable def upTo(n:Nat)(f:Int->Bool):uI:=((AR n).map λ(i:Nat)=>(i:Int)).filter f
def PN(n:Nat)(f:Int->Bool):upTo (n+1) f=upTo n f++(if f n=true then [(n:Int)] else []):=by
 unfold upTo;rw[Fa,BG,CM,JU]
 congr 1
 rw[EF];split<;>rfl
def ABp(n:Nat)(f:Int->Bool):(upTo n f).length<=n:=by
 unfold upTo;refine BV (CS _ _) ?_;simp
set_option tactic.hygienic true in
theorem Fz{p x:Int}:∀{k:Nat}{as:uJ},x∈Bb p k as↔∃i:Nat,∃t,as[i]?=uA t/\p∈t/\x=((k+i:Nat):Int)
 | k,[]=>by simp[Bb]
 | k,u::r=>by
  have ih:=@Fz p x (k+1) r;have e:Bb p k (u::r)=if p∈u then(k:Int)::Bb p (k+1) r else Bb p (k+1) r:=rfl
  rw[e];constructor
  .intro h
   split at h
   .rename_i hu
    rcases AW.mp h with h| h
    .exact⟨0,u,rfl,hu,by simpa using h⟩
    .obtain⟨i,t,h1,h2,h3⟩:=ih.mp h
     exact⟨i+1,t,by simpa using h1,h2,by rw[h3];congr 1;exact vj⟩
   .obtain⟨i,t,h1,h2,h3⟩:=ih.mp h
    exact⟨i+1,t,by simpa using h1,h2,by rw[h3];congr 1;exact vj⟩
  .rintro⟨i,t,h1,h2,h3⟩
   cases i with
   | zero =>
    have:u=t:=by simpa using h1
    subst this;rw[uD h2];exact AW.mpr (.inl (by simpa using h3))
   | succ i =>
    have hm:=ih.mpr ⟨i,t,by simpa using h1,h2,by rw[h3];congr 1;lia⟩;split
    .exact AK _ hm
    .exact hm
theorem Hz(p:Int):∀(k:Nat) (as:uJ),(Bb p k as).Pairwise (· < ·)
 | _,[]=>LY
 | k,u::r=>by
  have ih:=Hz p (k+1) r;have e:Bb p k (u::r)=if p∈u then(k:Int)::Bb p (k+1) r else Bb p (k+1) r:=rfl
  rw[e];split
  .refine SH (λx hx=>?_) ih
   obtain⟨i,t,_,_,h3⟩:=Fz.mp hx;rw[h3];lia
  .exact ih
theorem Qd:∀{ns:uI} (h:ns≠[]),ns.Pairwise (· < ·)->∀x∈ns,x<=ns.getLast h
 | [],h,_,_,_=>uH rfl h
 | [a],_,_,x,hx=>by
  have:x=a:=by simpa using hx
  subst this;exact HP _
 | a::b::r,_,pw,x,hx=>by
  have h2:=Cs.mp pw;have e:(a::b::r).getLast (by simp)=(b::r).getLast (by simp):=by simp
  rw[e];have l:=Qd (ns:=b::r) (by simp) h2.2;rcases AW.mp hx with hx| hx
  .subst hx
   have h3:=h2.1 b (by simp);have h4:=l b (by simp);exact zc h3 h4
  .exact l x hx
end L2
namespace L2
def Cl(S:Int->Prop)(es:uJ):Prop:=∀e∈es,∀x∈e,∀y∈e,S x->S y
def gh(h:uI)(p:Int):Int:=h.getD p.toNat 0
def AGu(h:uI)(p:Nat):gh h (p:Int)=h.getD p 0:=by unfold gh;rw[Cn]
def WM{h:uI}{p:Int}(h0:0<=p)(h1:p<h.length):h[p.toNat]?=uA (gh h p):=by
 unfold gh;rw[AD,AI (vf h0 h1)];rfl
structure Heads(n:Nat)(es:uJ)(h:uI):Prop where
 len:h.length=n
 le:∀p:Int,0<=p->p<n->0<=gh h p/\gh h p<=p
 idem:∀p:Int,0<=p->p<n->gh h (gh h p)=gh h p
 edge:∀e∈es,∀x∈e,∀y∈e,gh h x=gh h y
 reach:∀S:Int->Prop,Cl S es->∀p q:Int,0<=p->p<n->0<=q->q<n->gh h p=gh h q->S p->S q
abbrev below(n:Nat):uI:=(AR n).map λ(i:Nat)=>(i:Int)
def Hl{p:Int}(h0:0<=p)(h1:p<n):gh (below n) p=p:=by
 unfold gh;rw[AD,AU,E7 (vf h0 h1)];show((p.toNat:Nat):Int)=p;exact wg h0
def Heads.start(n:Nat):Heads n [] (below n) where
 len:=by simp
 le:=λp h0 h1=>by rw[Hl h0 h1];lia
 idem:=λp h0 h1=>by rw[Hl h0 h1,Hl h0 h1]
 edge:=λe he=>by cases he
 reach:=λS _ p q p0 p1 q0 q1 e hp=>by
  rw[Hl p0 p1,Hl q0 q1] at e;rw[<- e];exact hp
noncomputable def asOne(h:uI)(a b:Int):uI:=h.map λx=>if x=a\/x=b then(if b<a then b else a) else x
def ADR{h:uI}{a b p:Int}(h0:0<=p)(h1:p<h.length):gh (asOne h a b) p=if gh h p=a\/gh h p=b then(if b<a then b else a) else gh h p:=by
 unfold gh asOne;rw[AD,AD,AU,AI (vf h0 h1)];rfl
set_option tactic.hygienic true in
theorem Heads.join{es:uJ}{h:uI}(H:Heads n es h){a b:Int}(a0:0<=a)(a1:a<n)(b0:0<=b)(b1:b<n)(e9:∀e∈es,∀x∈e,0<=x/\x<n) :
  Heads n (es++[[a,b]]) (asOne h (gh h a) (gh h b)):=by
 have hl:=H.len;have la:=H.le a a0 a1;have lb:=H.le b b0 b1;have ia:=H.idem a a0 a1;have ib:=H.idem b b0 b1;have G:∀{p:Int},0<=p->p<n->gh (asOne h (gh h a) (gh h b)) p=if gh h p=gh h a\/gh h p=gh h b then(if gh h b<gh h a then gh h b else gh h a) else gh h p:=λ{p} h0 h1=>ADR h0 (by lia)
 have mn:∃m,(if gh h b<gh h a then gh h b else gh h a)=m/\(m=gh h a\/m=gh h b)/\m<=gh h a/\m<=gh h b:=by
  refine⟨_,rfl,?_⟩;split
  .exact⟨.inr rfl,by lia,HP _⟩
  .exact⟨.inl rfl,HP _,by lia⟩
 obtain⟨m,em,mm,m1,m2⟩:=mn;rw[em] at G;refine⟨by unfold asOne;rw[AB];exact hl,λp p0 p1=>?_,λp p0 p1=>?_,λe he x hx y hy=>?_,λS cl p q p0 p1 q0 q1 e hp=>?_⟩
 .have lp:=H.le p p0 p1
  rw[G p0 p1];split
  .rename_i c
   rcases c with c| c<;>rcases mm with z| z<;>lia
  .exact lp
 .have lp:=H.le p p0 p1
  have ip:=H.idem p p0 p1;rw[G p0 p1];split
  .-- m is ag own head
   have m0:0<=m/\m<n:=by rcases mm with z| z<;>lia
   rw[G m0.1 m0.2];have gm:gh h m=m:=by
    rcases mm with z| z
    .rw[z];exact ia
    .rw[z];exact ib
   rw[gm];rw[uD mm]
  .rename_i c
   rw[G lp.1 (by lia),ip,uC c]
 .rcases Co.mp he with he| he
  .have hxr:=e9 e he x hx
   have hyr:=e9 e he y hy;rw[G hxr.1 hxr.2,G hyr.1 hyr.2,H.edge e he x hx y hy]
  .have:e=[a,b]:=by simpa using he
   subst this;have ga:gh (asOne h (gh h a) (gh h b)) a=m:=by rw[G a0 a1,uD (.inl rfl)]
   have gb:gh (asOne h (gh h a) (gh h b)) b=m:=by rw[G b0 b1,uD (.inr rfl)]
   have sG:∀z∈[a,b],gh (asOne h (gh h a) (gh h b)) z=m:=λz hz=>by
    rcases AW.mp hz with hz| hz
    .rw[hz];exact ga
    .have sR:z=b:=by simpa using hz
     rw[sR];exact gb
   rw[sG x hx,sG y hy]
 .have tN:Cl S es:=λe he=>cl e (Ev _ he)
  have ab:=cl [a,b] (by simp) a (by simp) b (by simp);have ba:=cl [a,b] (by simp) b (by simp) a (by simp);rw[G p0 p1,G q0 q1] at e;by_cases cp:gh h p=gh h a\/gh h p=gh h b
  .have sab:S a/\S b:=by
    rcases cp with z| z
    .have sa:=H.reach S tN p a p0 p1 a0 a1 z hp
     exact⟨sa,ab sa⟩
    .have sb:=H.reach S tN p b p0 p1 b0 b1 z hp
     exact⟨ba sb,sb⟩
   by_cases cq:gh h q=gh h a\/gh h q=gh h b
   .rcases cq with z| z
    .exact H.reach S tN a q a0 a1 q0 q1 z.symm sab.1
    .exact H.reach S tN b q b0 b1 q0 q1 z.symm sab.2
   .rw[uD cp,uC cq] at e
    exact uH (by rw[<- e];exact mm) cq
  .by_cases cq:gh h q=gh h a\/gh h q=gh h b
   .rw[uC cp,uD cq] at e
    exact uH (by rw[e];exact mm) cp
   .rw[uC cp,uC cq] at e
    exact H.reach S tN p q p0 p1 q0 q1 e hp
def Wx{l:uI}(f:Int->Bool)(h:l.Pairwise (· < ·)):(l.filter f).Pairwise (· < ·):=h.sublist Sa
def AAk(n:Nat):(below n).Pairwise (· < ·):=by
 unfold below;rw[C0];exact J4.imp λh=>uz h
def ZW{x:Int}:x∈below n↔0<=x/\x<n:=by
 unfold below;rw[A7];constructor
 .rintro⟨i,hi,rfl⟩
  have:=AZ.mp hi;exact xW this
 .rintro⟨h0,h1⟩
  exact⟨x.toNat,AZ.mpr (vf h0 h1),wg h0⟩
def AEO(n:Nat)(f:Int->Bool):upTo n f=(below n).filter f:=rfl
def mem_upTo{f:Int->Bool}{x:Int}:x∈upTo n f↔(0<=x/\x<n)/\f x=true:=by
 rw[AEO,BO,ZW]
def ABX(n:Nat)(f:Int->Bool):(upTo n f).Pairwise (· < ·):=Wx f (AAk n)
def under(n:Nat)(h:uI)(x:Int):uI:=upTo n λp=>decide (gh h p=x)
noncomputable def Bx(n:Nat)(h:uI):Nat->uJ
 | 0=>[]
 | i+1=>Bx n h i++(if gh h (i:Int)=(i:Int) then [under n h (i:Int)] else [])
noncomputable def sel(as:uJ)(ms:uI):Nat->uJ
 | 0=>[]
 | i+1=>sel as ms i++(if(i:Int)∈ms then [as.getD i []] else [])
set_option tactic.hygienic true in
theorem Gk{as:uJ}{ms:uI}{e:uI}:∀{n:Nat},e∈sel as ms n↔∃i:Nat,i<n/\(i:Int)∈ms/\e=as.getD i []
 | 0=>by simp[sel]
 | n+1=>by
  have ih:=@Gk as ms e n;show e∈sel as ms n++_↔_;rw[Co,ih];constructor
  .rintro(⟨i,h1,h2,h3⟩| h)
   .exact⟨i,uW h1,h2,h3⟩
   .split at h
    .rename_i c
     exact⟨n,vq,c,by simpa using h⟩
    .cases h
  .rintro⟨i,h1,h2,h3⟩
   by_cases c:i<n
   .exact .inl ⟨i,c,h2,h3⟩
   .have:i=n:=wC h1 c
    subst this;right;rw[uD h2,h3];simp
end L2
namespace L2
open PySem PySem.Spec PyProof.Rows
theorem Kg:∀{xs:List V}{us:List AA},xs.length=us.length->(∀(i:Nat) (x:V) (u:AA),xs[i]?=uA x->us[i]?=uA u->RelV x u)->Vals xs us
 | [],[],_,_=>.nil
 | [],_::_,h,_=>by simp at h
 | _::_,[],h,_=>by simp at h
 | x::xs,u::us,h,f=>.cons (f 0 x u rfl rfl) (Kg (by simpa using h) λi y v h1 h2=>f (i+1) y v (by simpa using h1) (by simpa using h2))
def Fb:CallR X (.type "range") (λxs H Q=>∃j,xs=[.int j]/\∀r,H r=none->Q (.ref r) (upd H r (.rng 0 j))):=by
 intro aa s σ H xs us Q I r h;obtain⟨j,rfl,q⟩:=h;obtain⟨u,rfl,t,rfl⟩:=r.one;refine call_range_1 ?_;have hn:=I.hok.fresh (AF _);exact⟨.ref s.heap.objs.size,_,I.laid (a:=s.heap.objs.size) (o:=.rng 0 j) (λb u e=>AL _ e) (AF _) ⟨_,_,_,A2 _ rfl⟩,rfl,q _ hn⟩
def Nq(hc:X.calm=true):CallR X (.type "list") (λxs H Q=>∃r j,xs=[.ref r]/\H r=uA (.rng 0 j)/\0<=j/\j<=1000/\∀l,H l=none->Q (.ref l) (upd H l (.lst ((below j.toNat).map V.int)))):=by
 intro aa s σ H xs us Q I rr h;obtain⟨r,j,rfl,hr,j0,j1,q⟩:=h;obtain⟨u,rfl,ru⟩:=rr.one;cases ru;obtain⟨t1,t2,t3,e⟩:=I.hok r _ hr;have hn:=I.hok.fresh (AF _);refine call_list_range (n:=j.toNat) (I.ok.hd hc) e (V7 (by lia) (by lia) (by lia) (by lia)) (by rw[RI];split<;>lia) (by lia) λh' tk ay c' hk dC aE=>?_;refine⟨.ref s.heap.objs.size,_,I.laid (a:=s.heap.objs.size) (o:=.lst ((below j.toNat).map V.int)) hk (AF _) ⟨?_,ay.toList,c',?_,by simpa using dC⟩,rfl,q _ hn⟩
 .rw[AB,AB,Cf]
  exact small (wR j1)
 .refine Kg (by simp[aE.1]) λi x u h1 h2=>?_
  have h7:ay[i]?=uA u:=by simpa using h2
  obtain⟨t,rfl⟩:=aE.2 i u h7;have hi:i<j.toNat:=by
   have:=(C8.mp h7).1;rw[aE.1] at this;exact this
  rw[AU,AU,E7 hi] at h1;have ex:=(AO h1).symm;subst ex;exact⟨t,by rw[TH,Sk]⟩
def rEqT(K:As){α:Type}[DecidableEq α](R:Rep α):R2:=λx y H Q=>∃as bs,rTup K R H as x/\rTup K R H bs y/\Q (.bl (decide (as=bs))) H
def Vi[DecidableEq α]{R:Rep α}(D:Dat X n R)(hu:X.A.units+(n+1)<C2):OpR X (D8 .Eq) (rEqT X.K R):=by
 intro aa s σ H x y v u Q I rx ry h;obtain⟨as,bs,⟨p,xs,rfl,hp,pa⟩,⟨q,ys,rfl,hq,pb⟩,h⟩:=h;cases rx;cases ry;obtain⟨ag,ra,ta,_⟩:=I.tuple hp;obtain⟨ik,rb,tb,_⟩:=I.tuple hq;have l1:as.length=ag.toArray.size:=by rw[AV,<- ra.length];exact AY pa
 have l2:bs.length=ik.toArray.size:=by rw[AV,<- rb.length];exact AY pb
 refine SeqAt.eq_tupleAt (e:=λj=>decide (as[j]?=bs[j]?)) ta tb (uR hu) (D.place (A:=X.A.in1) I (by show X.A.units+1+n<C2;exact vt hu) pa pb ra rb) ?_;rw[Ip l1 l2];exact⟨.bl _,H,I,rfl,h⟩
section
variable{st:Stmt}{t u:TS}
def AIC(t u:TS):TS:=λD σ H=>∃M:St->Hp->Prop,t {D with nx:=M} σ H/\∀σ' H',M σ' H'->u D σ' H'
def JF(h1:PS X st t)(h2:PSs X ar u):PSs X (st::ar) (AIC t u):=by
 intro aa s σ H D I h;obtain⟨M,ha,hb⟩:=h;refine OW (thn (h1 aa s σ H {D with nx:=M} I ha) λf s1 q=>?_);cases f with
 | next =>
  obtain⟨σ',H',I',q⟩:=q;exact h2 aa s1 σ' H' D I' (hb _ _ q)
 | ret v=>exact q
 | brk=>exact q
 | cont=>exact q
end
end L2
namespace L2
open PySem PySem.Spec PyProof.Rows PySem.W
def Vals.app(h:Vals xs us)(k:Vals ys vs):Vals (xs++ys) (us++vs):=by
 induction h with
 | nil=>exact k
 | cons r t ih=>exact .cons r ih
def rAddL(K:As):R2:=λx y H Q=>∃a b xs ys,x=.ref a/\y=.ref b/\SqL K H a xs/\SqL K H b ys/\xs.length+ys.length<=sizeLine/\∀p,H p=none->Q (.ref p) (upd H p (.lst (xs++ys)))
def RW:OpR X (HK .Add) (rAddL X.K):=by
 intro aa s σ H x y v u Q I rx ry h;obtain⟨a,b,xs,ys,rfl,rfl,ha,hb,hz,q⟩:=h;cases rx;cases ry;obtain⟨vs,r1,p1,_⟩:=I.list ha;obtain⟨ws,r2,p2,_⟩:=I.list hb;have hl:=p1.isList;have k8:=p2.isList;obtain⟨⟨cls,dd,data,sl⟩,ho,hc,n,hd⟩:=id hl;obtain⟨⟨l7,h9,W4,iq⟩,fe,ft,n2,dP⟩:=id k8;simp only at hc hd ft dP;subst hc hd ft dP;have e:vs.toArray++ws.toArray=(vs++ws).toArray:=by simp
 have l1:=r1.length;have l2:=r2.length;refine OY ⟨_,ho,rfl⟩ ⟨_,fe,rfl⟩ noFill_list_add seq_list_add PySem.F.slot_list_add PySem.F.entry_list_add (PySem.F.args_list_add_2 _ _) (list_addW a b vs.toArray ws.toArray n n2 dd h9 sl iq (by rw[AV,AV];exact xE hz l1 l2)) ⟨ho,fe,?_⟩;rw[e];refine⟨.ref s.heap.objs.size,_,I.laid (t':=s.toks) (o:=.lst (xs++ys)) (λb ob q=>AL _ q) (AF _) ?_,rfl,q _ (I.hok.fresh (AF _))⟩;exact⟨by rw[BF];exact hz,_,0,Vals.app r1 r2,A2 _ rfl⟩
structure Own(K:Frag)(C:Addr):Prop where
 ha:findIn K (.ref C) "__class__" = uA (uA (.builtin "object.__class__"))
 hn:specialIn K (.builtin "object.__class__") "__get__" = uA (uA (.builtin "getset_descriptor.__get__"))
 tk:takesIn K (.builtin "object.__class__")=uA true
 hm:mroIn K C (.type "object")=uA true
 is:kitOne K (.ref C) (.ref C)=uA true
end L2
namespace L2
open PySem PySem.Spec PyProof.Rows
open PySem.W
section
variable{p:Pos}
def ABO(c:Cls X.K C)(O:Own X.K C)(is:kitOne X.K (.ref C) (.ref R)=uA true):CallR X (.builtin "isinstance") (λxs H Q=>∃p dx fs,xs=[.ref p,.ref R]/\H p=uA (.ins C dx fs)/\Q (.bl true) H):=by
 intro aa s σ H xs us Q I r h;obtain⟨p,dx,fs,rfl,hq,q⟩:=h;obtain⟨u,v,rfl,ru,rv⟩:=r.two;cases ru;cases rv;obtain⟨mA,M,_,_,_,_⟩:=Kq I.hok hq;obtain⟨od,J,_⟩:=M.look;have nl:(A9 p)≠.builtin "__main__.__loader__#opaque":=by intro z;cases z
 exact kia_one (kitx_own (c.get "__class__") c.hd O.ha O.hn O.tk O.hm) I.kIn J is nl λtk=>⟨.bl true,H,I.tok _,rfl,q⟩
end
end L2
namespace L2
open PySem PySem.Spec PyProof.Rows
section
variable{κ:Type}[DecidableEq κ]
noncomputable def valV(af:List (κ×V))(k:κ):Option V:=(af.find? λkv=>decide (kv.1=k)).map (·.2)
noncomputable def putK(af:List (κ×V))(k:κ)(v:V):List (κ×V) :=
 if(af.any λkv=>decide (kv.1=k))=true then af.map (λkv=>if kv.1=k then(kv.1,v) else kv) else af++[(k,v)]
def Ca{p:κ×V}{r:List (κ×V)}{k:κ}(e:p.1=k):valV (p::r) k=uA p.2:=by simp[valV,Go,e]
def CW{p:κ×V}{r:List (κ×V)}{k:κ}(e:¬ p.1=k):valV (p::r) k=valV r k:=by simp[valV,Go,e]
theorem Hr(k:κ):∀af:List (κ×V),(af.any λkv=>decide (kv.1=k))=(valV af k).isSome
 | []=>rfl
 | p::r=>by
  rw[JI];by_cases e:p.1=k
  .simp only[Ca e,uE e,Bool.true_or,Option.isSome_some]
  .rw[CW e,uF e,WF];exact Hr k r
theorem Um(k j:κ)(y:V):∀af:List (κ×V),valV (af.map λkv=>if kv.1=k then(kv.1,y) else kv) j=(valV af j).map λx=>if j=k then y else x
 | []=>rfl
 | p::r=>by
  have ih:=Um k j y r;rw[B8];by_cases h:p.1=k
  .rw[uD h]
   by_cases e:p.1=j
   .rw[Ca (p:=(p.1,y)) e,Ca e,M4,uD (e.symm.trans h)]
   .rw[CW (p:=(p.1,y)) e,CW e,ih]
  .rw[uC h]
   by_cases e:p.1=j
   .rw[Ca (p:=p) e,Ca e,M4,uC (λz=>h (e.trans z))]
   .rw[CW (p:=p) e,CW e,ih]
theorem Pz(k j:κ)(y:V):∀af:List (κ×V),valV af k=none->valV (af++[(k,y)]) j=if j=k then uA y else valV af j
 | [],_=>by
  by_cases e:k=j
  .rw[uD e.symm];exact Ca (p:=(k,y)) e
  .rw[uC (λz=>e z.symm)];exact CW (p:=(k,y)) e
 | p::r,hn=>by
  rw[O3];have hk:¬ p.1=k:=λz=>by rw[Ca z] at hn;cases hn
  rw[CW hk] at hn;have ih:=Pz k j y r hn;by_cases e:p.1=j
  .rw[Ca e,Ca e,uC (λz=>hk (e.trans z))]
  .rw[CW e,CW e,ih]
def FT(af:List (κ×V))(k j:κ)(y:V):valV (putK af k y) j=if j=k then uA y else valV af j:=by
 unfold putK;by_cases a:(af.any λkv=>decide (kv.1=k))=true
 .rw[uD a,Um]
  rw[Hr] at a;by_cases e:j=k
  .obtain⟨x,hx⟩:=F8.mp a
   rw[uD e,e,hx,M4,uD rfl]
  .rw[uC e]
   cases valV af j with
   | none=>rfl
   | some x=>rw[M4,uC e]
 .rw[uC a]
  refine Pz k j y af ?_;rw[Hr] at a;cases q:valV af k with
  | none=>rfl
  | some x=>rw[q] at a;exact(a rfl).elim
def Ce(af:List (κ×V))(k:κ)(v:V):(putK af k v).length<=af.length+1:=by
 unfold putK;split
 .rw[AB];exact uO
 .rw[BF,DS,JS];lia
def JC{af:List (κ×V)}{k:κ}(v:V)(h:valV af k=uB):putK af k v=af++[(k,v)]:=by
 unfold putK;rw[Hr,h];exact uC (by decide)
def RelO.isSome_eq{o:Option V}{u:Option AA}(r:RelO o u):o.isSome=u.isSome:=by
 cases o with
 | none=>cases u with
  | none=>rfl
  | some _=>exact r.elim
 | some _=>cases u with
  | none=>exact r.elim
  | some _=>rfl
def RelO.getD{o:Option V}{u:Option AA}{d:V}{d':AA}(r:RelO o u)(rd:RelV d d'):RelV (o.getD d) (u.getD d'):=by
 cases o with
 | none=>cases u with
  | none=>exact rd
  | some _=>exact r.elim
 | some _=>cases u with
  | none=>exact r.elim
  | some _=>exact r
def KV.val{af:List (κ×V)}{vs:List (κ×AA)}(r:KV af vs)(k:κ):RelO (valV af k) (OU vs k):=by
 unfold KV at r
 induction r with
 | nil=>exact IC
 | @cons p q ps qs h t ih =>
  obtain⟨h1,h2⟩:=h;by_cases e:p.1=k
  .have e':=h1.symm.trans e
   have b:OU (q::qs) k=uA q.2:=by simp[OU,Go,e']
   rw[Ca e,b];exact h2
  .have e':¬ q.1=k:=λz=>e (h1.trans z)
   have b:OU (q::qs) k=OU qs k:=by simp[OU,Go,e']
   rw[CW e,b];exact ih
def KV.any{af:List (κ×V)}{vs:List (κ×AA)}(r:KV af vs)(k:κ):(af.any λkv=>decide (kv.1=k))=vs.any λkv=>decide (kv.1=k):=by
 unfold KV at r
 induction r with
 | nil=>rfl
 | cons h t ih=>rw[JI,JI,ih,h.1]
def KV.repl{af:List (κ×V)}{vs:List (κ×AA)}(r:KV af vs)(k:κ)(ry:RelV y u) :
  KV (af.map λkv=>if kv.1=k then(kv.1,y) else kv) (vs.map λkv=>if kv.1=k then(kv.1,u) else kv):=by
 unfold KV at r ⊢
 induction r with
 | nil=>exact .nil
 | @cons p q ps qs h t ih =>
  rw[B8,B8];refine .cons ?_ ih;obtain⟨h1,h2⟩:=h;by_cases e:p.1=k
  .rw[uD e,uD (h1.symm.trans e)];exact⟨h1,ry⟩
  .rw[uC e,uC (λz=>e (h1.trans z))];exact⟨h1,h2⟩
def KV.put{af:List (κ×V)}{vs:List (κ×AA)}(r:KV af vs)(k:κ)(ry:RelV y u):KV (putK af k y) (stored vs k u):=by
 unfold putK stored;rw[r.any k];by_cases e:(vs.any λkv=>decide (kv.1=k))=true
 .rw[uD e,uD e];exact r.repl k ry
 .rw[uC e,uC e];exact TN r ⟨rfl,ry⟩
def KV.length{af:List (κ×V)}{vs:List (κ×AA)}(r:KV af vs):af.length=vs.length:=AY r
end
def QD{k:Key}(r:RelV (kV k) u):(CP P w).is k u=true:=by
 cases k with
 | inl i=>obtain⟨t,e⟩:=r;subst e;exact Ry P w i t
 | inr x=>obtain⟨t,e⟩:=r;subst e;exact Ue P w x t
theorem OD{P:AM}{w:AS}:∀{ks:List Key}{us:List AA},Vals (ks.map kV) us->ItemsAre (CP P w) ks us
 | [],_,r=>by rw[Lv] at r;cases r;exact .nil
 | k::ks,_,r=>by
  rw[B8] at r;cases r with
  | cons h t=>exact .cons (QD h) (OD t)
abbrev KT(H:Hp):List (List Key×V)->List (List Key×Addr×AA)->Prop:=BN λp q=>p.1=q.1/\H q.2.1=uA (.tup (p.1.map kV))/\RelV p.2 q.2.2
def KT.val{xs:List (List Key×Addr×AA)}(r:KT H af xs)(k:List Key):RelO (valV af k) ((JY xs k).map (·.2)):=by
 induction r with
 | nil=>exact IC
 | @cons p q ps qs h t ih =>
  obtain⟨h1,_,h2⟩:=h;by_cases e:p.1=k
  .have e':=h1.symm.trans e
   have b:JY (q::qs) k=uA q.2:=by simp[JY,Go,e']
   rw[Ca e,b];exact h2
  .have e':¬ q.1=k:=λz=>e (h1.trans z)
   have b:JY (q::qs) k=JY qs k:=by simp[JY,Go,e']
   rw[CW e,b];exact ih
def KT.repl{xs:List (List Key×Addr×AA)}(r:KT H af xs)(k:List Key)(ry:RelV y u) :
  KT H (af.map λkv=>if kv.1=k then(kv.1,y) else kv) (xs.map (putAt k u)):=by
 induction r with
 | nil=>exact .nil
 | @cons p q ps qs h t ih =>
  rw[B8,B8];refine .cons ?_ ih;obtain⟨h1,h2,h3⟩:=h;unfold putAt;by_cases e:p.1=k
  .rw[uD e,uD (h1.symm.trans e)];exact⟨h1,h2,ry⟩
  .rw[uC e,uC (λz=>e (h1.trans z))];exact⟨h1,h2,h3⟩
def KT.put{xs:List (List Key×Addr×AA)}(r:KT H af xs)(k:List Key)(hb:H b=uA (.tup (k.map kV)))(ry:RelV y u) :
  KT H (putK af k y) (S8 xs k b u):=by
 have e:(af.any λkv=>decide (kv.1=k))=(JY xs k).isSome:=by
  rw[Hr,(r.val k).isSome_eq,L3]
 unfold putK S8;rw[e];by_cases q:(JY xs k).isSome=true
 .rw[uD q,uD q];exact r.repl k ry
 .rw[uC q,uC q];exact TN r ⟨rfl,hb,ry⟩
def KT.keeps{xs:List (List Key×Addr×AA)}(r:KT H af xs)(ht:∀b ys,H b=uA (.tup ys)->H' b=uA (.tup ys)):KT H' af xs :=
 uZ r λ_ _ z=>⟨z.1,ht _ _ z.2.1,z.2.2⟩
def AFv{u:HO}(ok:HOk P w H h)(e:Rd H a u):ObjOk P w H h a u:=e.ok ok
def Nv{af:List (Key×V)}(ok:HOk P w H h)(e:Rd H a (.dK af)):af.length<=sizeLine/\(a==Eg)=false/\∃vs,KV af vs/\h.DictOf (CP P w) a vs :=
 show ObjOk P w H h a (.dK af) from AFv ok e
def AFm{af:List (Key×V)}(ok:HOk P w H h)(e:H a=uA (.dK af)):af.length<=sizeLine/\(a==Eg)=false/\∃vs,KV af vs/\h.DictOf (CP P w) a vs:=Nv ok (.inl e)
def Mq{ks:List Key}(ok:HOk P w H h)(e:H a=uA (.tup (ks.map kV))):(NS (CP P w)).is h ks a:=by
 obtain⟨_,ag,r,o,h1,h2,n,h3⟩:=(ok a _ e);exact⟨o,ag.toArray,n,h1,h2,h3,by simpa using OD r⟩
def Ny(ok:HOk P w H h)(e:Rd H a (.dT af)):af.length<=sizeLine/\(a==Eg)=false /\
  ∃xs,KT H af xs/\h.DictOfH (NS (CP P w)) a xs:=by
 obtain⟨z,y,xs,r,o,es,ep,h1,h2,h3,h4,h5⟩:=(AFv ok e);refine⟨z,y,xs,r,o,es,ep,h1,h2,h3,h4,λx hx=>?_,h5⟩;have all:∀{l:List (List Key×V)}{m:List (List Key×Addr×AA)},KT H l m->∀x∈m,(NS (CP P w)).is h x.1 x.2.1:=by
  intro l m q
  induction q with
  | nil=>intro x hx;exact nomatch hx
  | @cons p q ps qs hq t ih =>
   intro x hx;rcases AW.mp hx with e| hx
   .subst e
    exact Mq ok (by rw[<- hq.1];exact hq.2.1)
   .exact ih x hx
 exact all r x hx
def AHd(ok:HOk P w H h)(e:H a=uA (.dT af)):af.length<=sizeLine/\(a==Eg)=false /\
  ∃xs,KT H af xs/\h.DictOfH (NS (CP P w)) a xs:=Ny ok (.inl e)
def DGet(H:Hp)(a:Addr)(y:V)(r:Option V):Prop :=
 (∃af k,Rd H a (.dK af)/\y=kV k/\r=valV af k)\/∃af k b,Rd H a (.dT af)/\y=.ref b/\H b=uA (.tup (k.map kV))/\r=valV af k
def DPut(H:Hp)(a:Addr)(y v:V)(H':Hp):Prop :=
 (∃af k,H a=uA (.dK af)/\y=kV k/\af.length<sizeLine/\H'=upd H a (.dK (putK af k v))) \/
 ∃af k b,H a=uA (.dT af)/\y=.ref b/\H b=uA (.tup (k.map kV))/\af.length<sizeLine/\H'=upd H a (.dT (putK af k v))
def DGet.k{H:Hp}{a:Addr}{af:List (Key×V)}{k:Key}(e:H a=uA (.dK af)):DGet H a (kV k) (valV af k):=.inl ⟨af,k,.inl e,rfl,rfl⟩
def uh{k:List Key}(e:H a=uA (.dT af))(eb:H b=uA (.tup (k.map kV))):DGet H a (.ref b) (valV af k):=.inr ⟨af,k,b,.inl e,rfl,eb,rfl⟩
section
variable{r:AA}{o:Option V}
def Inv.big(I:Inv X aa σ H s):Eg<s.heap.objs.size:=by
 have h:=(I.mod.glob.keeps I.bk).lt;exact W6 (by decide) h
def AAZ(hu:A.units+1<C2)(I:Inv X aa σ H s)(g:DGet H a y (uA v))(ry:RelV y u)(h:∀w' s',Inv X aa σ H s'->RelV v w'->Q w' s') :
  wpAny (AN X.prog X.w) A (OS (.ref a) u) Q E s:=by
 rcases g with⟨af,k,e,ey,l⟩| ⟨af,k,b,e,ey,eb,l⟩
 .subst ey
  obtain⟨z,hd,vs,b4,dd⟩:=Nv I.hok e;obtain⟨w',hw,eK⟩:=ue (v:=v) (o:=OU vs k) (by rw[l];exact b4.val k);exact wpAny_getItem_of (QD ry) dd.mapOf hw (h w' _ (I.tok _) eK)
 .subst ey
  cases ry;obtain⟨z,hd,xs,b4,dd⟩:=Ny I.hok e;obtain⟨w',hw,eK⟩:=ue (v:=v) (o:=(JY xs k).map (·.2)) (by rw[l];exact b4.val k);obtain⟨p,hp,kA⟩:=J5.mp hw;refine SK (LF hu) (Mq I.hok eb) dd hp ?_;rw[kA];exact h w' _ (I.tok _) eK
def AII(hu:A.units+1<C2)(I:Inv X aa σ H s)(g:DGet H a y o)(ry:RelV y u)(h:∀s',Inv X aa σ H s'->Q (.bool o.isSome) s') :
  wpAny (AN X.prog X.w) A (D8 .In u (.ref a)) Q E s:=by
 rcases g with⟨af,k,e,ey,l⟩| ⟨af,k,b,e,ey,eb,l⟩
 .subst ey
  obtain⟨z,hd,vs,b4,dd⟩:=Nv I.hok e;refine wpAny_in_of (QD ry) hd dd.mapOf ?_;rw[<- (b4.val k).isSome_eq,<- l];exact h _ (I.tok _)
 .subst ey
  cases ry;obtain⟨z,hd,xs,b4,dd⟩:=Ny I.hok e;refine wpAny_in_heap (LF hu) (Mq I.hok eb) hd dd ?_;have q:=(b4.val k).isSome_eq;rw[L3] at q;rw[<- q,<- l];exact h _ (I.tok _)
def Kv{ob:HO}(I:Inv X aa σ H s)(mu:Mut (H a))(hs:EX a s.heap h')(he:∃q,h'.get? a=uA q)(new:ObjOk X.prog X.w (upd H a ob) h' a ob) :
  Inv X aa σ (upd H a ob) {s with heap:=h',toks:=t'} :=
 I.write (x:=a) (e:=a) mu (.inl rfl) (λb q hb z=>(hs.2 b hb).trans z) he new
def ADZ{af:List (Key×V)}{vs:List (Key×AA)}(z:af.length<=sizeLine)(hd:(a==Eg)=false)(b4:KV af vs)(dd:h'.DictOf (CP P w) a vs) :
  ObjOk P w H' h' a (.dK af):=⟨z,hd,vs,b4,dd⟩
def AAR{Q:Unit->AC->Prop}(hu:A.units+1<C2)(I:Inv X aa σ H s)(g:DPut H a y v H')(ry:RelV y u)(rv:RelV v r)(h:∀s',Inv X aa σ H' s'->Q () s') :
  wpAny (AN X.prog X.w) A (VS (.ref a) u r) Q E s:=by
 rcases g with⟨af,k,e,ey,l,eH⟩| ⟨af,k,b,e,ey,eb,l,eH⟩
 .subst ey eH
  obtain⟨z,hd,vs,b4,dd⟩:=AFm I.hok e;have hz:vs.length<=sizeLine:=by rw[<- b4.length];exact z
  have hl:(putK af k v).length<=sizeLine:=by have:=Ce af k v;exact wS this l
  refine wpAny_setItem_pairs (hsz:=hz) (QD ry) dd λh' kQ hs=>h _ ?_;have he:∃q,h'.get? a=uA q:=by obtain⟨q,_,_,hq,_⟩:=kQ;exact⟨q,hq⟩
  exact Kv I (by rw[e];exact IC) hs he (ADZ hl hd (b4.put k rv) kQ)
 .subst ey eH
  cases ry;obtain⟨z,hd,xs,b4,dd⟩:=AHd I.hok e;have hz:xs.length<=sizeLine:=by rw[<- AY b4];exact z
  have hl:(putK af k v).length<=sizeLine:=by have:=Ce af k v;exact wS this l
  refine SL (hsz:=hz) (LF hu) (Mq I.hok eb) dd λh' kQ hs=>h _ ?_;obtain⟨q,es,ep,hq,h2,h3,h4,_,h5⟩:=kQ;refine Kv I (by rw[e];exact IC) hs ⟨q,hq⟩ ⟨hl,hd,_,(b4.put k eb rv).keeps λc ys ec=>?_,q,es,ep,hq,h2,h3,h4,h5⟩;rw[Ah (DP ec e (λz=>nomatch z))];exact ec
end
def NoSl(i:Expr):Prop:=∀ov iv,P6 i false ov iv=operate [ov,iv] (OS ov iv)
def YL{env:Env}{bm:Expr}{id:String}
  (hl:typeLookup (.type T) "__getitem__" = pure (uA (.builtin id))) (hs:NoSl bm)
  (h:wpAny (AN prog w) A (eval a5 env) (λo s₁=>wpAny (AN prog w) A (eval bm env) (λi s₂=>s₂.TypeIs o T/\wpAny (AN prog w) A (OS o i) Q E s₂) E s₁) E s) :
  wpAny (AN prog w) A (eval (.Subscript a5 bm pos) env) Q E s:=by
 refine UV (EI h (λo s₁ h₁=>EI h₁ (λi s₂ h₂=>?_) λ_ _ x=>x) λ_ _ x=>x);obtain⟨hT,h₂⟩:=h₂;unfold subscriptTail;refine Au ?_;rw[getitemInPython_of_ne hT.not_modules];refine Au (Ic hT hl ?_);have fin:wpAny (AN prog w) A (P6 bm false o i) (λr s₃=>wpAny (AN prog w) A (letTemporaryGo a5 o r >>= λ_=>pure r) Q E s₃) E s₂:=by
  rw[hs o i];exact wpAny_operating (EI h₂ (λr s₃ h₃=>Au (wpAny_letTemporaryGo (AE h₃))) λ_ _ x=>x)
 first
  | exact AE (Au fin)
  | exact Au (AE (Au fin))
  | exact Au fin
def Ru{o:Option V}(I:Inv X aa σ H s)(g:DGet H a y o):s.TypeIs (.ref a) "dict":=by
 rcases g with⟨af,k,e,_,_⟩| ⟨af,k,b,e,_,_,_⟩
 .obtain⟨_,_,vs,_,dd⟩:=Nv I.hok e
  exact dd.typeIs
 .obtain⟨_,_,xs,_,dd⟩:=Ny I.hok e
  exact dd.typeIs
def AHt(td ty:TE):TE:=λσ H Q=>td σ H λx H1=>ty σ H1 λy H2=>∃a v,x=.ref a/\DGet H2 a y (uA v)/\Q v H2
def AIU(ty td:TE):TE:=λσ H Q=>ty σ H λy H1=>td σ H1 λx H2=>∃a o,x=.ref a/\DGet H2 a y o/\Q (.bl o.isSome) H2
def AHS(td ty tv:TE):TS:=λD σ H=>tv σ H λv H1=>td σ H1 λx H2=>ty σ H2 λy H3=>∃a H4,x=.ref a/\DPut H3 a y v H4/\D.nx σ H4
section
variable{o i:Expr}{ty:TE}
def Qe(hu:X.A.units+1<C2)(ho:PE X o td)(hi:PE X i ty)(hs:NoSl i):PE X (.Subscript o i pos) (AHt td ty):=by
 intro aa s σ H Q I h;refine YL OM.lookup hs (thn (ho aa s σ H _ I h) λu s1 ⟨x,H1,I1,rx,q1⟩=>thn (hi aa s1 σ H1 _ I1 q1) λiv s2 hq=>?_);obtain⟨y,H2,I2,ry,a,v,ex,g,q2⟩:=hq;subst ex;obtain rfl:u=A9 a:=rx;exact⟨Ru I2 g,AAZ hu I2 g ry λw' s3 I3 eK=>⟨v,H2,I3,eK,q2⟩⟩
def ACN(hu:X.A.units+1<C2)(hi:PE X i ty)(ho:PE X o td):PC X .In i o (AIU ty td):=by
 intro aa s σ H Q I h;refine thn (hi aa s σ H _ I h) λiv s1 ⟨y,H1,I1,ry,q1⟩=>thn (ho aa s1 σ H1 _ I1 q1) λu s2 hq=>?_;obtain⟨x,H2,I2,rx,a,ov,ex,g,q2⟩:=hq;subst ex;obtain rfl:u=A9 a:=rx;exact AII hu I2 g ry λs3 I3=>⟨.bl ov.isSome,H2,I3,rfl,q2⟩
def Kh(hu:X.A.units+1<C2)(ho:PE X o td)(hi:PE X i ty)(hv:PE X a5 tv)(hs:MD a5 (uA (.Subscript o i bh)) pos.line X.env=pure false) :
  PS X (.Assign [.Subscript o i bh] a5 pos) (AHS td ty tv):=by
 intro aa s σ H D I h;refine P9 (thn (hv aa s σ H _ I h) λr s1 ⟨v,H1,I1,rv,q1⟩=>thn (ho aa s1 σ H1 _ I1 q1) λu s2 ⟨x,H2,I2,rx,q2⟩=>thn (hi aa s2 σ H2 _ I2 q2) λiv s3 hq=>?_) hs;obtain⟨y,H3,I3,ry,a,H4,ex,g,q3⟩:=hq;subst ex;obtain rfl:u=A9 a:=rx;exact AAR hu I3 g ry rv λs4 I4=>⟨σ,H4,I4,q3⟩
end
def ABc(h:Heap)(hb:Eg<h.objs.size):ObjOk P w H (h.push {cls:=.type "dict",data:=.dict #[]}) h.objs.size (.dK []) :=
 ⟨By _,beq_eq_false_iff_ne.mpr (Bi (BY hb)),[],.nil,ZE h⟩
def ABt(h:Heap)(hb:Eg<h.objs.size):ObjOk P w H (h.push {cls:=.type "dict",data:=.dict #[]}) h.objs.size (.dT []) :=
 ⟨By _,beq_eq_false_iff_ne.mpr (Bi (BY hb)),[],.nil,_,#[],0,A2 _ rfl,⟨rfl,rfl,rfl⟩,rfl,rfl,LM⟩
def AGN:TE:=λ_ H Q=>∀p,H p=none->Q (.ref p) (upd H p (.dT []))
def ABm:PE X (.Dict [] [] pos) AGN:=λaa s σ H Q I h =>
 wpAny_Dict_empty ⟨.ref s.heap.objs.size,_,I.laid (a:=s.heap.objs.size) (o:=.dT []) (t':=s.toks) (λ_ _ q=>AL _ q) (AF _) (ABt s.heap I.big),rfl,h _ (I.hok.fresh (AF _))⟩
def Xd:List (TE×TE)->St->Hp->(List (V×V)->Hp->Prop)->Prop
 | [],_,H,Q=>Q [] H
 | (tk,tv)::r,σ,H,Q=>tk σ H λx H1=>tv σ H1 λy H2=>Xd r σ H2 λps H3=>Q ((x,y)::ps) H3
abbrev VV:List (V×V)->List (AA×AA)->Prop:=BN λp q=>RelV p.1 q.1/\RelV p.2 q.2
def PPs(X:Cx)(pos:Pos)(keys:List (Option Expr))(cE:uV)(l6:List (TE×TE)):Prop :=
 ∀(aa:uQ) (s:AC) (σ:St) (H:Hp) (Q:List (V×V)->Hp->Prop),Inv X aa σ H s->Xd l6 σ H Q ->
  wpAny (AN X.prog X.w) X.A (evalPairs (pairTrees keys cE X.env pos)) (λvs s'=>∃ps H',Inv X aa σ H' s'/\VV ps vs/\Q ps H') X.xe s
def Xv:PPs X pos [] [] []:=λaa s σ H Q I h=>pairTrees_nil_walk ⟨[],H,I,.nil,h⟩
def Nb{k v:Expr}{ks:List (Option Expr)}{vs:uV}{tk:TE}(hk:PE X k tk)(hv:PE X v tv)(hr:PPs X pos ks vs l6) :
  PPs X pos (uA k::ks) (v::vs) ((tk,tv)::l6):=λaa s σ H Q I h =>
 pairTrees_cons_walk (thn (hk aa s σ H _ I h) λu s1 ⟨x,H1,I1,rx,q1⟩=>thn (hv aa s1 σ H1 _ I1 q1) λw2 s2 ⟨y,H2,I2,ry,q2⟩ =>
  thn (hr aa s2 σ H2 _ I2 q2) λws s3 ⟨ps,H3,I3,b4,q3⟩=>⟨(x,y)::ps,H3,I3,.cons ⟨rx,ry⟩ b4,q3⟩)
noncomputable def mergeK(af more:List (Key×V)):List (Key×V):=more.foldl (λacc kv=>putK acc kv.1 kv.2) af
def KV.merge:∀{more:List (Key×V)}{rs:List (Key×AA)}{af:List (Key×V)}{vs:List (Key×AA)},KV more rs->KV af vs->KV (mergeK af more) (merged vs rs):=by
 intro more rs af vs r;unfold KV at r
 induction r generalizing af vs with
 | nil=>intro q;exact q
 | @cons p q ps qs h t ih =>
  intro r0;have e:KV (putK af p.1 p.2) (stored vs q.1 q.2):=by
   have:=r0.put p.1 h.2;rw[<- h.1];exact this
  exact ih e
theorem Ij:∀(more af:List (Key×V)),(mergeK af more).length<=af.length+more.length
 | [],af=>by show af.length<=af.length+0;exact uO
 | p::r,af=>by
  have h1:=Ij r (putK af p.1 p.2);have h2:=Ce af p.1 p.2;show(mergeK (putK af p.1 p.2) r).length<=_;rw[DS];lia
theorem Mt{P:AM}{w:AS}:∀{af:List (Key×V)}{ws:List (AA×AA)},VV (af.map λkv=>(kV kv.1,kv.2)) ws->∃rs,Carries (CP P w) ws rs/\KV af rs
 | [],_,r=>by rw[Lv] at r;cases r;exact⟨[],IC,.nil⟩
 | p::af,_,r=>by
  rw[B8] at r;cases r with
  | @cons a b as bs h t =>
   obtain⟨rs,c,q⟩:=Mt (P:=P) (w:=w) t;obtain⟨b1,b2⟩:=b;exact⟨(p.1,b2)::rs,⟨QD h.1,rfl,c⟩,.cons ⟨rfl,h.2⟩ q⟩
def AHm(l6:List (TE×TE)):TE:=λσ H Q=>∀p,H p=none->Xd l6 σ (upd H p (.dK [])) λps H2=>H2 p=uA (.dK [])/\∃af:List (Key×V),ps=af.map (λkv=>(kV kv.1,kv.2))/\af.length<=15/\Q (.ref p) (upd H2 p (.dK (mergeK [] af)))
def Xw{keys:List (Option Expr)}{cE:uV}(h:PPs X pos keys cE l6)(bp:keys.all (·.isSome)=true)(hl:keys.length=cE.length)(h0:keys≠[])
  (h15:keys.length<=15):PE X (.Dict keys cE pos) (AHm l6):=by
 intro aa s σ H Q I q;have hn:=I.hok.fresh (AF s.heap.objs.size);have I1:=I.laid (a:=s.heap.objs.size) (o:=.dK []) (h':=s.heap.push {cls:=.type "dict",data:=.dict #[]}) (t':=s.toks) (λ_ _ q=>AL _ q) (AF _) (ABc s.heap I.big);refine wpAny_Dict_walk (knd:=CP X.prog X.w) bp hl h0 h15 (thn (h aa _ σ _ _ I1 (q _ hn)) λws s2 hq=>?_);obtain⟨ps,H2,I2,b4,e,af,ep,lk,q2⟩:=hq;subst ep;obtain⟨rs,c,rk⟩:=Mt (P:=X.prog) (w:=X.w) b4;obtain⟨z,hd,vs0,r0,dd⟩:=AFm I2.hok e;cases r0;refine⟨rs,c,dd,λh' kQ hs=>⟨.ref s.heap.objs.size,_,?_,rfl,q2⟩⟩;have hz:(mergeK [] af).length<=sizeLine:=by
  have h1:=Ij af [];rw[JS] at h1;rw[F6];lia
 have he:∃q,h'.get? s.heap.objs.size=uA q:=by obtain⟨q,_,_,hq,_⟩:=kQ;exact⟨q,hq⟩
 exact Kv I2 (by rw[e];exact IC) hs he (ADZ hz hd (rk.merge .nil) kQ)
structure M2(X:Cx)(o:Expr)(m:Str)(bv:Pos)(e f:Expr)(bt:Pos):Prop where
 base:K0 o m X.env (eval o X.env)=eval o X.env
 few:((JO bt (CC [e,f] X.env)).all (λx=>!x.1)&&(T8 bt (P3 [] X.env)).all (λx=>x.1.isSome)
  && decide (([e,f]:uV).length+([]:List VX).length+(if([]:List VX).isEmpty then 0 else 1)<30))=true
 line:(bv.endLine==bt.line)=true
 trees:JO bt (CC [e,f] X.env)=[(false,eval e X.env),(false,eval f X.env)]
def IsD(H:Hp)(a:Addr):Prop:=(∃af,Rd H a (.dK af))\/∃af,Rd H a (.dT af)
def AGs(I:Inv X aa σ H s)(d:IsD H a) :
  s.TypeIs (.ref a) "dict"/\(∀b,A9 a=.ref b->∃ob,s.heap.get? b=uA ob/\ob.dict=uB)/\(a==Eg)=false:=by
 rcases d with⟨af,e⟩| ⟨af,e⟩
 .obtain⟨_,hd,vs,_,dd⟩:=Nv I.hok e
  refine⟨dd.typeIs,λb q=>?_,hd⟩;cases q;obtain⟨ob,_,_,h1,h2,_⟩:=dd;exact⟨ob,h1,h2.2.1⟩
 .obtain⟨_,hd,xs,_,dd⟩:=Ny I.hok e
  refine⟨dd.typeIs,λb q=>?_,hd⟩;cases q;obtain⟨ob,_,_,h1,h2,_⟩:=dd;exact⟨ob,h1,h2.2.1⟩
section
variable{d:V}{r:AA}{o:Option V}
def AGf(hu:A.units+1<C2)(I:Inv X aa σ H s)(g:DGet H a y o)(ry:RelV y u)(rd:RelV d r)(h:∀w' s',Inv X aa σ H s'->RelV (o.getD d) w'->Q w' s') :
  wpAny (AN X.prog X.w) A (call (.builtin "dict.get") [.ref a,u,r]) Q E s:=by
 rcases g with⟨af,k,e,ey,l⟩| ⟨af,k,b,e,ey,eb,l⟩
 .subst ey
  obtain⟨z,hd,vs,b4,dd⟩:=Nv I.hok e;refine SO MH dd.typeIs Qb (Pm _ _ _) (meets_dict_get_default (CP X.prog X.w) a (QD ry) hd r) ⟨_,dd.mapOf,h _ _ (I.tok _) ?_⟩;rw[l];exact(b4.val k).getD rd
 .subst ey
  cases ry;obtain⟨z,hd,xs,b4,dd⟩:=Ny I.hok e;refine SO MH dd.typeIs Qb (Pm _ _ _) (meetsH_dict_get_default (NS (CP X.prog X.w)) a b hd r) ⟨LF hu,k,xs,Mq I.hok eb,dd,h _ _ (I.tok _) ?_⟩;rw[l];exact(b4.val k).getD rd
end
def AGj(td ty tx:TE):TE:=λσ H Q=>td σ H λx H1=>∃a,x=.ref a/\IsD H1 a/\ty σ H1 λy H2=>tx σ H2 λz H3=>∃o,DGet H3 a y o/\Q (o.getD z) H3
section
variable{o f:Expr}{ty tx:TE}
def ABY(hu:X.A.units+1<C2)(ho:PE X o td)(he:PE X e ty)(hf:PE X f tx)(m:M2 X o "get" bv e f bt):PE X (.Call (.Attribute o "get" bv) [e,f] [] bt) (AGj td ty tx):=by
 intro aa s σ H Q I h;refine wpAny_Call_method m.base m.few m.line PySem.F.plainAttrs_dict MH PySem.F.type_dict_get (thn (ho aa s σ H _ I h) λu s1 hq=>?_);obtain⟨x,H1,I1,rx,a,ex,d,q1⟩:=hq;subst ex;obtain rfl:u=A9 a:=rx;obtain⟨t1,t2,_⟩:=AGs I1 d;refine⟨t1,t2,?_⟩;rw[m.trees];refine Mb rfl (Q9 (JP (thn (he aa s1 σ H1 _ I1 q1) λiv s2 ⟨y,H2,I2,ry,q2⟩ =>
  JP (thn (hf aa s2 σ H2 _ I2 q2) λfv s3 ⟨z,H3,I3,rz,ov,g,q3⟩=>LW ?_))))
 exact AGf hu I3 g ry rz λw' s4 I4 eK=>⟨_,H3,I4,eK,q3⟩
end
end L2
namespace L2
open PySem PySem.Spec PyProof.Rows
open Sem (wp)
def AAt{es:Array N0}(hd:(d==Eg)=false)(hT:s.TypeIs (.ref d) "dict")(ho:s.heap.get? d=uA o)(hJ:o.data=.dict es ep)
  (hQ:Q (.ref s.heap.objs.size) {s with heap:=s.heap.push {cls:=.type "dict_keyiterator",data:=.fields #[.ref d,.int 0 0,.int es.size 0,.int ep 0]}}) :
  wpAny (AN prog w) A (QA (.ref d)) Q E s:=by
 refine OG hT UD (D5 UD hT F.entry_dict_iter ?_ (F.args_dict_iter_1 _));unfold Builtin.«dict.__iter__»;refine Au ?_;unfold W5;refine Au (wpAny_notOrdered_dict hT ?_);refine AE ?_;show wpAny _ _ (QN d >>= _) _ _ s;unfold QN;rw[uC (by rw[hd];exact BI)];refine Au (AE ?_);refine Au (L4 ho hJ ?_);refine Au (PD ho hJ ?_);refine Au (DU (AE ⟨_,rfl, "dict_keyiterator",_,⟨_,A2 _ rfl,rfl⟩,FE.lookup,?_⟩));simpa [He] using hQ
def ADg{es:Array N0}{od:Obj}{Q:Option AA->AC->Prop}(bq:s.heap.IsKeyIter it d i es.size ep)
  (sk:s.heap.get? d=uA od) (r8:od.data=.dict es ep) (hlt':i<es.size)
  (hQ:∀h',h'.IsKeyIter it d (i+1) es.size ep->EX it s.heap h'->Q (uA es[i].key) {s with heap:=h'}) :
  wpAny (AN prog w) A (L8 (.ref it)) Q E s:=by
 obtain⟨o,ho,hc,hd⟩:=id bq;unfold L8;refine Au (Op (wpAny_callSpecial?_slot (name:=Kj "__next__") bq.typeIs FE
  (D5 FE bq.typeIs Nl ?_ (M5 _))))
 refine Au (AE ?_);refine Au ?_;refine Au ?_
 first| refine Au (Hd bq.typeIs (AE ?_))| refine Au (IN bq.typeIs (AE ?_))
 refine Au (QO ho hd ?_);have hown:NI "dict_keyiterator" = false:=by decide
 show wpAny _ _ (if(A9 d==DE)=true then _ else _) _ _ s;rw[uC (show ¬ ((A9 d==DE)=true) from BI)];refine Au (AE ?_);refine Au (L4 sk r8 ?_);rw[uC (by simp)];refine Au (AE ?_);refine Au (PD sk r8 ?_);rw[uC (by simp)];refine AE ?_;simp only[show ¬ ((i:Int)<0) from vP,if_false,Cn,Bn hlt'];refine Au ?_
 first| refine Au (Hd bq.typeIs (AE ?_))| refine Au (IN bq.typeIs (AE ?_))
 refine Au (QP bq.typeIs ?_);show wpAny _ _ (setField (.ref it) 1 (He ((i:Int)+1)) >>= _) _ _ s;refine Au (IJ ho hd (by simp) ?_);have hU:(s.heap.update it (Os (·.setIfInBounds 1 (He ((i:Int)+1))))).IsKeyIter it d (i+1) es.size ep :=
  ⟨_,EJ _ ho (Kn (Fn hd _)),(LZ ..).trans hc,by rw[Fn hd];simp[He]⟩
 refine Au (Ee ?_);refine Au (QP (s:={s with heap:=s.heap.update it (Os (·.setIfInBounds 1 (He ((i:Int)+1))))}) hU.typeIs ?_);exact AE (AE ⟨_,rfl,AE (hQ _ hU (D7 ..))⟩)
def AAg{es:Array N0}{od:Obj}{Q:Option AA->AC->Prop}(hh:A.handled=uB)(bq:s.heap.IsKeyIter it d i es.size ep)
  (sk:s.heap.get? d=uA od) (r8:od.data=.dict es ep) (rJ:es.size<=i)
  (hQ:∀h',TK it s.heap h'->Q uB {s with heap:=h'}):wpAny (AN prog w) A (L8 (.ref it)) Q E s:=by
 obtain⟨o,ho,hc,hd⟩:=id bq;unfold L8;refine Au (Op (wpAny_callSpecial?_slot (name:=Kj "__next__") bq.typeIs FE
  (D5 FE bq.typeIs Nl ?_ (M5 _))))
 refine Au (AE ?_);refine Au ?_;refine Au ?_
 first| refine Au (Hd bq.typeIs (AE ?_))| refine Au (IN bq.typeIs (AE ?_))
 refine Au (QO ho hd ?_);have hown:NI "dict_keyiterator" = false:=by decide
 show wpAny _ _ (if(A9 d==DE)=true then _ else _) _ _ s;rw[uC (show ¬ ((A9 d==DE)=true) from BI)];refine Au (AE ?_);refine Au (L4 sk r8 ?_);rw[uC (by simp)];refine Au (AE ?_);refine Au (PD sk r8 ?_);rw[uC (by simp)];refine AE ?_;simp only[show ¬ ((i:Int)<0) from vP,if_false,Cn,E3 rJ];refine Au ?_
 first| refine Au (Hd bq.typeIs (AE ?_))| refine Au (IN bq.typeIs (AE ?_))
 show wpAny _ _ (setField (.ref it) 0 .none >>= _) _ _ s;refine Au (IJ ho hd (by simp) ?_);refine Au ?_;refine Au (DU ?_ (by size_fits));refine Au (m:=Kt _ _) (Mc (a:=DE) (by first| rfl| (simp only[Kt];rfl)) ?_);refine DU ?_ (by size_fits);refine Au (RR ?_);rw[show A.in1.handled=uB from hh];refine Au (AE (TL ?_));refine Au (IP (T:="StopIteration") (b:=true) ⟨_,A2 _ rfl,rfl⟩ V2 ?_);exact AE (hQ _ (((D7 ..).extBut.push _).push _))
end L2
namespace L2
open PySem PySem.Spec PyProof.Rows
section
variable{es:Array N0}
def Wv(hh:A.handled=uB)(I:Addr)(dA:d≠I)(hd:o.data=.dict es ep) :
  Walks prog w A I [I,d] [I] es.size (λi v=>∃e,es[i]?=uA e/\v=e.key) (λi h=>h.IsKeyIter I d i es.size ep/\h.get? d=uA o) where
 sub:=λb hb=>by simp at hb;simp[hb]
 frame:=λ_ _ _ st hk=>⟨st.1.at λo e=>hk I (by simp) o e,hk d (by simp) o st.2⟩
 item:=λi s Q E hi st hQ=>by
  refine ADg st.1 st.2 hd hi λh' hU oz=>?_;exact hQ _ h' s.toks ⟨es[i],by simp[hi],rfl⟩ ⟨hU,oz.extBut d o dA st.2⟩ λb o hb e=>oz.extBut b o (λh=>hb (by simp[h])) e
 done:=λs Q E st hQ=>AAg hh st.1 st.2 hd (AF _) λh' he'=>hQ h' s.toks λb o hb e=>he' b o (λh=>hb (by simp[h])) e
 self:=λ_ _ _ _ st hQ=>wpAny_pyIter_keyiter st.1 hQ
def ADj(lo:(d==Eg)=false)(hx:o.ExactDict)(hd:o.data=.dict es ep) :
  PySem.W.KdlSrc prog w "dict" d d es.size (λi v=>∃e,es[i]?=uA e/\v=e.key) (λh=>h.get? d=uA o) where
 type:=λ_ hm=>⟨o,hm,hx.1⟩
 there:=λ_ hm=>⟨BH hm,BH hm⟩
 keep:=λ_ _ hm hk=>hk d (.inl rfl) o hm
 notList:=by decide
 notTuple:=by decide
 hint:=λ_ _ _ _ hm hq=>PySem.W.kdl_hint_dict ⟨o,hm,hx.1⟩ hq
 iter:=λ_ _ hh hm=>⟨_,_,(λ_ _ hq=>AAt lo ⟨o,hm,hx.1⟩ hm hd hq),Wv hh _ (BY (BH hm)) hd,⟨⟨_,A2 _ rfl,rfl,rfl⟩,AL _ hm⟩⟩
end
def KeyL(H:Hp):List (List Key×V)->List V->Prop:=BN λkv y=>∃b,y=.ref b/\H b=uA (.tup (kv.1.map kV))
def AFf:∀{af:List (List Key×V)}{xs:List (List Key×Addr×AA)},KT H af xs->KeyL H af (xs.map λx=>.ref x.2.1):=by
 intro l m h
 induction h with
 | nil=>exact .nil
 | cons h t ih=>exact .cons ⟨_,rfl,h.2.1⟩ ih
def Rq(hc:X.calm=true):CallR X (.type "list") (λxs H Q=>∃p af,xs=[.ref p]/\H p=uA (.dT af)/\∀l ys,H l=none->KeyL H af ys->Q (.ref l) (upd H l (.lst ys))):=by
 intro aa s σ H xs us Q I rr h;obtain⟨p,af,rfl,hp,q⟩:=h;obtain⟨u,rfl,ru⟩:=rr.one;cases ru;obtain⟨z,lo,ts,kt,o,es,ep,h1,h2,h3,h4,h5⟩:=(I.hok p _ hp);have hl:es.size=af.length:=by
  rw[<- A1,h4,AB];exact(AY kt).symm
 refine PySem.W.kdl_call (ADj lo h2 h3) (I.ok.hd hc) h1 (by rw[hl];exact z) λh' tk ay c' hk hS aE=>?_;have hn:=I.hok.fresh (AF _);refine⟨.ref s.heap.objs.size,_,I.laid (a:=s.heap.objs.size) (o:=.lst (ts.map λx=>V.ref x.2.1)) (t':=tk) hk (AF _) ⟨?_,ay.toList,c',?_,?_⟩,rfl,q _ _ hn (AFf kt)⟩
 .rw[AB,<- AY kt];exact z
 .refine Kg (by rw[AB];exact(AY kt).symm.trans (hl.symm.trans (aE.1.symm.trans (A1).symm))) λi x u e1 e2=>?_
  have e2':ay[i]?=uA u:=by simpa using e2
  obtain⟨e,e3,rfl⟩:=aE.2 i u e2';rw[<- Cb,h4,AU] at e3;rw[AU] at e1;cases g:ts[i]? with
  | none=>rw[g] at e1;cases e1
  | some t =>
   rw[g] at e1 e3;cases e1;cases e3;rfl
 .simpa using hS
theorem Mz:∀ns:uI,HT.lexLt ns ns=false
 | []=>rfl
 | x::xs=>by rw[HT.Cm,uD rfl];exact Mz xs
def rAddT(K:As):R2:=λx y H Q=>∃a b xs ys,x=.ref a/\y=.ref b/\SqT K H a xs/\SqT K H b ys/\xs.length+ys.length<=sizeLine /\
 (xs=[]->Q (.ref b) H)/\(xs≠[]->ys=[]->Q (.ref a) H)/\(xs≠[]->ys≠[]->∀p,H p=none->Q (.ref p) (upd H p (.tup (xs++ys))))
def ADt:OpR X (HK .Add) (rAddT X.K):=by
 intro aa s σ H x y v u Q I rx ry h;obtain⟨a,b,xs,ys,rfl,rfl,ha,hb,hz,q0,q1,q2⟩:=h;by_cases e:xs=[]
 .cases rx;cases ry
  obtain⟨ag,r1,p1,_⟩:=I.tuple ha;obtain⟨db,r2,p2,_⟩:=I.tuple hb;subst e;cases r1;obtain⟨⟨cls,dd,data,sl⟩,ho,hc,n,hd⟩:=id p1;obtain⟨⟨l7,h9,W4,iq⟩,fe,ft,n2,dP⟩:=id p2;simp only at hc hd ft dP;subst hc hd ft dP;exact OY ⟨_,ho,rfl⟩ ⟨_,fe,rfl⟩ OZ RO L9 LU (Lu _ _)
   (tuple_addW0 a b #[] db.toArray n n2 dd h9 sl iq rfl) ⟨ho,fe,⟨.ref b,H,I,rfl,q0 rfl⟩⟩
 .exact AEu aa s σ H _ _ v u Q I rx ry ⟨a,b,xs,ys,rfl,rfl,ha,hb,e,hz,q1 e,q2 e⟩
end L2
namespace L2
open PySem PySem.Spec PyProof.Rows
open AutoSeq1 (wpAny_loadPart')
def Nt{Q:List AA->AC->Prop}{a b c:Int}{t u v:Tok}(hh:A.handled=uB)(hr:IsRange s.heap r a b c t u v)(fc:K3 a b c=true)
  (hn:FF a b c=n) (aw:n<=2 ^ 24)
  (hQ:∀h' tk acc,(∀b o,s.heap.get? b=uA o->h'.get? b=uA o)->ItemsOf (λi v=>∃t,v=.int (a+i*c) t) acc n->Q acc.toList {s with heap:=h',toks:=tk}) :
  wpAny (AN prog w) A (QI (.ref r)) Q E s:=by
 unfold QI;refine Au (NH (EA N2 ?_));rw[EB N3 _];refine Au (DU ?_);refine AE ⟨JJ IY _,EA Po ?_⟩;rw[EB IY _];have hS:(s.heap.push {cls:=.type "list",data:=.seq ([]:List AA).toArray}).get? s.heap.objs.size=uA {cls:=.type "list",data:=.seq #[] 0}:=A2 _ rfl;have i6:∀(h':Heap) (tk:Nat) (ay:Array AA) (c':Nat),(∀b o,b≠s.heap.objs.size->(s.heap.push {cls:=.type "list",data:=.seq ([]:List AA).toArray}).get? b=uA o->h'.get? b=uA o)->h'.get? s.heap.objs.size=uA {cls:=.type "list",dict:=uB,data:=.seq ay c',slots:=#[]} ->
   ItemsOf (λi v=>∃t,v=.int (a+i*c) t) ay n->wpAny (AN prog w) A (match A9 s.heap.objs.size with
   | A9 a=>do
    match (<- load a).data with
     | UE xs _=>pure xs.toList
     | _=>unsupported "internal:collect"
   | _=>unsupported "internal:collect") Q E {s with heap:=h',toks:=tk}:=λh' tk ay c' hk dC aE=>by
  refine Au (Q6 dC ?_);refine AE ?_;exact hQ h' tk ay (λb o e=>hk b o (BY (BH e)) (AL _ e)) aE
 refine EI (wpAny_extend_range (A:=A) (R:=λr s'=>∃h' tk ay c',r=.ok (.ret (.ref s.heap.objs.size))/\s'={s with heap:=h',toks:=tk}/\(∀b o,b≠s.heap.objs.size->(s.heap.push {cls:=.type "list",data:=.seq ([]:List AA).toArray}).get? b=uA o->h'.get? b=uA o)/\h'.get? s.heap.objs.size=uA {cls:=.type "list",dict:=uB,data:=.seq ay c',slots:=#[]}/\ItemsOf (λi v=>∃t,v=.int (a+i*c) t) ay n)
  (s:={s with heap:=s.heap.push {cls:=.type "list",data:=.seq ([]:List AA).toArray}}) hh (AL _ hr) fc hn aw s.heap.objs.size (.ref s.heap.objs.size) 0 hS λh' tk ay c' hk dC aE=>⟨h',tk,ay,c',rfl,rfl,hk,dC,aE⟩) (λfin s' h=>?_) (λe s' h=>?_)
 .cases fin with
  | done f =>
   obtain⟨h',tk,ay,c',e,rfl,hk,dC,aE⟩:=h;cases e;exact i6 h' tk ay c' hk dC aE
  | again c'=>exact⟨h.1,FM h.2 λr tT hr=>by obtain⟨h',tk,ay,c',rfl,rfl,hk,dC,aE⟩:=hr;exact i6 h' tk ay c' hk dC aE⟩
 .obtain⟨_,_,_,_,e,_⟩:=h
  cases e
def meets_tuple_range(r:Addr)(a b c:Int)(t u v:Tok)(n:Nat)(fc:K3 a b c=true)(hn:FF a b c=n)(aw:n<=1000) :
  Meets (Builtin.«tuple.__new__» ⟨[.type "tuple",.ref r],[]⟩)
   (λA R s=>A.handled=uB/\IsRange s.heap r a b c t u v/\∀(h':Heap) (tk:Nat) (acc:Array AA),(∀b o',s.heap.get? b=uA o'->h'.get? b=uA o')->ItemsOf (λi v=>∃t,v=.int (a+i*c) t) acc n ->
    R (.ok (.ret (.ref h'.objs.size))) {s with heap:=h'.push {cls:=.type "tuple",data:=.seq acc},toks:=tk}) :=
 .of_wp λprog w A R s h=>by
  obtain⟨hp,g,d,tk,os⟩:=s;obtain⟨hh,ht,h⟩:=h;have qy:=sub_tuple_self;have hinit:=init_tuple_lookup;have hmh:=madeHere_tuple;have hT:WG ⟨hp,g,d,tk,os⟩ (.ref r) "range":=⟨_,ht,rfl⟩
  wp_walk using wpAny_loadPart' ht,M3 hT,Nt (A:=A.in1) hh ht fc hn (by lia)
  intro h' tk' acc hk aE;show wpAny _ _ (O4 acc.toList.toArray >>= λv=>ret v) _ _ _;unfold O4;refine Au (DU ?_ (by show acc.toList.toArray.size<=sizeLine;rw[Rc,aE.1];exact small aw));refine AE ⟨_,rfl,?_⟩;have e:acc.toList.toArray=acc:=by simp
  rw[e];exact h h' tk' acc hk aE
def FN(hc:X.calm=true):CallR X (.type "tuple") (λxs H Q=>∃r j,xs=[.ref r]/\H r=uA (.rng 0 j)/\0<=j/\j<=1000/\∀l,H l=none->Q (.ref l) (upd H l (.tup ((below j.toNat).map V.int)))):=by
 intro aa s σ H xs us Q I rr h;obtain⟨r,j,rfl,hr,j0,j1,q⟩:=h;obtain⟨u,rfl,ru⟩:=rr.one;cases ru;obtain⟨t1,t2,t3,e⟩:=I.hok r _ hr;refine callType_new PySem.F.called_tuple (by decide) (PySem.F.typeCall_tuple_1 _) (PySem.F.newCall_tuple_1 _) (λobj=>PySem.F.args_object_init_2 obj _) PySem.F.entry_tuple_new
  (meets_tuple_range r 0 j 1 t1 t2 t3 j.toNat (V7 (by lia) (by lia) (by lia) (by lia)) (by rw[RI];split<;>lia) (wR j1)) ⟨I.ok.hd hc,e,λh' tk acc hk aE=>⟨⟨_,A2 _ rfl,rfl⟩,?_⟩⟩
 have I1:Inv X aa σ H {s with heap:=h',toks:=tk}:=I.kept hk;have hn:=I1.hok.fresh (AF _);refine⟨.ref h'.objs.size,_,I1.laid (a:=h'.objs.size) (o:=.tup ((below j.toNat).map V.int)) (t':=tk) (λb o e=>AL _ e) (AF _) ⟨?_,acc.toList,?_,⟨_,A2 _ rfl,rfl,0,by simp⟩⟩,rfl,q _ hn⟩
 .rw[AB,AB,Cf]
  exact small (wR j1)
 .refine Kg (by simp[aE.1]) λi x u h1 h2=>?_
  have h7:acc[i]?=uA u:=by simpa using h2
  obtain⟨t,rfl⟩:=aE.2 i u h7;have hi:i<j.toNat:=by
   have:=(C8.mp h7).1;rw[aE.1] at this;exact this
  rw[AU,AU,E7 hi] at h1;have ex:=(AO h1).symm;subst ex;exact⟨t,by rw[TH,Sk]⟩
end L2
namespace ST
open PySem PySem.SetTable
theorem Bw:∀{l₁ l₂:uL},l₁.Nodup->(∀x∈l₁,x∈l₂)->l₁.length<=l₂.length
 | [],_,_,_=>By _
 | a::t,l₂,nd,hs=>by
  obtain⟨n1,n2⟩:=DM.mp nd;have ha:=hs a AJ;have hl:=EM ha;have ih:=Bw (l₂:=l₂.erase a) n2 λx hx=>(IF (λ(e:x=a)=>n1 (by rw[<- e];exact hx))).mpr (hs x (AK _ hx));have:0<l₂.length:=Me ha;simp;exact w4 ih hl this
end ST
namespace L2
open PySem PySem.Spec PyProof.Rows
theorem Tn{prog:AM}{w:AS}:∀{ns:uI}{us:List AA},Vals (ns.map V.int) us->ItemsAre (LL prog w) ns us
 | [],_,.nil=>.nil
 | n::ns,_,.cons ⟨t,e⟩ r=>by
  subst e;exact .cons (intKind_is prog w n t) (Tn r)
def min_list(hc:X.calm=true):CallR X (.builtin "min") (λxs H Q=>∃(p:Addr) (ns:uI),xs=[.ref p]/\SqL X.K H p (ns.map V.int)/\0<ns.length/\∀m,m∈ns->(∀a∈ns,m<=a)->Q (.int m) H):=by
 intro aa s σ H xs us Q I r h;obtain⟨p,ns,rfl,hq,dA,q⟩:=h;obtain⟨u0,rfl,ru⟩:=r.one;cases ru;obtain⟨ag,rv,pl,hz⟩:=I.list hq;have hi:=intsAre_of rv;have hl:=pl.isList;obtain⟨ys,e⟩:=hi.allInts.items;have f':ns=ys.toList.map (·.1):=by rw[<- hi.numsOf,<- nums_intItems,<- e]
 have hsz:0<ys.size:=by
  rw[f',AB,A1] at dA;exact dA
 rw[e] at hl;refine min_intList (I.ok.hd hc) hl hsz λv h' tk hv hk=>?_;obtain⟨t,rfl⟩:=intItems_at hv;obtain⟨h1,h2⟩:=argBest_lt (Rs ys) (ys.size-1);refine⟨.int (Rs ys (argBest (λi j=>decide (Rs ys i<Rs ys j)) (ys.size-1))),H,I.kept hk,⟨t,rfl⟩,q _ ?_ λa ha=>?_⟩
 .rw[f',UC]
  exact getD_mem (by rw[AB,A1];exact yX h1 hsz)
 .rw[f'] at ha
  obtain⟨j,hj,rfl⟩:=mem_getD ha;rw[AB,A1] at hj;rw[<- UC];exact h2 j (vo hj)
end L2
namespace NK
open PySem
section
variable{κ:Type}[DecidableEq κ](kd:KeyKind P w κ)
def IsP(g:Heap)(p:κ×List κ)(x:Addr):Prop:=∃ob ag c v b,g.get? x=uA ob/\ob.cls=.type "tuple"/\ob.data=.seq ag c/\ag.toList=[v,.ref b]/\kd.is p.1 v=true/\U0 kd g p.2 b
noncomputable def hashP(p:κ×List κ):Int:=RA (K6 [kd.hash p.1,M6 kd p.2])
variable{kd}
def IsP.ty{p:κ×List κ}{x:Addr}(h:IsP kd s.heap p x):s.TypeIs (.ref x) "tuple":=by
 obtain⟨ob,_,_,_,_,e,c,_⟩:=h;exact⟨ob,e,c⟩
def IsP.one{g:Heap}{p q:κ×List κ}{x:Addr}(h:IsP kd g p x)(h':IsP kd g q x):p=q:=by
 obtain⟨ob,ag,c,v,b,e,_,d,l,k,t⟩:=h;obtain⟨ob',its',c',v',b',e',_,d',l',k',t'⟩:=h';obtain rfl:ob=ob':=AO (e.symm.trans e');rw[d] at d';obtain⟨rfl,rfl⟩:ag=its'/\c=c':=by cases d';exact⟨rfl,rfl⟩
 rw[l] at l';injection l' with z1 z2
 injection z2 with z2 _
 injection z2 with z2
 subst z1;subst z2;exact LG (kd.inj _ _ _ k k') (t.inj t')
def IsP.stays{g g':Heap}{p:κ×List κ}{x y:Addr}{es ep}(h:IsP kd g p x)(e:g.get? y=uA ob)(d:ob.data=.dict es ep)(sb:EX y g g'):IsP kd g' p x:=by
 obtain⟨o1,ag,c,v,b,e1,c1,d1,l,k,t⟩:=h;have ne:x≠y:=λz=>by
  rw[z,e] at e1;cases e1;rw[d] at d1;cases d1
 exact⟨o1,ag,c,v,b,(sb.2 x ne).trans e1,c1,d1,l,k,t.keeps e d sb⟩
def AAl{p:κ×List κ}{x:Addr}{R:Int->AC->Prop}(hu:A.units+1<C2)(h:IsP kd s.heap p x)(q:R (hashP kd p) {s with toks:=s.toks+(p.2.length+3)}):wpAny (AN P w) A (pyHash (.ref x)) R E s:=by
 have ty:=h.ty;obtain⟨ob,ag,c,v,b,e,_,d,l,k,t⟩:=h;unfold pyHash
 first| unfold pyHashByItsType| skip
 first| refine Au (wpAny_cRoomFor_or (.inr (uR hu)) ?_)| skip
 refine Au (Ic ty IZ.lookup ?_);show wpAny _ _ (if(uA (Value.builtin "tuple.__hash__")==uA DE)=true then _ else _) _ _ _;rw[uC (by rw[UF];exact BI)];refine Au (Ic ty IZ.lookup ?_);show wpAny _ _ (callSpecialIfBoundUnlessNone? (.ref x) "__hash__" _ >>= _) _ _ _;refine Au (wpAny_callSpecialIfBoundUnlessNone?_slot ty IZ (D5 IZ ty PySem.F.entry_tuple_hash ?_ (PySem.F.args_tuple_hash_1 _)));show wpAny _ _ (WH (.ref x) >>= _) _ _ _;refine Au (N4 e d (Au ?_));rw[<- J0,l];refine FS _ (λar (z:Array Int) s'=>(ar=[v,.ref b]/\z=#[]/\s'=s)\/(ar=[.ref b]/\z=#[kd.hash p.1]/\s'={s with toks:=s.toks+1})\/(ar=[]/\z=#[kd.hash p.1,M6 kd p.2]/\s'={s with toks:=s.toks+1+(p.2.length+1)}))
  _ ?_ ?_ _ _ (.inl ⟨rfl,rfl,rfl⟩)
 .rintro y ar z s' (⟨er,rfl,rfl⟩| ⟨er,rfl,rfl⟩| ⟨er,_⟩)
  .cases er
   refine Au (kd.pyHash k ?_)
   first
    | exact AE (.inr (.inl ⟨rfl,rfl,rfl⟩))
    | exact Au (AE (AE (.inr (.inl ⟨rfl,rfl,rfl⟩))))
  .cases er
   refine Au (SR (by show A.units+1<C2;exact hu) t ?_)
   first
    | exact AE (.inr (.inr ⟨rfl,rfl,rfl⟩))
    | exact Au (AE (AE (.inr (.inr ⟨rfl,rfl,rfl⟩))))
  .cases er
 .rintro z s' (⟨er,_⟩| ⟨er,_⟩| ⟨_,rfl,rfl⟩)
  .cases er
  .cases er
  .have et:{s with toks:=s.toks+1+(p.2.length+1)+1}={s with toks:=s.toks+(p.2.length+3)}:=by
    congr 1
    lia
   show wpAny _ _ (retInt (K6 [kd.hash p.1,M6 kd p.2])) _ _ _;refine U1 ?_;unfold hashP RA at q;generalize K6 [kd.hash p.1,M6 kd p.2]=hv at q;show wpAny _ _ (if(decide (-(2:Int) ^ 63<=hv)&&decide (hv<2 ^ 63))=true then _ else _) _ _ _;by_cases c0:(decide (-(2:Int) ^ 63<=hv)&&decide (hv<2 ^ 63))=true
   .rw[uD c0] at q ⊢
    refine AE ?_;rw[<- et] at q;exact q
   .rw[uC c0] at q ⊢
    refine Au (IE (AE ?_));rw[<- et] at q;exact q
def AEi{p q:κ×List κ}{x y:Addr}{R:Fin->AC->Prop}(hu:A.units<C2)(h:IsP kd s.heap p x)(h':IsP kd s.heap q y)(r:R (.done (.ret (.bool (decide (p=q))))) s) :
  wpAny (AN P w) A (Builtin.«tuple.__eq__» ⟨[.ref x,.ref y],[]⟩) R E s:=by
 have ty:=h'.ty;obtain⟨o1,i1,c1,v1,b1,e1,_,d1,l1,k1,t1⟩:=h;obtain⟨o2,i2,c2,v2,b2,e2,_,d2,l2,k2,t2⟩:=h';show wpAny _ _ (U2 (.ref y) (.type "tuple") >>= _) _ _ _;refine Au (IP ty ML ?_);simp only[FR,B7,if_false];refine Au (N4 e1 d1 (Au (N4 e2 d2 (Au ?_))));have sz:(i1.size==i2.size)=true:=by
  have z1:i1.size=2:=by rw[<- A1,l1];rfl
  have z2:i2.size=2:=by rw[<- A1,l2];rfl
  rw[z1,z2];rfl
 rw[l1,l2];refine FS _ (λar z s'=>z.1=uB/\s'=s/\(ar=[(v1,v2),(.ref b1,.ref b2)]\/(ar=[(.ref b1,.ref b2)]/\p.1=q.1)\/(ar=[]/\p=q))) _ ?_ ?_ _ _ ⟨rfl,rfl,.inl rfl⟩
 .rintro⟨u,v⟩ ar z s' ⟨hz,rfl,er| ⟨er,pq⟩| ⟨er,_⟩⟩
  .cases er
   refine Au (kd.eqBool (a:=p.1) (b:=q.1) k1 k2 ?_);by_cases c:p.1=q.1
   .rw[uE c]
    simp only[FR,B7,if_false];exact AE ⟨rfl,rfl,.inr (.inl ⟨trivial,c⟩)⟩
   .rw[uF c]
    simp only[V3,if_true];rw[uF (λz=>c (by rw[z]))] at r;exact Au (AE (AE (AE r)))
  .cases er
   refine Au (SS hu t1 t2 ?_);by_cases c:p.2=q.2
   .rw[uE c]
    simp only[FR,B7,if_false];exact AE ⟨rfl,rfl,.inr (.inr ⟨trivial,LG pq c⟩)⟩
   .rw[uF c]
    simp only[V3,if_true];rw[uF (λz=>c (by rw[z]))] at r;exact Au (AE (AE (AE r)))
  .cases er
 .rintro⟨z1,z2⟩ s' ⟨hz,rfl,er| ⟨er,_⟩| ⟨_,pq⟩⟩
  .cases er
  .cases er
  .dsimp only at hz
   subst hz;refine AE ?_;rw[uE pq] at r;show R (.done (.ret (.bool (i1.size==i2.size)))) s';rw[sz];exact r
def AEe{p q:κ×List κ}{x y:Addr}{R:Bool->AC->Prop}(hu:A.units+1<C2)(h:IsP kd s.heap p x)(h':IsP kd s.heap q y)(r:R (decide (p=q)) s):wpAny (AN P w) A (eqBool (.ref x) (.ref y)) R E s:=by
 unfold eqBool
 try with_reducible refine Ee ?_
 show wpAny _ _ (if(A9 x==A9 y)=true then _ else _) _ _ _;by_cases c:(A9 x==A9 y)=true
 .rw[uD c]
  obtain rfl:x=y:=by have z:=eq_of_beq c;injection z
  obtain rfl:=h.one h';rw[uE rfl] at r;exact Au (IE (AE r))
 .rw[uC c]
  refine Au (wpAny_richCompare_same_room (op:=.Eq) h.ty h'.ty Kx (D5 Kx h.ty PySem.F.entry_tuple_eq (AEi ?_ h h' ⟨_,rfl,(λe=>nomatch e),G9 r⟩) (PySem.F.args_tuple_eq_2 _ _)) (uR hu));show A.units+1<C2;exact hu
def Uy{ks:List κ}{x:Addr}{R:Bool->AC->Prop}(h:U0 kd s.heap ks x)(r:R true s):wpAny (AN P w) A (SU (n+1) (.ref x)) R E s:=by
 have ty:=h.typeIs;obtain⟨ob,ag,c,e,_,d,ia⟩:=h;unfold SU;refine Au (Ic ty Kx.lookup ?_);show wpAny _ _ (U2 (.ref x) (.type "tuple") >>= _) _ _ _;refine Au (IP ty ML ?_);simp only[FR,B7,if_false];refine Au (Kk e d (Au ?_));show wpAny _ _ (forIn ag _ _) _ _ _;rw[<- J0];refine FS _ (λar z s'=>z.1=uB/\s'=s/\∀v∈ar,V4 v=true) _ (λv ar z s' ⟨hz,es,al⟩=>?_) (λz s' ⟨hz,es,_⟩=>?_) _ _ ⟨rfl,rfl,ia.byValue⟩
 .subst es
  rw[Tl _ (al v AJ)];refine Au (AE ?_);simp only[FR,B7,if_false];exact AE ⟨rfl,rfl,λu h=>al u (AK _ h)⟩
 .subst es
  obtain⟨z1,z2⟩:=z;dsimp only at hz;subst hz;exact AE r
def Xc{p:κ×List κ}{x:Addr}{R:Bool->AC->Prop}(h:IsP kd s.heap p x)(r:R true s):wpAny (AN P w) A (SU 8 (.ref x)) R E s:=by
 have ty:=h.ty;obtain⟨ob,ag,c,v,b,e,_,d,l,k,t⟩:=h;unfold SU;refine Au (Ic ty Kx.lookup ?_);show wpAny _ _ (U2 (.ref x) (.type "tuple") >>= _) _ _ _;refine Au (IP ty ML ?_);simp only[FR,B7,if_false];refine Au (Kk e d (Au ?_));show wpAny _ _ (forIn ag _ _) _ _ _;rw[<- J0,l];refine FS _ (λar z s'=>z.1=uB/\s'=s/\(ar=[v,.ref b]\/ar=[.ref b]\/ar=[])) _ (λu ar z s' ⟨hz,es,er⟩=>?_) (λz s' ⟨hz,es,_⟩=>?_) _ _ ⟨rfl,rfl,.inl rfl⟩
 .subst es
  rcases er with er| er| er
  .cases er
   rw[Tl _ (kd.byValue _ _ k)];refine Au (AE ?_);simp only[FR,B7,if_false];exact AE ⟨rfl,rfl,.inr (.inl trivial)⟩
  .cases er
   refine Au (Uy t ?_);simp only[FR,B7,if_false];exact AE ⟨rfl,rfl,.inr (.inr trivial)⟩
  .cases er
 .subst es
  obtain⟨z1,z2⟩:=z;dsimp only at hz;subst hz;exact AE r
end
noncomputable def Ez{P:AM}{w:AS}{κ:Type}[DecidableEq κ](kd:KeyKind P w κ):HeapKind P w (κ×List κ) where
 is:=IsP kd
 hash:=hashP kd
 draws:=λp=>p.2.length+3
 room:=λA=>A.units+1<C2
 inj:=λa b=>a.one b
 keeps:=λa b c d=>a.stays b c d
 pyHash:=λa b c=>AAl a b c
 eqBool:=λa b c d=>AEe a b c d
 quiet:=λa b=>Xc a b
def oIs:Option Int->AA->Bool
 | some i,v=>NM i v
 | none,v=>match v with
  | .none=>true
  | _=>false
def oHash:Option Int->Int
 | some i=>hashInt i
 | none=>RA 0xFCA86420
theorem DG:∀{k:Option Int}{v:AA},oIs k v=true->(∃i t,k=uA i/\v=NR i t)\/(k=uB/\v=DE)
 | some i,v,h=>by
  obtain⟨t,e⟩:=G8 (k:=i) (v:=v) h;exact .inl ⟨i,t,rfl,e⟩
 | none,v,h=>by
  cases v<;>first| exact .inr ⟨rfl,rfl⟩| cases h
def hash_none{Q:Int->AC->Prop}(h:Q (RA 0xFCA86420) {s with toks:=s.toks+1}):wpAny (AN P w) A (pyHash .none) Q E s :=
 PySem.W.pyHash_slot (T:="NoneType") rfl PySem.F.slot_NoneType_hash PySem.F.entry_NoneType_hash (PySem.F.args_NoneType_hash_1 _) (UF _) (.inl rfl) (Au (AE (Au (wpAny_mkInt (AE ⟨_,_,rfl,h⟩)))))
def optKind(P:AM)(w:AS):KeyKind P w (Option Int) where
 is:=oIs
 hash:=oHash
 inj:=λv a b ha hb=>by
  rcases DG ha with⟨i,t,rfl,rfl⟩| ⟨rfl,rfl⟩
  .rcases DG hb with⟨j,u,rfl,e⟩| ⟨rfl,e⟩
   .injection e with e1 _;rw[e1]
   .cases e
  .rcases DG hb with⟨j,u,rfl,e⟩| ⟨rfl,e⟩
   .cases e
   .rfl
 byValue:=λk v h=>by
  rcases DG h with⟨i,t,rfl,rfl⟩| ⟨rfl,rfl⟩<;>rfl
 pyHash:=λhv h=>by
  rcases DG hv with⟨i,t,rfl,rfl⟩| ⟨rfl,rfl⟩
  .exact TZ h
  .exact hash_none h
 eqBool:=λhu hv h=>by
  rcases DG hu with⟨i,t,rfl,rfl⟩| ⟨rfl,rfl⟩
  .rcases DG hv with⟨j,u,rfl,rfl⟩| ⟨rfl,rfl⟩
   .have e:decide ((uA i:Option Int)=uA j)=(i==j):=by
     by_cases c:i=j
     .subst c;simp
     .rw[uF (λz=>c (AO z))]
      exact(beq_eq_false_iff_ne.mpr c).symm
    rw[e] at h;exact T3 h
   .exact NA i t _ _ _ _ h
  .rcases DG hv with⟨j,u,rfl,rfl⟩| ⟨rfl,rfl⟩
   .exact Nw j u _ _ _ _ h
   .exact M1 .none _ _ _ _ h
 «strs»:=λk x t v h=>by
  rcases DG h with⟨i,u,rfl,e⟩| ⟨rfl,e⟩
  .cases e
  .cases e
end NK
namespace L2
open PySem
noncomputable def oV:Option Int->V
 | some i=>.int i
 | none=>.non
def AFs{k:Option Int}(r:RelV (oV k) u):(NK.optKind P w).is k u=true:=by
 cases k with
 | some i =>
  obtain⟨t,rfl⟩:=r;show NM i (.int i t)=true;simp[NM]
 | none =>
  cases r;rfl
theorem oV_items{P:AM}{w:AS}:∀{ks:List (Option Int)}{us:List AA},Vals (ks.map oV) us->ItemsAre (NK.optKind P w) ks us
 | [],_,r=>by rw[Lv] at r;cases r;exact .nil
 | k::ks,_,r=>by
  rw[B8] at r;cases r with
  | cons h t=>exact .cons (AFs h) (oV_items t)
abbrev OKey:=Option Int×List (Option Int)
def dO(P:AM)(w:AS)(a:Addr)(xs:List (OKey×Addr×AA)):HO:=.ext λg=>∃o es ep,g.get? a=uA o/\o.ExactDict/\o.data=.dict es ep/\es.toList=xs.map (entryOfKey (NK.Ez (NK.optKind P w)))/\(xs.map (·.1)).Nodup
def OAt(K:As)(H:Hp)(p:OKey)(x:Addr):Prop:=∃b,H x=uA (.tup [oV p.1,.ref b])/\SqT K H b (p.2.map oV)
def OAt.ts{p:OKey}{x:Addr}(h:OAt K H p x)(t:TSm H H'):OAt K H' p x:=by obtain⟨b,e1,e2⟩:=h;exact⟨b,t _ _ e1 ⟨_,.inl rfl⟩,t.seq e2⟩
abbrev KO(K:As)(H:Hp):List (OKey×V)->List (OKey×Addr×AA)->Prop:=BN λp q=>p.1=q.1/\OAt K H p.1 q.2.1/\RelV p.2 q.2.2
def DO(K:As)(P:AM)(w:AS)(H:Hp)(a:Addr)(af:List (OKey×V)):Prop:=af.length<=sizeLine/\(a==Eg)=false/\∃xs,H a=uA (dO P w a xs)/\KO K H af xs
def DO.keep{af:List (OKey×V)}(h:DO K P w H a af)(e:∀o,H a=uA o->H' a=uA o)(t:TSm H H'):DO K P w H' a af:=by
 obtain⟨z,y,xs,e1,r⟩:=h;exact⟨z,y,xs,e _ e1,ut (λ_ _ q=>⟨q.1,q.2.1.ts t,q.2.2⟩) r⟩
def KO.val{af:List (OKey×V)}{xs:List (OKey×Addr×AA)}(r:KO K H af xs)(k:OKey):RelO (valV af k) ((JY xs k).map (·.2)):=by
 induction r with
 | nil=>exact IC
 | @cons p q ps qs h t ih =>
  by_cases e:p.1=k
  .have b:JY (q::qs) k=uA q.2:=by simp[JY,Go,h.1.symm.trans e]
   rw[Ca e,b];exact h.2.2
  .have b:JY (q::qs) k=JY qs k:=by simp[JY,Go,show ¬ q.1=k from λz=>e (h.1.trans z)]
   rw[CW e,b];exact ih
def KO.put{af:List (OKey×V)}{xs:List (OKey×Addr×AA)}(r:KO K H af xs){k:OKey}(hb:OAt K H k b)(ry:RelV y u)(new:valV af k=uB):KO K H (putK af k y) (S8 xs k b u):=by
 have e:JY xs k=uB:=by
  have z:=(r.val k).isSome_eq;rw[new,L3] at z;cases g:JY xs k with
  | none=>rfl
  | some q=>rw[g] at z;cases z
 rw[JC y new,storedH_new e];exact TN r ⟨rfl,hb,ry⟩
def Jg{p:OKey}{x:Addr}(I:Inv X aa σ H s)(e:OAt X.K H p x):(NK.Ez (NK.optKind X.prog X.w)).is s.heap p x:=by
 obtain⟨b,e1,e2⟩:=e;obtain⟨_,ag,r,o,h1,h2,n,h3⟩:=(show ObjOk X.prog X.w H s.heap x (.tup [oV p.1,.ref b]) from I.hok x _ e1);obtain⟨us,ru,⟨o2,g1,g2,n2,g3⟩,_⟩:=I.tuple e2;cases r with
 | @cons _ v _ _ r1 r =>
  cases r with
  | @cons _ v2 _ _ r2 r =>
   cases r;cases r2;exact⟨o,_,n,v,b,h1,h2,h3,rfl,AFs r1,o2,us.toArray,n2,g1,g2,g3,by simpa using oV_items ru⟩
def Xy{af:List (OKey×V)}(I:Inv X aa σ H s)(d:DO X.K X.prog X.w H a af):af.length<=sizeLine/\(a==Eg)=false/\∃xs,H a=uA (dO X.prog X.w a xs)/\KO X.K H af xs/\s.heap.DictOfH (NK.Ez (NK.optKind X.prog X.w)) a xs:=by
 obtain⟨z,y,xs,e,r⟩:=d;obtain⟨⟨o,es,ep,h1,h2,h3,h4,h5⟩,_⟩:=(show ObjOk X.prog X.w H s.heap a (dO X.prog X.w a xs) from I.hok a _ e);refine⟨z,y,xs,e,r,o,es,ep,h1,h2,h3,h4,λx hx=>?_,h5⟩;obtain⟨i,hi⟩:=DD.mp hx;obtain⟨p,_,e1,e2,_⟩:=Paired.get r hi;rw[<- e1];exact Jg I e2
def ACc{xs:List (OKey×Addr×AA)}(d:h.DictOfH (NK.Ez (NK.optKind P w)) a xs):ObjOk P w H' h a (dO P w a xs):=by
 obtain⟨o,es,ep,h1,h2,h3,h4,_,h5⟩:=d;refine⟨⟨o,es,ep,h1,h2,h3,h4,h5⟩,⟨o,h1⟩,by rintro g1 g2 ⟨o',bn,i5,z1,z2⟩ st;exact⟨o',bn,i5,st _ z1,z2⟩⟩
def OGet(K:As)(P:AM)(w:AS)(H:Hp)(a:Addr)(y:V)(r:Option V):Prop:=∃af p x,DO K P w H a af/\y=.ref x/\OAt K H p x/\valV af p=r
def AGr{r:Option V}(I:Inv X aa σ H s)(g:OGet X.K X.prog X.w H a y r):s.TypeIs (.ref a) "dict":=by
 obtain⟨af,p,x,d,_⟩:=g;obtain⟨_,_,xs,_,_,dd⟩:=Xy I d;exact dd.typeIs
def ZL(hu:A.units+2<C2)(I:Inv X aa σ H s)(g:OGet X.K X.prog X.w H a y (uA v))(ry:RelV y u)(q:∀w' s',Inv X aa σ H s'->RelV v w'->Q w' s'):wpAny (AN X.prog X.w) A (OS (.ref a) u) Q E s:=by
 obtain⟨af,p,x,d,rfl,k,l⟩:=g;cases (show u=A9 x from ry);obtain⟨z,hd,xs,e,b4,dd⟩:=Xy I d;obtain⟨w',hw,eK⟩:=ue (v:=v) (o:=(JY xs p).map (·.2)) (by rw[<- l];exact b4.val p);obtain⟨pv,hp,kA⟩:=J5.mp hw;refine SK (knd:=NK.Ez (NK.optKind X.prog X.w)) (k:=p) (by show A.units+1+1<C2;exact vS hu) (Jg I k) dd hp ?_;rw[kA];exact q w' _ (I.tok _) eK
def AEl{r:Option V}(hu:A.units+2<C2)(I:Inv X aa σ H s)(g:OGet X.K X.prog X.w H a y r)(ry:RelV y u)(q:∀s',Inv X aa σ H s'->Q (.bool (!r.isSome)) s'):wpAny (AN X.prog X.w) A (D8 .NotIn u (.ref a)) Q E s:=by
 obtain⟨af,p,x,d,rfl,k,l⟩:=g;cases (show u=A9 x from ry);obtain⟨z,hd,xs,e,b4,dd⟩:=Xy I d;refine VM (knd:=NK.Ez (NK.optKind X.prog X.w)) (k:=p) (by show A.units+1+1<C2;exact vS hu) (Jg I k) hd dd ?_;have c:=(b4.val p).isSome_eq;rw[L3] at c;rw[<- c,l];exact q _ (I.tok _)
def AAi{r:AA}{af:List (OKey×V)}{p:OKey}{x:Addr}{Q:Unit->AC->Prop}(hu:A.units+2<C2)(I:Inv X aa σ H s)(d:DO X.K X.prog X.w H a af)(ey:y=.ref x)(k:OAt X.K H p x)(new:valV af p=uB)(hl:af.length<sizeLine)(ry:RelV y u)(rv:RelV v r)
  (q:∀(H':Hp) s',(∀b,b≠a->H' b=H b)->DO X.K X.prog X.w H' a (putK af p v)->Inv X aa σ H' s'->Q () s'):wpAny (AN X.prog X.w) A (VS (.ref a) u r) Q E s:=by
 subst ey;cases (show u=A9 x from ry);obtain⟨z,hd,xs,e,b4,dd⟩:=Xy I d;have hz:xs.length<=sizeLine:=by rw[<- AY b4];exact z
 refine SL (hsz:=hz) (knd:=NK.Ez (NK.optKind X.prog X.w)) (k:=p) (by show A.units+1+1<C2;exact vS hu) (Jg I k) dd λh' kQ hs=>?_;have he:∃o,h'.get? a=uA o:=by obtain⟨o,_,_,ho,_⟩:=kQ;exact⟨o,ho⟩
 have tE:TSm H (upd H a (dO X.prog X.w a (S8 xs p x r))):=λb u hb t=>by
  rw[Ah (λz=>by
   rw[z,e] at hb;cases hb;obtain⟨ys,e| ⟨o,e⟩⟩:=t
   .cases e
   .cases e)]
  exact hb
 refine q (upd H a (dO X.prog X.w a (S8 xs p x r))) _ (λb hb=>Ah hb) ⟨?_,hd,_,Ab,ut (λ_ _ c=>⟨c.1,c.2.1.ts tE,c.2.2⟩) (KO.put b4 k rv new)⟩ (Kv I (by rw[e];exact IC) hs he (ACc kQ));rw[JC v new,BF,EK];exact hl
def AFz(K:As)(P:AM)(w:AS):TE:=λ_ H Q=>∀p,H p=none->DO K P w (upd H p (dO P w p [])) p []->Q (.ref p) (upd H p (dO P w p []))
def AHX(K:As)(P:AM)(w:AS)(td ty:TE):TE:=λσ H Q=>td σ H λx H1=>ty σ H1 λy H2=>∃a v,x=.ref a/\OGet K P w H2 a y (uA v)/\Q v H2
def ADx(K:As)(P:AM)(w:AS)(ty td:TE):TE:=λσ H Q=>ty σ H λy H1=>td σ H1 λx H2=>∃a r,x=.ref a/\OGet K P w H2 a y r/\Q (.bl (!r.isSome)) H2
def AHg(K:As)(P:AM)(w:AS)(td ty tv:TE):TS:=λD σ H=>tv σ H λv H1=>td σ H1 λx H2=>ty σ H2 λy H3=>∃a af p b,x=.ref a/\y=.ref b/\DO K P w H3 a af/\OAt K H3 p b/\valV af p=uB/\af.length<sizeLine /\
 ∀H4,(∀c,c≠a->H4 c=H3 c)->DO K P w H4 a (putK af p v)->D.nx σ H4
section
variable{o i:Expr}{ty:TE}
def ACe:PE X (.Dict [] [] pos) (AFz X.K X.prog X.w):=λaa s σ H Q I h=>by
 have hn:=I.hok.fresh (AF s.heap.objs.size);have ns:(s.heap.objs.size==Eg)=false:=beq_eq_false_iff_ne.mpr (Bi (BY I.big));refine wpAny_Dict_empty ⟨.ref s.heap.objs.size,_,I.laid (a:=s.heap.objs.size) (o:=dO X.prog X.w s.heap.objs.size []) (t':=s.toks) (λ_ _ q=>AL _ q) (AF _) (ACc (ZA _)),rfl,h _ hn ⟨By _,ns,[],Ab,.nil⟩⟩
def AFI(hu:X.A.units+2<C2)(ho:PE X o td)(hi:PE X i ty)(hs:NoSl i):PE X (.Subscript o i pos) (AHX X.K X.prog X.w td ty):=by
 intro aa s σ H Q I h;refine YL OM.lookup hs (thn (ho aa s σ H _ I h) λu s1 ⟨x,H1,I1,rx,q1⟩=>thn (hi aa s1 σ H1 _ I1 q1) λiv s2 hq=>?_);obtain⟨y,H2,I2,ry,a,v,ex,g,q2⟩:=hq;subst ex;obtain rfl:u=A9 a:=rx;exact⟨AGr I2 g,ZL hu I2 g ry λw' s3 I3 eK=>⟨v,H2,I3,eK,q2⟩⟩
def AAm(hu:X.A.units+2<C2)(hi:PE X i ty)(ho:PE X o td):PC X .NotIn i o (ADx X.K X.prog X.w ty td):=by
 intro aa s σ H Q I h;refine thn (hi aa s σ H _ I h) λiv s1 ⟨y,H1,I1,ry,q1⟩=>thn (ho aa s1 σ H1 _ I1 q1) λu s2 hq=>?_;obtain⟨x,H2,I2,rx,a,r,ex,g,q2⟩:=hq;subst ex;obtain rfl:u=A9 a:=rx;exact AEl hu I2 g ry λs3 I3=>⟨.bl (!r.isSome),H2,I3,rfl,q2⟩
def AFH(hu:X.A.units+2<C2)(ho:PE X o td)(hi:PE X i ty)(hv:PE X a5 tv)(hs:MD a5 (uA (.Subscript o i bh)) pos.line X.env=pure false):PS X (.Assign [.Subscript o i bh] a5 pos) (AHg X.K X.prog X.w td ty tv):=by
 intro aa s σ H D I h;refine P9 (thn (hv aa s σ H _ I h) λr s1 ⟨v,H1,I1,rv,q1⟩=>thn (ho aa s1 σ H1 _ I1 q1) λu s2 ⟨x,H2,I2,rx,q2⟩=>thn (hi aa s2 σ H2 _ I2 q2) λiv s3 hq=>?_) hs;obtain⟨y,H3,I3,ry,a,af,p,b,ex,ey,d,k,new,hl,q3⟩:=hq;subst ex;obtain rfl:u=A9 a:=rx;exact AAi hu I3 d ey k new hl ry rv λH4 s4 oth d4 I4=>⟨σ,H4,I4,q3 H4 oth d4⟩
end
end L2
namespace K31
open PySem L2
def top(i:Nat):Stmt:=J6.main.body.getD i (.Pass ⟨0,0,0,0⟩)
abbrev NQ:Stmt:=inClass (top 23) 0
abbrev ADW:Stmt:=inClass (top 23) 1
abbrev ACm:Stmt:=inClass (top 23) 2
abbrev sAt:Stmt:=inClass (top 23) 3
abbrev AGp:Stmt:=top 24
abbrev AGA:Stmt:=top 25
abbrev AGY:Stmt:=top 26
abbrev Rf:Stmt:=top 27
abbrev XF:Stmt:=top 28
abbrev AEa:Stmt:=top 29
abbrev Qm:Stmt:=top 30
abbrev Ka:Stmt:=top 31
abbrev Ks:Stmt:=top 32
abbrev Wf:Stmt:=top 15
abbrev Kz:Stmt:=top 17
abbrev QJ:Stmt:=inClass (top 16) 0
abbrev Ku:Stmt:=inClass (top 16) 1
abbrev ADH:Stmt:=inClass (top 16) 2
abbrev ABu:Stmt:=inClass (top 19) 3
abbrev Wb:Stmt:=inClass (top 35) 1
abbrev Jc:Stmt:=inClass (top 35) 2
abbrev ABn:Stmt:=inClass (top 35) 3
abbrev Kf:Stmt:=inClass (top 35) 4
abbrev AGW:Stmt:=inClass (top 35) 5
abbrev Xb:Stmt:=inClass (top 36) 0
abbrev Rv:Stmt:=inClass (top 36) 1
abbrev Qz:Stmt:=inClass (top 36) 2
abbrev Qn:Stmt:=inClass (top 36) 3
abbrev ADS:Stmt:=top 37
abbrev Qs:Stmt:=top 38
abbrev YW:Stmt:=top 39
abbrev AAz:Stmt:=top 41
abbrev AGK:Stmt:=top 42
abbrev RK:Stmt:=top 43
abbrev ABb:Stmt:=top 44
abbrev YT:Stmt:=top 45
abbrev QW:Stmt:=top 46
abbrev RM:Stmt:=top 47
abbrev ACQ:Stmt:=top 48
abbrev Gs:Stmt:=top 49
abbrev YF:Stmt:=top 50
abbrev Rj:Stmt:=top 51
abbrev QL:Stmt:=top 52
def ja:¬ (("amount" : Str) = "joints"):=by decide+kernel
def flds(z:Int)(j:Addr):List (Str×V):=putF "joints" (.ref j) (putF "amount" (.int z) [])
def HJ(z:Int)(j:Addr):(flds z j).lookup ("amount" : Str)=uA (.int z):=by
 unfold flds;rw[Aj,uC ja,Aj,uD rfl]
def KJ(z:Int)(j:Addr):(flds z j).lookup ("joints" : Str)=uA (.ref j):=by
 unfold flds;rw[Aj,uD rfl]
def Yw(z:Int)(j:Addr){m:Str}(h1:¬ m = "joints")(h2:¬ m = "amount"):(flds z j).lookup m=uB:=by
 unfold flds;rw[Aj,uC h1,Aj,uC h2]
 all_goals rfl
structure Txt(K:As)(mg:Str->Option AA)(C:Addr):Prop where
 cl:Cls K C
 nA:NoAttr K C "amount"
 nJ:NoAttr K C "joints"
 mgC:mg "Web" = uA (.ref C)
 mp:∃t,mg "MOST_POINTS" = uA (.int 10 t)
 mt:∃t,mg "MOST_TIES" = uA (.int 12 t)
 len:mg "len" = uB
 range:mg "range" = uB
 int:mg "int" = uB
 max:mg "max" = uB
 min:mg "min" = uB
 sorted:mg "sorted" = uB
 tuple:mg "tuple" = uB
 list:mg "list" = uB
 bool:mg "bool" = uB
 enum:mg "enumerate" = uB
 isi:mg "isinstance" = uB
def WebAt(K:As)(C:Addr)(H:Hp)(p:Addr)(z:Int)(as:uJ):Prop:=∃dx j,H p=uA (.ins C dx (flds z j))/\rTup K (rPair K) H as (.ref j)
def WebAt.same{z:Int}(h:WebAt K C H p z as)(e:Same H H'):WebAt K C H' p z as:=by
 obtain⟨dx,j,h1,h2⟩:=h;exact⟨dx,j,e _ _ h1,Aq (Aq Aw) _ _ _ _ e.ts h2⟩
def ACz(K:As):Sp:=λvs H Q _=>∃(a:Addr) (ns:uI) (k:Int),vs=[.ref a,.int k]/\SqL K H a (ns.map V.int)/\0<=k/\∀c:Int,Q (.int c) H
def AFu:Sp:=λvs H Q _=>∃(p t:Int),vs=[.int p,.int t]/\1<=p/\p<=10/\0<=t/\t<=12/\Q .non H
def AFr(K:As):Sp:=λvs H Q _=>∃(m a b:Int) (t:Addr),vs=[.int m,.ref t]/\SqT K H t [.int a,.int b]/\0<=a/\a<b/\b<m/\Q .non H
def AFx(K:As):Sp:=λvs H Q _=>∃(m:Int) (l:Addr) (xs:List V) (as:uJ),vs=[.int m,.ref l]/\SqL K H l xs/\BN (rSeq K H) as xs/\OkTies m as/\as.length<=12 /\
 ∀(j:Addr) (H':Hp),Same H H'->rTup K (rPair K) H' (as.map srt) (.ref j)->Q (.ref j) H'
def Jv(K:As)(C:Addr):Sp:=λvs H Q _=>∃(p dx l:Addr) (m:Int) (xs:List V) (as:uJ),vs=[.ref p,.int m,.ref l]/\H p=uA (.ins C dx [])/\SqL K H l xs/\BN (rSeq K H) as xs/\OkTies m as/\as.length<=12/\1<=m/\m<=10 /\
 ∀(H':Hp),(∀b o,H b=uA o->b≠p->H' b=uA o)->WebAt K C H' p m (as.map srt)->Q .non H'
def Ik(K:As)(C:Addr):Sp:=λvs H Q _=>∃(p:Addr) (m:Int) (as:uJ),vs=[.ref p]/\WebAt K C H p m as/\Q (.int m) H
def RJ(K:As)(C:Addr):Sp:=λvs H Q _=>∃(p:Addr) (m:Int) (as:uJ),vs=[.ref p]/\WebAt K C H p m as/\∀(l:Addr) (H':Hp),Same H H'->H l=none->rLst K (rPair K) H' as (.ref l)->Q (.ref l) H'
def AHG(K:As)(C:Addr):Sp:=λvs H Q _=>∃(p:Addr) (m x:Int) (as:uJ),vs=[.ref p,.int x]/\WebAt K C H p m as/\as.length<=12 /\
 ∀(l:Addr) (H':Hp),Same H H'->H l=none->H' l=uA (.lst ((hits x as).map V.int))->Q (.ref l) H'
def Tw(K:As):Sp:=λvs H Q _=>∃(a:Addr) (ns:uI),vs=[.ref a]/\SqL K H a (ns.map V.int)/\ns.length<=63/\∀H',Q (.bl true) H'
def AHh:FnScope zl0 zl0 (Ae AGp):=fscp (by decide+kernel)
def AHQ(F:Fun K "refuse_amounts" "refuse_amounts" AGp f fd)(T:Txt K mg C):FnOk P w K mg base CX0 1 f fd zl0 AFu:=by
 refine F.ok AHh (λvs H Q E h=>?_) (λa7 A outer s H vs Q E hr h=>?_)
 .obtain⟨p,t,rfl,_⟩:=h
  rfl
 obtain⟨p,t,rfl,h1,h2,h3,h4,q⟩:=h;obtain⟨t1,e1⟩:=T.mp;obtain⟨t2,e2⟩:=T.mt;refine⟨_,Ad (Bl (ud (Fd (Am Px (pv 0) Af) (Ek (Am Yh (pv 0) (Gn (v:=.int 10) rfl e1 ⟨t1,rfl⟩))))) Dv BK)
  (Ag (Bl (Am Yh (pv 1) (Gn (v:=.int 12) rfl e2 ⟨t2,rfl⟩)) Dv BK)),?_⟩
 refine⟨_,rfl,_,_,rfl,rfl,_,rfl,?_⟩;refine iteN (vG h1) ?_;refine⟨_,rfl,_,_,rfl,rfl,_,rfl,?_⟩;refine iteN (vG h2) ?_;refine⟨_,rfl,_,_,rfl,rfl,_,rfl,?_⟩;refine iteN (vG h4) ?_;exact q
def AHs:FnScope zl1 zl1 (Ae AGY):=fscp (by decide+kernel)
def at0{a b:V}:atI [a,b] 0=uA a:=rfl
def at1{a b:V}:atI [a,b] 1=uA b:=rfl
def AGS(F:Fun K "refuse_points" "refuse_points" AGY f fd):FnOk P w K mg base CX0 1 f fd zl1 (AFr K):=by
 refine F.ok AHs (λvs H Q E h=>?_) (λa7 A outer s H vs Q E hr h=>?_)
 .obtain⟨m,a,b,t,rfl,_⟩:=h
  rfl
 obtain⟨m,a,b,t,rfl,hT,h0,h1,h2,q⟩:=h;refine⟨_,Ad (Bl (ud (Fd (Am Px (Ay Bc (pv 1) Af) Af) (Ek (Am AFo (Ay Bc (pv 1) Af) (pv 0))))) Dv BK)
  (Ag (Bl (Am Cp (Ay Bc (pv 1) Af) (Ay Bc (pv 1) Af)) Dv BK)),?_⟩
 refine⟨_,rfl,t,_,_,_,rfl,rfl,hT,at0,_,_,rfl,rfl,_,rfl,?_⟩;refine iteN (vG h0) ?_;refine⟨_,rfl,t,_,_,_,rfl,rfl,hT,at1,_,rfl,_,_,rfl,rfl,_,rfl,?_⟩;refine iteN (by lia) ?_;refine⟨_,rfl,t,_,_,_,rfl,rfl,hT,at0,_,rfl,t,_,_,_,rfl,rfl,hT,at1,rfl,_,rfl,?_⟩;refine iteN (λe=>?_) q;have:=V.int.inj e;lia
def YB:FnScope ["many","ties","checked","handed","tie"] zl21 (Ae AGA):=fscp (by decide+kernel)
def AHJ(F:Fun K "checked_ties" "checked_ties" AGA f fd)(T:Txt K mg C)(GP:Cal P w K mg base 1 fP ie "refuse_points" zl1 (AFr K)) :
  FnOk P w K mg base CX0 2 f fd zl21 (AFx K):=by
 refine F.ok YB (λvs H Q E h=>?_) (λa7 A outer s H vs Q E hr h=>?_)
 .obtain⟨m,l,xs,as,rfl,_⟩:=h
  rfl
 obtain⟨m,l,xs,as,rfl,hS,pa,ok,gV,q⟩:=h;refine⟨_,Ad (Ak (i:=2) YB.nd (Cu Ac))
  (Ad (Cv CY rfl (CQ (pv 1)) (BP (i:=3) YB.nd)
   (Ad (Ak (i:=4) YB.nd (BX CT rfl T.tuple De (Aa (Ax KN rfl T.sorted LH (Aa (pv 3) Ac)) Ac)))
   (Ad (Ck (BL GP hr rfl (Aa (pv 0) (Aa (pv 4) Ac))))
   (Ad (Bl (Am (ACo (Gp DX) (CN hr)) (pv 4) (pv 2) rfl) Dv BK)
   (Ag (Ck (Ih Do EN EO Dd (pv 2) (Aa (pv 4) Ac))))))))
  (Ag (Ao (BX CT rfl T.tuple De (Aa (pv 2) Ac))))),?_⟩
 refine⟨By _,λc hc=>?_⟩;have lx:=AY pa;refine⟨_,rfl,l,rfl,⟨_,(uw hc _).seq hS⟩,Ej (K:=K) (a:=l) (xs:=xs) (λi σ H2=>∃(hv tv:Option V) (ys:List V),σ=[uA (.int m),uA (.ref l),uA (.ref c),hv,tv]/\Same H H2/\H2 c=uA (.lst ys)/\BN (rPair K H2) ((as.take i).map srt) ys)
  ⟨uB,uB,[],rfl,uw hc _,Ab,.nil⟩ (by rintro i σ H2 _ ⟨_,_,_,_,sm,_⟩;exact sm.seq hS) ?_ ?_⟩
 .rintro i x σ H2 hx ⟨hv,tv,ys,rfl,sm,hC,pc⟩
  obtain⟨t,ht,rt0⟩:=Paired.get pa hx;obtain⟨p,rfl,hp⟩:=ACl rt0;obtain⟨a,b,rfl,a0,a1,b0,b1,nab⟩:=ok.ok t (AT ht);have kA:SqL K H2 p ([a,b].map V.int)\/SqT K H2 p ([a,b].map V.int):=hp.elim (λz=>.inl (sm.seq z)) λz=>.inr (sm.ts.seq z);refine⟨_,rfl,p,[a,b],rfl,kA,(by show 2<64;decide),λl1 ms du perm pw=>?_⟩;have em:=Zb perm pw;subst em;refine⟨l1,_,rfl,.inl ⟨uj Ab,λt1 mN=>?_⟩⟩;have hT:(upd (upd H2 l1 (.lst ((srt [a,b]).map V.int))) t1 (.tup ((srt [a,b]).map V.int))) t1=uA (.tup ((srt [a,b]).map V.int)):=Ab;have s1:Same H2 (upd (upd H2 l1 (.lst ((srt [a,b]).map V.int))) t1 (.tup ((srt [a,b]).map V.int))):=(uw du _).trans (uw mN _);generalize hH3:upd (upd H2 l1 (.lst ((srt [a,b]).map V.int))) t1 (.tup ((srt [a,b]).map V.int))=H3 at hT s1 ⊢;have aw:(srt [a,b]).length=2:=by rw[FQ];split<;>rfl
  have pts:∃u v:Int,srt [a,b]=[u,v]/\0<=u/\u<v/\v<m:=by
   rw[FQ];split
   .exact⟨b,a,rfl,b0,by lia,a1⟩
   .exact⟨a,b,rfl,a0,by lia,b1⟩
  obtain⟨u,v,euv,u0,uv,vm⟩:=pts;have hT2:SqT K H3 t1 [.int u,.int v]:=by
   have e:=uk (K:=K) hT;rw[euv] at e;exact e
  refine⟨_,rfl,_,rfl,m,u,v,t1,rfl,hT2,u0,uv,vm,?_⟩;have hC3:=s1 _ _ hC;have tP:=ut (λa b=>Aq Aw H2 H3 a b s1.ts) pc;have rt:rPair K H3 (srt [a,b]) (.ref t1):=GZ hT;refine⟨_,rfl,_,rfl,_,_,rt,.inl ⟨c,ys,rfl,uj hC3,tP⟩,_,rfl,?_⟩;refine iteN (ok.take_new ht) ?_;have hys:ys.length<=12:=by
   rw[<- AY pc,AB,B4];exact ww gV
  refine⟨_,rfl,.inl ⟨rfl,_,uj hC3⟩,_,rfl,c,ys,_,rfl,rfl,hC3,Az (we hys),?_⟩;refine⟨_,_,_,rfl,(sm.trans s1).put hc _,Ab,?_⟩
  .have e:as.take (i+1)=as.take i++[[a,b]]:=by rw[D9,ht];rfl
   rw[e,BG,JU];have ts:TSm H3 (upd H3 c (.lst (ys++[.ref t1]))):=ur hC3;exact uo (ut (λa b=>Aq Aw H3 _ a b ts) tP) (uq (Aq Aw H3 _ _ _ ts rt))
 .rintro σ H2 ⟨hv,tv,ys,rfl,sm,hC,pc⟩
  rw[<- lx,CU] at pc;refine⟨_,rfl,c,_,rfl,.inl ⟨uj hC,λj hj=>?_⟩⟩;refine q j _ (sm.trans (uw hj _)) ⟨j,ys,rfl,uk Ab,?_⟩;exact ut (λa b=>Aq Aw H2 _ a b (TSm.new hj)) pc
def Wt:FnScope zl2 zl2 (Ae NQ):=fscp (by decide+kernel)
def JL(F:Fun K "__init__" "Web.__init__" NQ f fd)(T:Txt K mg C)
  (GA:Cal P w K mg base 1 fA e7 "refuse_amounts" zl0 AFu)
  (GC:Cal P w K mg base 2 fC sZ "checked_ties" zl21 (AFx K)) :
  FnOk P w K mg base CX0 3 f fd zl2 (Jv K C):=by
 refine F.ok Wt (λvs H Q E h=>?_) (λa7 A outer s H vs Q E hr h=>?_)
 .obtain⟨p,dx,l,m,xs,as,rfl,_⟩:=h
  rfl
 obtain⟨p,dx,l,m,xs,as,rfl,hP,hS,pa,ok,gV,h1,h10,q⟩:=h;have lx:=AY pa;refine⟨_,Ad (Ck (BL GA (hr.mono (by decide)) rfl (Aa (pv 1) (Aa (Ax Av rfl T.len CI (Aa (pv 2) Ac)) Ac))))
  (Ad (El (pv 0) (pv 1) rfl)
  (Ag (El (pv 0) (BL GC hr rfl (Aa (pv 1) (Aa (pv 2) Ac))) rfl))),?_⟩
 refine⟨_,rfl,_,rfl,l,_,rfl,.inl hS,m,_,rfl,h1,h10,fv,by lia,?_⟩;refine⟨_,rfl,_,rfl,p,C,dx,[],rfl,hP,T.cl,T.nA,(by decide),?_⟩;have ts:TSm H (upd H p (.ins C dx (putF "amount" (.int m) []))):=λb u hb t=>by
  rw[Ah ?_]
  .exact hb
  .rintro rfl
   rw[hP] at hb;cases hb;obtain⟨ys,e| ⟨o,e⟩⟩:=t
   .cases e
   .cases e
 have sl:∀{a:Addr}{zs:List V},SqL K H a zs->SqL K (upd H p (.ins C dx (putF "amount" (.int m) []))) a zs:=λ{a zs} h=>by
  rcases h with(h| ⟨o,h⟩)| h
  .exact .inl (.inl (by rw[Ah (DP h hP (by intro z;cases z))];exact h))
  .exact .inl (.inr ⟨o,by rw[Ah (DP h hP (by intro z;cases z))];exact h⟩)
  .exact .inr h
 have pa':BN (rSeq K (upd H p (.ins C dx (putF "amount" (.int m) [])))) as xs:=ut (λt x h=>by
  rcases h with⟨q,zs,rfl,hq,pz⟩| h
  .exact .inl ⟨q,zs,rfl,sl hq,pz⟩
  .exact .inr (Aq Aw _ _ _ _ ts h)) pa
 refine⟨_,rfl,_,rfl,m,l,xs,as,rfl,sl hS,pa',ok,gV,λj H' sm rj=>?_⟩;have nX:=sm _ _ Ab;refine⟨_,rfl,p,C,dx,_,rfl,nX,T.cl,T.nJ,(by show 1<1000;decide),?_⟩;refine q _ (λb o e hb=>?_) ⟨dx,j,Ab,?_⟩
 .rw[Ah hb]
  exact sm _ _ (by rw[Ah hb];exact e)
 .refine Aq (Aq Aw) _ _ _ _ (λb u hb t=>?_) rj
  rw[Ah ?_]
  .exact hb
  .rintro rfl
   rw[nX] at hb;cases hb;obtain⟨ys,e| ⟨o,e⟩⟩:=t
   .cases e
   .cases e
def scSize:FnScope zl3 zl3 (Ae ADW):=fscp (by decide+kernel)
def AEI(F:Fun K "size" "Web.size" ADW f fd)(T:Txt K mg C):FnOk P w K mg base CX0 1 f fd zl3 (Ik K C):=by
 refine F.ok scSize (λvs H Q E h=>?_) (λa7 A outer s H vs Q E hr h=>?_)
 .obtain⟨p,m,as,rfl,_⟩:=h
  rfl
 obtain⟨p,m,as,rfl,⟨dx,j,hP,hj⟩,q⟩:=h;refine⟨_,Ag (Ao (Bg (pv 0) rfl)),?_⟩;exact⟨_,rfl,p,C,dx,_,_,rfl,hP,T.cl,T.nA,HJ _ _,q⟩
def AGM:FnScope zl3 zl3 (Ae ACm):=fscp (by decide+kernel)
def AEs(F:Fun K "ties" "Web.ties" ACm f fd)(T:Txt K mg C):FnOk P w K mg base CX0 1 f fd zl3 (RJ K C):=by
 refine F.ok AGM (λvs H Q E h=>?_) (λa7 A outer s H vs Q E hr h=>?_)
 .obtain⟨p,m,as,rfl,_⟩:=h
  rfl
 obtain⟨p,m,as,rfl,⟨dx,j,hP,j',xs,ej,hj,pj⟩,q⟩:=h;cases ej;refine⟨_,Ag (Ao (BX Dp rfl T.list EG (Aa (Bg (pv 0) rfl) Ac))),?_⟩;refine⟨_,rfl,p,C,dx,_,_,rfl,hP,T.cl,T.nJ,KJ _ _,j,xs,rfl,.inr hj,λl hl=>?_⟩;refine q l _ (uw hl _) hl ⟨l,xs,rfl,uj Ab,?_⟩;exact ut (λa b=>Aq Aw H _ a b (TSm.new hl)) pj
def AIB:FnScope zl4 zl4 (Ae sAt):=fscp (by decide+kernel)
def AHp(F:Fun K "at" "Web.at" sAt f fd)(T:Txt K mg C):FnOk P w K mg base CX0 1 f fd zl4 (AHG K C):=by
 refine F.ok AIB (λvs H Q E h=>?_) (λa7 A outer s H vs Q E hr h=>?_)
 .obtain⟨p,m,x,as,rfl,_⟩:=h
  rfl
 obtain⟨p,m,x,as,rfl,⟨dx,j,hP,j',xs,ej,hj,pj⟩,gV,q⟩:=h;cases ej;refine⟨_,Ag (Ao (Bp (Ae sAt) ["number","tie"] ["point"] [1] rfl rfl (by decide+kernel) ⟨⟨rfl,by decide+kernel⟩,trivial⟩ (Ut rfl T.enum (Aa (Bg (pv 0) rfl) Ac))
  (λ_ _ _=>Gh (K:=K) (n:=2) rfl rfl (BW (BJ (i:=0)) (BW (BJ (i:=1)) DK)))
  (λ_ _ _=>Br (Am (Ey (K:=K) rfl) (pv 2) (pv 1) rfl))
  (λ_ _ _=>pv 0))),?_⟩
 refine⟨_,rfl,p,C,dx,_,_,rfl,hP,T.cl,T.nJ,KJ _ _,j,rfl,⟨_,hj⟩,λD hD=>?_⟩;have lx:=AY pj;refine FP (xs:=xs) (λi τ H2=>∃n t:Option V,τ=[n,t,uA (.int x)]/\Same H H2/\H2 D=uA (.lst ((hits x (as.take i)).map V.int))) ⟨uB,uB,rfl,uw hD _,Ab⟩
  (by rintro i τ H2 _ ⟨_,_,_,sm,_⟩;exact sm.ts.seq hj) ?_ ?_
 .rintro i y τ H2 T1 hy dL ⟨n,t,rfl,sm,cS⟩
  obtain⟨tie,ht,rt⟩:=Paired.get pj hy;obtain⟨q1,rfl,kT⟩:=CG rt;have s1:Same H2 (upd H2 T1 (.tup [.int i,.ref q1])):=uw dL _;refine⟨T1,_,rfl,uk Ab,rfl,_,_,rfl,_,_,rfl,rfl,?_⟩;refine⟨_,rfl,_,rfl,q1,_,rfl,.inr (s1.ts.seq (sm.ts.seq kT)),rfl,?_,_,rfl,?_⟩
  .simp[flatV]
  .rw[uC (by decide),CZ]
   have js:=s1 _ _ cS;have a8:=(AG.mp ht).1;refine ite2 (λc=>?_) (λc=>?_)
   .have c':=uG c
    refine⟨_,rfl,_,js,?_,_,_,rfl,(sm.trans s1).put hD _,?_⟩
    .have:(hits x (as.take i)).length<=(as.take i).length:=Je x 0 (as.take i)
     rw[AB];rw[B4] at this;exact Az (x9 this gV)
    .rw[Ab,Oa ht,uD c',BG]
     rfl
   .have c':¬ x∈tie:=λz=>c (uE z)
    refine⟨_,_,rfl,sm.trans s1,?_⟩;rw[js,Oa ht,uC c',Cc]
 .rintro τ H2 ⟨n,t,rfl,sm,cS⟩
  rw[<- lx,CU] at cS;exact q D H2 sm hD cS
end K31
namespace G
abbrev Row:=Nat×Nat×Nat
def Low(rows:List Row)(t k l:Nat):Prop:=l<k/\(l<=1\/∃r,rows[l-2]?=uA r/\t<r.1)
def Ok(n:Nat)(rows:List Row):Prop:=∀(i:Nat) (r:Row),rows[i]?=uA r->r.1<n/\Low rows r.1 (i+2) r.2.1/\Low rows r.1 (i+2) r.2.2
structure Least(n:Nat)(rows:List Row):Prop where
 ok:Ok n rows
 pos:∀(i:Nat) (r:Row),rows[i]?=uA r->r.2.2≠0
 one:∀(i j:Nat) (r:Row),rows[i]?=uA r->rows[j]?=uA r->i=j
noncomputable def rank(n:Nat)(rows:List Row)(k:Nat):Nat:=if k<2 then n+1-k else(rows.getD (k-2) (0,0,0)).1
noncomputable def ledF(rows:List Row):Nat->Nat->uL->Bool
 | 0,_,_=>false
 | f+1,k,s=>if k<=1 then decide (k=1/\s=[]) else
  let r:=rows.getD (k-2) (0,0,0)
  match s with
  | []=>ledF rows f r.2.1 []
  | x::xs=>if x<r.1 then false else if x=r.1 then ledF rows f r.2.2 xs else ledF rows f r.2.1 (x::xs)
def led(rows:List Row)(k:Nat)(s:uL):Bool:=ledF rows (k+1) k s
def Knot(rows:List Row)(k:Nat):Prop:=k<rows.length+2
section
variable{rows:List Row}
def BZ{k:Nat}(h:Knot rows k)(h2:2<=k):rows[k-2]?=uA (rows.getD (k-2) (0,0,0)):=by
 have:k-2<rows.length:=by unfold Knot at h;exact vY h h2
 rw[AI this,AD,AI this];rfl
def Ok.low(o:Ok n rows){r:Row}(h:rows[i]?=uA r):r.1<n/\r.2.1<i+2/\r.2.2<i+2/\r.1<rank n rows r.2.1/\r.1<rank n rows r.2.2/\Knot rows r.2.1/\Knot rows r.2.2:=by
 obtain⟨h1,h2,h3⟩:=o i r h;have hi:=(AG.mp h).1;have rk:∀l,Low rows r.1 (i+2) l->r.1<rank n rows l/\Knot rows l:=by
  intro l hl;obtain⟨a,b⟩:=hl;refine⟨?_,by unfold Knot;lia⟩;unfold rank;by_cases c:l<2
  .rw[uD c];lia
  .rw[uC c]
   rcases b with b| ⟨r',e,z⟩
   ·lia
   .rw[AD,e];exact z
 exact⟨h1,h2.1,h3.1,(rk _ h2).1,(rk _ h3).1,(rk _ h2).2,(rk _ h3).2⟩
def AAX(o:Ok n rows):∀(f k:Nat) (s:uL),k<f->Knot rows k->ledF rows (f+1) k s=ledF rows f k s:=by
 intro f
 induction f with
 | zero=>intro k s h;lia
 | succ f ih =>
  intro k s hk kn;unfold ledF;by_cases c:k<=1
  .rw[uD c,uD c]
  rw[uC c,uC c];obtain⟨h1,h2,h3,_,_,k1,k2⟩:=o.low (BZ kn (u9 c));have e1:∀s,ledF rows (f+1) (rows.getD (k-2) (0,0,0)).2.1 s=ledF rows f (rows.getD (k-2) (0,0,0)).2.1 s:=λs=>ih _ _ (v7 h2 hk c) k1;have e2:∀s,ledF rows (f+1) (rows.getD (k-2) (0,0,0)).2.2 s=ledF rows f (rows.getD (k-2) (0,0,0)).2.2 s:=λs=>ih _ _ (v7 h3 hk c) k2;cases s with
  | nil=>exact e1 _
  | cons x xs =>
   show(if _ then _ else if _ then ledF rows (f+1) _ _ else ledF rows (f+1) _ _)=_;rw[e1,e2]
theorem Ke(o:Ok n rows){k:Nat}(s:uL)(kn:Knot rows k):∀d,ledF rows (k+1+d) k s=led rows k s
 | 0=>rfl
 | d+1=>by rw[show k+1+(d+1)=(k+1+d)+1 from wP,AAX o _ k s (by lia) kn,Ke o s kn d]
def Ed(s:uL):led rows 1 s=decide (s=[]):=by
 unfold led ledF;simp
def DR(s:uL):led rows 0 s=false:=by
 unfold led ledF;simp
def Dz(o:Ok n rows){k:Nat}(kn:Knot rows k)(h2:2<=k):led rows k []=led rows (rows.getD (k-2) (0,0,0)).2.1 []:=by
 obtain⟨h1,h7,h3,_,_,k1,k2⟩:=o.low (BZ kn h2);unfold led
 conv=>lhs;unfold ledF
 rw[uC (vX h2)];have:=Ke o [] k1 (k-(rows.getD (k-2) (0,0,0)).2.1-1);rw[show(rows.getD (k-2) (0,0,0)).2.1+1+(k-(rows.getD (k-2) (0,0,0)).2.1-1)=k from w9 h7 h2] at this;exact this
def Bo(o:Ok n rows){k x:Nat}{xs:uL}(kn:Knot rows k)(h2:2<=k):led rows k (x::xs) =
  if x<(rows.getD (k-2) (0,0,0)).1 then false else if x=(rows.getD (k-2) (0,0,0)).1 then led rows (rows.getD (k-2) (0,0,0)).2.2 xs else led rows (rows.getD (k-2) (0,0,0)).2.1 (x::xs):=by
 obtain⟨h1,h7,h3,_,_,k1,k2⟩:=o.low (BZ kn h2);unfold led
 conv=>lhs;unfold ledF
 rw[uC (vX h2)];have e1:=Ke o (x::xs) k1 (k-(rows.getD (k-2) (0,0,0)).2.1-1);rw[show(rows.getD (k-2) (0,0,0)).2.1+1+(k-(rows.getD (k-2) (0,0,0)).2.1-1)=k from w9 h7 h2] at e1;have e2:=Ke o xs k2 (k-(rows.getD (k-2) (0,0,0)).2.2-1);rw[show(rows.getD (k-2) (0,0,0)).2.2+1+(k-(rows.getD (k-2) (0,0,0)).2.2-1)=k from w9 h3 h2] at e2;show(if _ then _ else if _ then ledF rows k _ _ else ledF rows k _ _)=_;rw[e1,e2];rfl
def Way(n:Nat)(rows:List Row)(k:Nat)(s:uL):Prop:=led rows k s=true/\s.Pairwise (· < ·)/\∀x∈s,x<n/\rank n rows k<=x
def ABN(L:Least n rows){k:Nat}{s:uL}(kn:Knot rows k)(h2:2<=k)(w:Way n rows (rows.getD (k-2) (0,0,0)).2.2 s):Way n rows k ((rows.getD (k-2) (0,0,0)).1::s):=by
 obtain⟨w1,w2,w3⟩:=w;obtain⟨h1,h7,h3,r1,r2,k1,k2⟩:=L.ok.low (BZ kn h2);have rk:rank n rows k=(rows.getD (k-2) (0,0,0)).1:=by unfold rank;rw[uC (u6 h2)]
 refine⟨?_,?_,?_⟩
 .rw[Bo L.ok kn h2,uC vH,uD rfl];exact w1
 .exact SH (λx hx=>by have:=(w3 x hx).2;exact ux r2 this) w2
 .intro x hx
  rcases AW.mp hx with rfl| hx
  .exact⟨h1,vw rk⟩
  .have:=w3 x hx
   exact⟨this.1,by lia⟩
def ADr:Way n rows 1 []:=⟨by rw[Ed];rfl,.nil,λx hx=>nomatch hx⟩
def off(o:Ok n rows){b x:Nat}{xs:uL}(kb:Knot rows b)(h:x<rank n rows b):led rows b (x::xs)=false:=by
 unfold rank at h;by_cases c:b<2
 .have hb:b=0\/b=1:=v6 c
  rcases hb with rfl| rfl
  .exact DR _
  .rw[Ed];rfl
 .rw[uC c] at h
  rw[Bo o kb (uN c),uD h]
end
section
variable{t:Nat}{rows ae new:List Row}
def tieOf(rows:List Row)(k:Nat):Nat:=(rows.getD (k-2) (0,0,0)).1
def outOf(rows:List Row)(k:Nat):Nat:=(rows.getD (k-2) (0,0,0)).2.1
def intoOf(rows:List Row)(k:Nat):Nat:=(rows.getD (k-2) (0,0,0)).2.2
structure Closed(rows:List Row)(rc:uL):Prop where
 two:∀k∈rc,2<=k
 knot:∀k∈rc,Knot rows k
 out:∀k∈rc,outOf rows k<=1\/outOf rows k∈rc
 into:∀k∈rc,intoOf rows k<=1\/intoOf rows k∈rc
structure Kept(n t:Nat)(rows:List Row)(rc:uL)(ae:List Row)(pl:Nat->uX):Prop where
 least:Least n ae
 ge:∀r∈ae,t<=r.1
 z:pl 0=uA 0
 o:pl 1=uA 1
 has:∀k∈rc,t<=tieOf rows k->∃p,pl k=uA p/\Knot ae p/\tieOf rows k<=rank n ae p
def AAq(hn:∀k∈rc,tieOf rows k<n):Kept n n rows rc [] (λk=>if k=0 then uA 0 else if k=1 then uA 1 else uB) :=
 ⟨⟨λi r h=>by simp at h,λi r h=>by simp at h,λi j r h=>by simp at h⟩,λr h=>(nomatch h),rfl,rfl,λk hk h=>uH (hn k hk) (u6 h)⟩
def Lg{p:Nat}(h:Knot ae p):rank n (ae++new) p=rank n ae p:=by
 unfold rank;by_cases c:p<2
 .rw[uD c,uD c]
 .rw[uC c,uC c,AD,AD,Be (by unfold Knot at h;lia)]
def Gz{p:Nat}(h:Knot ae p):Knot (ae++new) p:=by unfold Knot at *;rw[BF];lia
def Kept.low(I:Kept n (t+1) rows rc ae pl)(o:Ok n rows)(hn:t<n){l:Nat}(h:l<=1\/l∈rc)(z:l<=1\/t<tieOf rows l):∃p,pl l=uA p/\Knot ae p/\t<rank n ae p:=by
 rcases DA l 2 with c| c
 .have e:l=0\/l=1:=v6 c
  rcases e with rfl| rfl
  .exact⟨0,I.z,by unfold Knot;exact wE,by unfold rank;rw[uD (by decide)];lia⟩
  .exact⟨1,I.o,by unfold Knot;exact wH,by unfold rank;rw[uD (by decide)];lia⟩
 .have hr:=h.resolve_left (vM c)
  have hz:=z.resolve_left (vM c);obtain⟨p,h1,h2,h3⟩:=I.has l hr hz;exact⟨p,h1,h2,ux hz h3⟩
noncomputable def rowIn(rows:List Row)(pl:Nat->uX)(k:Nat):Row:=(tieOf rows k,(pl (outOf rows k)).getD 0,(pl (intoOf rows k)).getD 0)
def Closed.low(c:Closed rows rc)(o:Ok n rows){k:Nat}(h:k∈rc):tieOf rows k<n/\(outOf rows k<=1\/tieOf rows k<tieOf rows (outOf rows k))/\(intoOf rows k<=1\/tieOf rows k<tieOf rows (intoOf rows k)):=by
 obtain⟨h1,h2,h3⟩:=o _ _ (BZ (c.knot k h) (c.two k h));refine⟨h1,h2.2.imp id λ⟨r,e,z⟩=>?_,h3.2.imp id λ⟨r,e,z⟩=>?_⟩
 .show(rows.getD (k-2) (0,0,0)).1<(rows.getD ((rows.getD (k-2) (0,0,0)).2.1-2) (0,0,0)).1
  rw[AD (l:=rows) (i:=(rows.getD (k-2) (0,0,0)).2.1-2),e];exact z
 .show(rows.getD (k-2) (0,0,0)).1<(rows.getD ((rows.getD (k-2) (0,0,0)).2.2-2) (0,0,0)).1
  rw[AD (l:=rows) (i:=(rows.getD (k-2) (0,0,0)).2.2-2),e];exact z
def Kept.row(I:Kept n (t+1) rows rc ae pl)(c:Closed rows rc)(o:Ok n rows)(hn:t<n){k:Nat}(h:k∈rc)(ht:tieOf rows k=t) :
  ∃a b,pl (outOf rows k)=uA a/\pl (intoOf rows k)=uA b/\rowIn rows pl k=(t,a,b)/\Knot ae a/\Knot ae b/\t<rank n ae a/\t<rank n ae b:=by
 obtain⟨_,z1,z2⟩:=c.low o h;obtain⟨a,a1,a2,a3⟩:=I.low o hn (c.out k h) (by rw[<- ht];exact z1);obtain⟨b,b1,b2,b3⟩:=I.low o hn (c.into k h) (by rw[<- ht];exact z2);exact⟨a,b,a1,b1,by unfold rowIn;rw[a1,b1,ht];rfl,a2,b2,a3,b3⟩
def ACU{p k:Nat}(h:Knot ae p)(hk:ae.length+2<=k)(z:t<rank n ae p):Low (ae++new) t k p:=by
 refine⟨by unfold Knot at h;exact ux h hk,?_⟩;rcases DA p 2 with c| c
 .exact .inl (vx c)
 .refine .inr ⟨ae.getD (p-2) (0,0,0),?_,?_⟩
  .rw[Be (by unfold Knot at h;lia)]
   exact BZ h c
  .unfold rank at z
   rw[uC (vJ c)] at z;exact z
def Kept.step(I:Kept n (t+1) rows rc ae pl)(c:Closed rows rc)(o:Ok n rows)(hn:t<n)(hw:∀r,r∈new->∃k,k∈rc/\tieOf rows k=t/\r=rowIn rows pl k/\r.2.2≠0)(nd:new.Nodup)
  (h1:∀k,k∉rc\/tieOf rows k≠t->hG k=pl k)
  (h2:∀k∈rc,tieOf rows k=t->∃p,hG k=uA p/\((∃i,(ae++new)[i]?=uA (rowIn rows pl k)/\p=i+2)\/(rowIn rows pl k∉ae++new/\p=(rowIn rows pl k).2.1))) :
  Kept n t rows rc (ae++new) hG:=by
 have at_new:∀(i:Nat) (r:Row),ae.length<=i->(ae++new)[i]?=uA r->new[i-ae.length]?=uA r:=λi r hi e=>by rw[CH hi] at e;exact e
 have at_old:∀(i:Nat) (r:Row),i<ae.length->(ae++new)[i]?=uA r->ae[i]?=uA r:=λi r hi e=>by rw[Be hi] at e;exact e
 have tn:∀r∈new,∃a b,r=(t,a,b)/\b≠0/\Knot ae a/\Knot ae b/\t<rank n ae a/\t<rank n ae b:=λr hr=>by
  obtain⟨k,k1,k2,k3,k4⟩:=hw r hr;obtain⟨a,b,_,_,e,x1,x2,x3,x4⟩:=I.row c o hn k1 k2;rw[e] at k3;refine⟨a,b,k3,?_,x1,x2,x3,x4⟩;rw[k3] at k4;exact k4
 have two:∀k∈rc,k≠0/\k≠1:=λk hk=>by have:=c.two k hk;lia
 refine⟨⟨?_,?_,?_⟩,?_,?_,?_,?_⟩
 .intro i r e
  rcases DA i ae.length with hi| hi
  .obtain⟨z1,z2,z3⟩:=I.least.ok i r (at_old i r hi e)
   refine⟨z1,⟨z2.1,z2.2.imp id λ⟨q,e,z⟩=>⟨q,?_,z⟩⟩,⟨z3.1,z3.2.imp id λ⟨q,e,z⟩=>⟨q,?_,z⟩⟩⟩
   .rw[Be (by have:=(AG.mp e).1;exact this)];exact e
   .rw[Be (by have:=(AG.mp e).1;exact this)];exact e
  .obtain⟨a,b,rfl,_,x1,x2,x3,x4⟩:=tn r (AT (at_new i r hi e))
   exact⟨hn,ACU x1 (zi hi) x3,ACU x2 (zi hi) x4⟩
 .intro i r e
  rcases DA i ae.length with hi| hi
  .exact I.least.pos i r (at_old i r hi e)
  .obtain⟨a,b,rfl,x,_⟩:=tn r (AT (at_new i r hi e))
   exact x
 .intro i j r e1 e2
  have nw:∀(i j:Nat),i<ae.length->ae.length<=j->(ae++new)[i]?=uA r->(ae++new)[j]?=uA r->False:=λi j hi hj e1 e2=>by
   have g:=I.ge r (AT (at_old i r hi e1));obtain⟨a,b,rfl,_⟩:=tn r (AT (at_new j r hj e2));have g':=g;lia
  rcases DA i ae.length with hi| hi
  .rcases DA j ae.length with hj| hj
   .exact I.least.one i j r (at_old i r hi e1) (at_old j r hj e2)
   .exact(nw i j hi hj e1 e2).elim
  .rcases DA j ae.length with hj| hj
   .exact(nw j i hj hi e2 e1).elim
   .have a1:=at_new i r hi e1
    have a2:=at_new j r hj e2;have:=(J9 (AG.mp a1).1 nd).mp (a1.trans a2.symm);lia
 .intro r hr
  rcases Co.mp hr with hr| hr
  .have:=I.ge r hr;exact u8 this
  .obtain⟨a,b,rfl,_⟩:=tn r hr
   exact AF t
 .rw[h1 0 (.inl λh=>(two 0 h).1 rfl)];exact I.z
 .rw[h1 1 (.inl λh=>(two 1 h).2 rfl)];exact I.o
 .intro k hk kD
  by_cases e:tieOf rows k=t
  .obtain⟨p,p1,p2⟩:=h2 k hk e
   refine⟨p,p1,?_⟩;obtain⟨a,b,_,_,re,x1,x2,x3,x4⟩:=I.row c o hn hk e;rcases p2 with⟨i,i1,rfl⟩| ⟨i1,rfl⟩
   .have il:=(AG.mp i1).1
    refine⟨by unfold Knot;exact vI il,?_⟩;unfold rank;rw[uC yd,D2,AD,i1,re];show tieOf rows k<=t;exact vw e
   .rw[re]
    refine⟨Gz x1,?_⟩;rw[Lg x1,e];exact C1 x3
  .obtain⟨p,p1,p2,p3⟩:=I.has k hk (vy kD e)
   exact⟨p,by rw[h1 k (.inr e)];exact p1,Gz p2,by rw[Lg p2];exact p3⟩
end
section
variable{d t k1 k2 m1 m2:Nat}{ss:uJ}{rows more bE b6:List Row}
def Ko{l k:Nat}(h:Low rows t k l):Low (rows++more) t k l:=⟨h.1,h.2.imp id λ⟨q,e,z⟩=>⟨q,by rw[Be (AG.mp e).1];exact e,z⟩⟩
def AGk(o:Ok n rows)(ht:t<n)(h1:Low rows t (rows.length+2) k1)(h2:Low rows t (rows.length+2) k2):Ok n (rows++[(t,k1,k2)]):=by
 intro j r e;rcases DA j rows.length with c| c
 .rw[Be c] at e
  obtain⟨z1,z2,z3⟩:=o j r e;exact⟨z1,Ko z2,Ko z3⟩
 .rw[CH c] at e
  have j0:j=rows.length:=by
   have:=(AG.mp e).1;simp at this;lia
  subst j0;rw[IQ] at e;cases e;exact⟨ht,Ko h1,Ko h2⟩
def Vb{k:Nat}(kn:Knot rows k)(up:k<=1\/t+1<=tieOf rows k):Low rows t (rows.length+2) k:=by
 refine⟨kn,?_⟩;rcases DA k 2 with c| c
 .exact .inl (vx c)
 .exact .inr ⟨_,BZ kn c,by have:=up.resolve_left (vM c);unfold tieOf at this;exact xH this⟩
def ADn{k:Nat}(kn:Knot rows k)(h2:2<=k):tieOf (rows++more) k=tieOf rows k:=by
 unfold tieOf;rw[AD,AD,Be (by unfold Knot at kn;exact vY kn h2)]
end
section
variable{t:Nat}{rows ae new more:List Row}
def ACH(o:Ok n rows):∀(f k:Nat) (s:uL),Knot rows k->ledF (rows++more) f k s=ledF rows f k s:=by
 intro f
 induction f with
 | zero=>intro k s h;rfl
 | succ f ih =>
  intro k s kn;unfold ledF;by_cases c:k<=1
  .rw[uD c,uD c]
  rw[uC c,uC c];have eg:(rows++more).getD (k-2) (0,0,0)=rows.getD (k-2) (0,0,0):=by
   rw[AD,AD,Be (by unfold Knot at kn;lia)]
  obtain⟨h1,h2,h3,_,_,k1,k2⟩:=o.low (BZ kn (u9 c));rw[eg];cases s with
  | nil=>exact ih _ _ k1
  | cons x xs =>
   show(if _ then _ else if _ then ledF (rows++more) f _ _ else ledF (rows++more) f _ _)=_;rw[ih _ _ k1,ih _ _ k2]
def Dy(o:Ok n rows){k:Nat}(s:uL)(kn:Knot rows k):led (rows++more) k s=led rows k s:=ACH o _ _ _ kn
def RowLt(a b:Row):Prop:=b.1<a.1\/(a.1=b.1/\(a.2.1<b.2.1\/(a.2.1=b.2.1/\a.2.2<b.2.2)))
structure Kept2(n t:Nat)(rows:List Row)(rc:uL)(ae:List Row)(pl:Nat->uX):Prop where
 base:Kept n t rows rc ae pl
 sem:∀k∈rc,t<=tieOf rows k->∀p,pl k=uA p->∀s,led ae p s=led rows k s
 img:∀k∈rc,t<=tieOf rows k->∀p,pl k=uA p->(2<=p/\ae[p-2]?=uA (rowIn rows pl k))\/((rowIn rows pl k).2.2=0/\p=(rowIn rows pl k).2.1)
 sur:∀(i:Nat) (r:Row),ae[i]?=uA r->∃k∈rc,t<=tieOf rows k/\pl k=uA (i+2)
 srt:ae.Pairwise RowLt
def Ws(hn:∀k∈rc,tieOf rows k<n):Kept2 n n rows rc [] (λk=>if k=0 then uA 0 else if k=1 then uA 1 else uB) :=
 ⟨AAq hn,λk hk h=>uH (hn k hk) (u6 h),λk hk h=>uH (hn k hk) (u6 h),λi r h=>by simp at h,.nil⟩
def WK(c:Closed rows rc)(o:Ok n rows)(h1:∀k,k∉rc\/tieOf rows k≠t->hG k=pl k){k:Nat}(hk:k∈rc)(ht:t<=tieOf rows k):rowIn rows hG k=rowIn rows pl k:=by
 have two:∀k,k<=1->k∉rc:=λk h z=>by have:=c.two k z;exact yQ this h
 obtain⟨_,z1,z2⟩:=c.low o hk;have e1:hG (outOf rows k)=pl (outOf rows k):=by
  rcases z1 with z| z
  .exact h1 _ (.inl (two _ z))
  .exact h1 _ (.inr (yR ht z))
 have e2:hG (intoOf rows k)=pl (intoOf rows k):=by
  rcases z2 with z| z
  .exact h1 _ (.inl (two _ z))
  .exact h1 _ (.inr (yR ht z))
 unfold rowIn;rw[e1,e2]
def Kept2.low(I:Kept2 n (t+1) rows rc ae pl){l p:Nat}(h:l<=1\/l∈rc)(z:l<=1\/t<tieOf rows l)(hp:pl l=uA p)(s:uL):led ae p s=led rows l s:=by
 rcases DA l 2 with c| c
 .have e:l=0\/l=1:=v6 c
  rcases e with rfl| rfl
  .rw[I.base.z] at hp
   cases hp;rw[DR,DR]
  .rw[I.base.o] at hp
   cases hp;rw[Ed,Ed]
 .exact I.sem l (h.resolve_left (vM c)) (z.resolve_left (vM c)) p hp s
def Kept2.step(I:Kept2 n (t+1) rows rc ae pl)(c:Closed rows rc)(o:Ok n rows)(hn:t<n)(hw:∀r,r∈new->∃k,k∈rc/\tieOf rows k=t/\r=rowIn rows pl k/\r.2.2≠0)(nd:new.Nodup)
  (hw2:∀k∈rc,tieOf rows k=t->(rowIn rows pl k).2.2≠0->rowIn rows pl k∈new) (so:new.Pairwise RowLt)
  (h1:∀k,k∉rc\/tieOf rows k≠t->hG k=pl k)
  (h2:∀k∈rc,tieOf rows k=t->∃p,hG k=uA p/\((∃i,(ae++new)[i]?=uA (rowIn rows pl k)/\p=i+2)\/(rowIn rows pl k∉ae++new/\p=(rowIn rows pl k).2.1))) :
  Kept2 n t rows rc (ae++new) hG:=by
 have B:=I.base.step c o hn hw nd h1 h2;have oe:=I.base.least.ok;have at_:∀k∈rc,tieOf rows k=t->∀p,hG k=uA p->(∃i,(ae++new)[i]?=uA (rowIn rows pl k)/\p=i+2)\/((rowIn rows pl k).2.2=0/\p=(rowIn rows pl k).2.1):=λk hk ht p hp=>by
  obtain⟨p',e,h⟩:=h2 k hk ht;rw[hp] at e;cases e;rcases h with h| ⟨nm,e⟩
  .exact .inl h
  .refine .inr ⟨?_,e⟩
   rcases SV (rowIn rows pl k).2.2 with z| z
   .exact z
   .exact uH (Ct _ (hw2 k hk ht (by lia))) nm
 have b5:∀k∈rc,t+1<=tieOf rows k->∀p,hG k=uA p->pl k=uA p:=λk hk ht p hp=>by rw[h1 k (.inr (yS ht))] at hp;exact hp
 refine⟨B,λk hk ht p hp s=>?_,λk hk ht p hp=>?_,λi r e=>?_,?_⟩
 .by_cases e:tieOf rows k=t
  .obtain⟨a,b,ea,eb,re,x1,x2,x3,x4⟩:=I.base.row c o hn hk e
   obtain⟨_,z1,z2⟩:=c.low o hk;have la:=I.low (c.out k hk) (by rw[<- e];exact z1) ea;have lb:=I.low (c.into k hk) (by rw[<- e];exact z2) eb;have kk:=c.knot k hk;have k2:=c.two k hk;have et:(rows.getD (k-2) (0,0,0)).1=t:=e;rcases at_ k hk e p hp with⟨i,hi,rfl⟩| ⟨w0,rfl⟩
   .have il:=(AG.mp hi).1
    have kp:Knot (ae++new) (i+2):=by unfold Knot;exact vI il
    have eg:(ae++new).getD (i+2-2) (0,0,0)=(t,a,b):=by rw[D2,AD,hi,re];rfl
    cases s with
    | nil =>
     rw[Dz B.least.ok kp uM,eg,Dz o kk k2];rw[Dy oe [] x1];exact la []
    | cons x xs =>
     rw[Bo B.least.ok kp uM,eg,Bo o kk k2,et];rw[Dy oe _ x1,Dy oe _ x2,la,lb];rfl
   .rw[re] at w0
    have b0:b=0:=w0;rw[re];rw[Dy oe _ x1,la];have rC:∀s,led rows (intoOf rows k) s=false:=λs=>by rw[<- lb,b0,DR]
    have rR:∀x xs,x<=t->led rows (outOf rows k) (x::xs)=false:=λx xs h=>by rw[<- la];exact off oe x1 (u3 h x3)
    cases s with
    | nil=>rw[Dz o kk k2];rfl
    | cons x xs =>
     rw[Bo o kk k2,et];by_cases c1:x<t
     .rw[uD c1];exact rR x xs (vO c1)
     .rw[uC c1]
      by_cases c2:x=t
      .rw[uD c2]
       show _=led rows (intoOf rows k) xs;rw[rC];exact rR x xs (vw c2)
      .rw[uC c2];rfl
  .have sV:=b5 k hk (vy ht e) p hp
   obtain⟨p',e1,e2,_⟩:=I.base.has k hk (vy ht e);rw[sV] at e1;cases e1;rw[Dy oe s e2];exact I.sem k hk (vy ht e) p sV s
 .rw[WK c o h1 hk ht]
  by_cases e:tieOf rows k=t
  .rcases at_ k hk e p hp with⟨i,hi,rfl⟩| h
   .exact .inl ⟨uM,hi⟩
   .exact .inr h
  .rcases I.img k hk (vy ht e) p (b5 k hk (vy ht e) p hp) with⟨h2,h3⟩| h
   .refine .inl ⟨h2,?_⟩
    rw[Be (AG.mp h3).1];exact h3
   .exact .inr h
 .rcases DA i ae.length with hi| hi
  .rw[Be hi] at e
   obtain⟨k,hk,ht,hp⟩:=I.sur i r e;exact⟨k,hk,u8 ht,by rw[h1 k (.inr (yS ht))];exact hp⟩
  .have e':=e
   rw[CH hi] at e';obtain⟨k,hk,ht,rfl,w0⟩:=hw r (AT e');obtain⟨p,hp,h⟩:=h2 k hk ht;refine⟨k,hk,vb ht,?_⟩;rcases h with⟨j,hj,rfl⟩| ⟨nm,_⟩
   .rw[B.least.one i j _ e hj]
    exact hp
   .exact uH (AT e) nm
 .refine C9.mpr ⟨I.srt,so,λa ha b hb=>.inl ?_⟩
  have:=I.base.ge a ha;obtain⟨k,_,hk,rfl,_⟩:=hw b hb;show tieOf rows k<a.1;lia
structure Canon(n:Nat)(ae:List Row)(top:Nat):Prop where
 least:Least n ae
 srt:ae.Pairwise RowLt
 knot:Knot ae top
 led:∀p,2<=p->Knot ae p->p=top\/∃r∈ae,r.2.1=p\/r.2.2=p
def Kept2.canon(I:Kept2 n 0 rows rc ae pl)(c:Closed rows rc)(o:Ok n rows){top:Nat}(ht:top<=1\/top∈rc)(hp:pl top=uA hd)(par:∀k∈rc,k=top\/∃k'∈rc,k<k'/\(outOf rows k'=k\/intoOf rows k'=k)) :
  Canon n ae hd/\∀s,led ae hd s=led rows top s:=by
 have key:∀d k p,k∈rc->rows.length+2-k<=d->pl k=uA p->2<=p->p=hd\/∃r∈ae,r.2.1=p\/r.2.2=p:=by
  intro d
  induction d with
  | zero =>
   intro k p hk cr _ _;have:=c.knot k hk;unfold Knot at this;lia
  | succ d ih =>
   intro k p hk cr qE p2;rcases par k hk with rfl| ⟨k',a6,lt,ch⟩
   .rw[hp] at qE
    exact .inl (AO qE).symm
   .obtain⟨p',sV,_⟩:=I.base.has k' a6 (By _)
    have im:=I.img k' a6 (By _) p' sV;rcases ch with e| e
    .have ep:(rowIn rows pl k').2.1=p:=by
      show(pl (outOf rows k')).getD 0=p;rw[e,qE];rfl
     rcases im with⟨_,h3⟩| ⟨_,h4⟩
     .exact .inr ⟨_,AT h3,.inl ep⟩
     .rw[ep] at h4
      subst h4;have:=c.knot k' a6;unfold Knot at this;exact ih k' p' a6 (yT cr lt) sV p2
    .have ep:(rowIn rows pl k').2.2=p:=by
      show(pl (intoOf rows k')).getD 0=p;rw[e,qE];rfl
     rcases im with⟨_,h3⟩| ⟨h4,_⟩
     .exact .inr ⟨_,AT h3,.inr ep⟩
     ·lia
 refine⟨⟨I.base.least,I.srt,?_,λp p2 kp=>?_⟩,λs=>?_⟩
 .rcases ht with h| h
  .have:top=0\/top=1:=v5 h
   rcases this with rfl| rfl
   .rw[I.base.z] at hp;cases hp;unfold Knot;exact wE
   .rw[I.base.o] at hp;cases hp;unfold Knot;exact wH
  .obtain⟨p,e,kn,_⟩:=I.base.has top h (By _)
   rw[hp] at e;cases e;exact kn
 .obtain⟨k,hk,_,qE⟩:=I.sur (p-2) _ (BZ kp p2)
  rw[show p-2+2=p from wN p2] at qE;exact key _ k p hk (AF _) qE p2
 .rcases ht with h| h
  .have:top=0\/top=1:=v5 h
   rcases this with rfl| rfl
   .rw[I.base.z] at hp;cases hp;rw[DR,DR]
   .rw[I.base.o] at hp;cases hp;rw[Ed,Ed]
  .exact I.sem top h (By _) hd hp s
end
theorem Lw{α:Type}{R:α->α->Prop}(as:∀a b,R a b->R b a->False):∀{l m:List α},l.Pairwise R->m.Pairwise R->(∀x,x∈l↔x∈m)->l=m
 | [],[],_,_,_=>rfl
 | [],b::m,_,_,h=>uH ((h b).mpr AJ) (λz=>nomatch z)
 | a::l,[],_,_,h=>uH ((h a).mp AJ) (λz=>nomatch z)
 | a::l,b::m,hl,hm,h=>by
  obtain⟨l1,l2⟩:=Cs.mp hl;obtain⟨m1,m2⟩:=Cs.mp hm;have e:a=b:=by
   rcases AW.mp ((h a).mp AJ) with e| e
   .exact e
   .rcases AW.mp ((h b).mpr AJ) with e' | e'
    .exact e'.symm
    .exact(as _ _ (m1 a e) (l1 b e')).elim
  subst e
  congr 1
  refine Lw as l2 m2 λx=>⟨λhx=>?_,λhx=>?_⟩
  .rcases AW.mp ((h x).mp (AK _ hx)) with e| e
   .rw[e] at hx;exact(as _ _ (l1 a hx) (l1 a hx)).elim
   .exact e
  .rcases AW.mp ((h x).mpr (AK _ hx)) with e| e
   .rw[e] at hx;exact(as _ _ (m1 a hx) (m1 a hx)).elim
   .exact e
def VN(a b:Row)(h:RowLt a b)(k:RowLt b a):False:=by
 unfold RowLt at h k;lia
theorem Ie(t:Nat):∀{A:List Row},A.Pairwise RowLt->A=A.filter (λr=>decide (t<=r.1))++A.filter (λr=>!decide (t<=r.1))
 | [],_=>rfl
 | a::l,h=>by
  obtain⟨h1,h2⟩:=Cs.mp h;by_cases c:t<=a.1
  .rw[EF,EF,uD (by simpa using c),uC (by simpa using c),O3,<- Ie t h2]
  .have z:∀r∈l,¬ t<=r.1:=λr hr=>by
    have:=h1 r hr;unfold RowLt at this;lia
   have e1:l.filter (λr=>decide (t<=r.1))=[]:=Mm.mpr λr hr=>by simpa using z r hr
   have e2:l.filter (λr=>!decide (t<=r.1))=l:=List.filter_eq_self.mpr λr hr=>by simpa using z r hr
   rw[EF,EF,uC (by simpa using c),uD (by simpa using c),e1,e2];rfl
section
variable{A B:List Row}{a b k:Nat}
theorem MP(L:Least n A):∀(f k:Nat),k<f->Knot A k->k≠0->∃s,Way n A k s/\(2<=k->∃xs,s=rank n A k::xs)/\(k=1->s=[])
 | 0,k,h,_,_=>by lia
 | f+1,k,h,kn,k0=>by
  rcases DA k 2 with c| c
  .have e:k=1:=by lia
   subst e;exact⟨[],ADr,λz=>by lia,λ_=>rfl⟩
  .obtain⟨_,_,h3,_,_,_,k2⟩:=L.ok.low (BZ kn c)
   have w0:=L.pos _ _ (BZ kn c);obtain⟨s,hs,_⟩:=MP L f _ (wZ h3 h c) k2 w0;refine⟨_,ABN L kn c hs,λ_=>⟨s,?_⟩,λz=>by lia⟩;unfold rank;rw[uC (vJ c)]
structure Sim(A B:List Row)(k k':Nat):Prop where
 ka:Knot A k
 kb:Knot B k'
 eq:∀s,led A k s=led B k' s
def Sim.symm(S:Sim A B k k'):Sim B A k' k:=⟨S.kb,S.ka,λs=>(S.eq s).symm⟩
def Sim.no(LA:Least n A)(LB:Least n B)(S:Sim A B k k'):¬ rank n A k<rank n B k':=λh=>by
 have k0:k≠0:=λe=>by
  subst e;have:rank n B k'<=n+1:=by
   unfold rank;by_cases c:k'<2
   .rw[uD c];exact ve
   .rw[uC c]
    have:=(LB.ok.low (BZ S.kb (uN c))).1;lia
  have e:rank n A 0=n+1:=by unfold rank;rw[uD (by decide)];rfl
  lia
 obtain⟨s,⟨w1,_,_⟩,s2,s1⟩:=MP LA _ k (Fk _) S.ka k0;rcases DA k 2 with c| c
 .have e:k=1:=by lia
  subst e;rw[s1 rfl,S.eq] at w1;have e1:rank n A 1=n:=by unfold rank;rw[uD (by decide)];rfl
  have k1:k'=0:=by
   unfold rank at h e1;rw[e1] at h;by_cases c':k'<2
   .rw[uD c'] at h;lia
   .rw[uC c'] at h
    have:=(LB.ok.low (BZ S.kb (uN c'))).1;lia
  rw[k1,DR] at w1;cases w1
 .obtain⟨xs,rfl⟩:=s2 c
  rw[S.eq,off LB.ok S.kb h] at w1;cases w1
def Sim.rank_eq(LA:Least n A)(LB:Least n B)(S:Sim A B k k'):rank n A k=rank n B k':=by
 have h1:=S.no LA LB;have h2:=S.symm.no LB LA;lia
def Gv(L:Least n A)(kn:Knot A k):2<=k↔rank n A k<n:=by
 unfold rank;constructor
 .intro h
  rw[uC (u6 h)];exact(L.ok.low (BZ kn h)).1
 .intro h
  rcases DA k 2 with c| c
  .rw[uD c] at h;lia
  .exact c
def Sim.small(LA:Least n A)(LB:Least n B)(S:Sim A B k k')(h:k<=1):k=k':=by
 have e:=S.rank_eq LA LB;have z:=Gv LA S.ka;have z':=Gv LB S.kb;have:¬ 2<=k':=λc=>by have:=z'.mp c;rw[<- e] at this;have:=z.mpr this;exact yQ this h
 unfold rank at e;rw[uD (by lia),uD (vT this)] at e;lia
def Sim.child(LA:Least n A)(LB:Least n B)(S:Sim A B k k')(h:2<=k):2<=k'/\tieOf A k=tieOf B k'/\Sim A B (outOf A k) (outOf B k')/\Sim A B (intoOf A k) (intoOf B k'):=by
 have e:=S.rank_eq LA LB;have k2:=(Gv LB S.kb).mpr (by rw[<- e];exact(Gv LA S.ka).mp h);have et:tieOf A k=tieOf B k':=by
  unfold rank at e;rw[uC (u6 h),uC (u6 k2)] at e;exact e
 obtain⟨_,_,_,ra,_,ka1,ka2⟩:=LA.ok.low (BZ S.ka h);obtain⟨_,_,_,rb,_,kb1,kb2⟩:=LB.ok.low (BZ S.kb k2);refine⟨k2,et,⟨ka1,kb1,λs=>?_⟩,⟨ka2,kb2,λs=>?_⟩⟩
 .cases s with
  | nil =>
   have:=S.eq [];rw[Dz LA.ok S.ka h,Dz LB.ok S.kb k2] at this;exact this
  | cons x xs =>
   by_cases c:x<=tieOf A k
   .rw[show led A (outOf A k) (x::xs)=false from off LA.ok ka1 (by show x<rank n A (A.getD (k-2) (0,0,0)).2.1;unfold tieOf at c;exact u3 c ra),show led B (outOf B k') (x::xs)=false from off LB.ok kb1 (by show x<rank n B (B.getD (k'-2) (0,0,0)).2.1;unfold tieOf at c et;lia)]
   .have:=S.eq (x::xs)
    rw[Bo LA.ok S.ka h,Bo LB.ok S.kb k2] at this;unfold tieOf at c et;rw[uC (x5 c),uC (x6 c),uC (by lia),uC (by lia)] at this;exact this
 .have:=S.eq (tieOf A k::s)
  rw[Bo LA.ok S.ka h,Bo LB.ok S.kb k2] at this;unfold tieOf at this et;rw[uC vH,uD rfl,uC (by lia),uD et] at this;exact this
theorem Sim.all(CA:Canon n A a)(CB:Canon n B b)(S:Sim A B a b):∀(d k:Nat),A.length+2-k<=d->2<=k->Knot A k->∃k',Sim A B k k'
 | 0,k,h,_,kn=>by unfold Knot at kn;lia
 | d+1,k,h,k2,kn=>by
  rcases CA.led k k2 kn with rfl| ⟨r,hr,ch⟩
  .exact⟨b,S⟩
  .obtain⟨i,hi⟩:=DD.mp hr
   have il:=(AG.mp hi).1;obtain⟨_,lo,li,_⟩:=CA.least.ok.low hi;have er:A.getD (i+2-2) (0,0,0)=r:=by rw[D2,AD,hi];rfl
   obtain⟨j,SJ⟩:=Sim.all CA CB S d (i+2) (by unfold Knot at kn;rcases ch with e| e<;>lia) uM (by unfold Knot;exact vI il);obtain⟨_,_,s1,s2⟩:=SJ.child CA.least CB.least uM;unfold outOf at s1;unfold intoOf at s2;rw[er] at s1 s2;rcases ch with e| e
   .rw[e] at s1;exact⟨_,s1⟩
   .rw[e] at s2;exact⟨_,s2⟩
def half(CA:Canon n A a)(CB:Canon n B b)(S:Sim A B a b){t:Nat}(P:∀k k',Sim A B k k'->t+1<=rank n A k->k=k'){r:Row}(hr:r∈A)(ht:r.1=t):r∈B:=by
 obtain⟨i,hi⟩:=DD.mp hr;have il:=(AG.mp hi).1;have er:A.getD (i+2-2) (0,0,0)=r:=by rw[D2,AD,hi];rfl
 obtain⟨j,SJ⟩:=Sim.all CA CB S _ (i+2) (AF _) uM (by unfold Knot;exact vI il);obtain⟨j2,et,s1,s2⟩:=SJ.child CA.least CB.least uM;obtain⟨_,_,_,r1,r2,_,_⟩:=CA.least.ok.low hi;have e1:r.2.1=outOf B j:=by
  have:=P _ _ s1 (by unfold outOf;rw[er];exact yU r1 ht);unfold outOf at this ⊢;rw[er] at this;exact this
 have e2:r.2.2=intoOf B j:=by
  have:=P _ _ s2 (by unfold intoOf;rw[er];exact yU r2 ht);unfold intoOf at this ⊢;rw[er] at this;exact this
 have e3:r.1=tieOf B j:=by
  unfold tieOf at et ⊢;rw[er] at et;exact et
 have:r=B.getD (j-2) (0,0,0):=LG e3 (LG e1 e2);rw[this];exact AT (BZ SJ.kb j2)
def Za(CA:Canon n A a)(CB:Canon n B b)(S:Sim A B a b):∀d,(∀r:Row,n<=r.1+d->(r∈A↔r∈B))/\∀k k',Sim A B k k'->n<=rank n A k+d->k=k':=by
 intro d
 induction d with
 | zero =>
  have hA:∀r∈A,r.1<n:=λr hr=>by
   obtain⟨i,hi⟩:=DD.mp hr;exact(CA.least.ok.low hi).1
  have hB:∀r∈B,r.1<n:=λr hr=>by
   obtain⟨i,hi⟩:=DD.mp hr;exact(CB.least.ok.low hi).1
  refine⟨λr h=>⟨λz=>?_,λz=>?_⟩,λk k' s h=>?_⟩
  .have:=hA r z;lia
  .have:=hB r z;lia
  .refine s.small CA.least CB.least ?_
   have:=Gv CA.least s.ka;rcases DA k 2 with c| c
   .exact vx c
   .have:=this.mp c;lia
 | succ d ih =>
  obtain⟨M,P⟩:=ih;have M':∀r:Row,n<=r.1+(d+1)->(r∈A↔r∈B):=λr h=>by
   by_cases c:n<=r.1+d
   .exact M r c
   .refine⟨λz=>half CA CB S (λk k' s hk=>P k k' s (by lia)) z rfl,λz=>half CB CA S.symm (λk k' s hk=>?_) z rfl⟩
    have e:=s.rank_eq CB.least CA.least;exact(P k' k s.symm (by lia)).symm
  refine⟨M',λk k' s h=>?_⟩;by_cases c:n<=rank n A k+d
  .exact P k k' s c
  rcases DA k 2 with k2| k2
  .exact s.small CA.least CB.least (vx k2)
  obtain⟨k2',et,s1,s2⟩:=s.child CA.least CB.least k2;obtain⟨_,_,_,r1,r2,_,_⟩:=CA.least.ok.low (BZ s.ka k2);have rk:rank n A k=tieOf A k:=by unfold rank tieOf;rw[uC (vJ k2)]
  have e1:=P _ _ s1 (by unfold outOf;unfold tieOf at rk;exact yV h rk r1);have e2:=P _ _ s2 (by unfold intoOf;unfold tieOf at rk;exact yV h rk r2);have er:=LG et (LG e1 e2);have ef:A.filter (λr=>decide (tieOf A k<=r.1))=B.filter (λr=>decide (tieOf A k<=r.1)):=by
   refine Lw VN (CA.srt.filter _) (CB.srt.filter _) λr=>?_;rw[BO,BO];constructor
   .rintro⟨h1,h2⟩
    exact⟨(M' r (by have:=uG h2;exact yW h rk this)).mp h1,h2⟩
   .rintro⟨h1,h2⟩
    exact⟨(M' r (by have:=uG h2;exact yW h rk this)).mpr h1,h2⟩
  have mem:A.getD (k-2) (0,0,0)∈A.filter (λr=>decide (tieOf A k<=r.1)):=BO.mpr ⟨AT (BZ s.ka k2),uE (AF _)⟩;obtain⟨i,hi⟩:=DD.mp mem;have il:=(AG.mp hi).1;have iA:A[i]?=uA (A.getD (k-2) (0,0,0)):=by
   rw[Ie (tieOf A k) CA.srt,Be il];rw[<- Ie (tieOf A k) CA.srt];exact hi
  have iB:B[i]?=uA (B.getD (k'-2) (0,0,0)):=by
   rw[<- er];rw[ef] at hi il;rw[Ie (tieOf A k) CB.srt,Be il];exact hi
  have j1:=CA.least.one _ _ _ iA (BZ s.ka k2);have j2:=CB.least.one _ _ _ iB (BZ s.kb k2');lia
def ui(CA:Canon n A a)(CB:Canon n B b)(h:∀s,G.led A a s=G.led B b s):A=B/\a=b:=by
 have S:Sim A B a b:=⟨CA.knot,CB.knot,h⟩;obtain⟨M,P⟩:=Za CA CB S n;exact⟨Lw VN CA.srt CB.srt λr=>M r uM,P a b S uM⟩
end
def up(s:uL):uI:=s.map λ(x:Nat)=>(x:Int)
theorem Mj:∀{s u:uL},up s=up u->s=u
 | [],[],_=>rfl
 | [],_::_,h=>by cases h
 | _::_,[],h=>by cases h
 | x::s,y::u,h=>by
  have h':(x:Int)::up s=(y:Int)::up u:=h;injection h' with h1 h2
  rw[Mj h2,MA h1]
def ZK{rows ae:List Row}(I:Kept2 n 0 rows rc ae pl)(c:Closed rows rc):ae.length<=rows.length:=by
 have ex:∀i,i<ae.length->∃k,k∈rc/\pl k=uA (i+2):=λi hi=>by
  obtain⟨k,hk,_,e⟩:=I.sur i _ (AI hi);exact⟨k,hk,e⟩
 let g:Nat->Nat:=λi=>if h:i<ae.length then Fu (ex i h) else 0
 have hg:∀i,i<ae.length->g i∈rc/\pl (g i)=uA (i+2):=λi hi=>by
  have z:=F3 (ex i hi);show(if h:i<ae.length then Fu (ex i h) else 0)∈rc/\pl (if h:i<ae.length then Fu (ex i h) else 0)=uA (i+2);rw[dif_pos hi];exact z
 have nd:((AR ae.length).map g).Nodup:=by
  unfold LN;rw[C0];refine EQ (λ{a b} ha hb h e=>?_) (HL (n:=ae.length));have h1:=(hg a (AZ.mp ha)).2;have h2:=(hg b (AZ.mp hb)).2;rw[e,h2] at h1;injection h1 with h1
  lia
 have z:=ST.Bw nd (l₂:=(AR rows.length).map (·+2)) λx hx=>by
  obtain⟨i,hi,rfl⟩:=A7.mp hx;have hk:=(hg i (AZ.mp hi)).1;have a:=c.two _ hk;have b:g i<rows.length+2:=c.knot _ hk;exact A7.mpr ⟨g i-2,AZ.mpr (by lia),by lia⟩
 rw[AB,AB,Cf,Cf] at z;exact z
section
variable{t:Nat}{A rows ae:List Row}
def Sim.inj(L:Least n A):∀(f k k':Nat),k<f->Sim A A k k'->k=k':=by
 intro f
 induction f with
 | zero=>intro k k' h;lia
 | succ f ih =>
  intro k k' hk S;rcases DA k 2 with c| c
  .exact S.small L L (vx c)
  .obtain⟨c',et,so,si⟩:=S.child L L c
   have ra:=BZ S.ka c;have rb:=BZ S.kb c';obtain⟨_,a1,a2,_⟩:=L.ok.low ra;have e1:=ih _ _ (by show(A.getD (k-2) (0,0,0)).2.1<f;exact wZ a1 hk c) so;have e2:=ih _ _ (by show(A.getD (k-2) (0,0,0)).2.2<f;exact wZ a2 hk c) si;have er:=LG et (LG e1 e2);rw[er] at ra;have:=L.one _ _ _ ra rb;lia
def Yv(L:Least n A){a b:Nat}(ka:Knot A a)(kb:Knot A b)(h:∀s,led A a s=led A b s):a=b:=Sim.inj L (a+1) a b (Fk _) ⟨ka,kb,h⟩
def AAb{P:Nat->Prop}{top:Nat}(pt:P top)(ps:∀k,P k->2<=k->Knot rows k->P (outOf rows k)/\P (intoOf rows k))(c:Closed rows rc)(par:∀k∈rc,k=top\/∃k'∈rc,k<k'/\(outOf rows k'=k\/intoOf rows k'=k)):∀(d k:Nat),rows.length+2-k<=d->k∈rc->P k:=by
 intro d
 induction d with
 | zero=>intro k h hk;have:k<rows.length+2:=c.knot k hk;lia
 | succ d ih =>
  intro k h hk;rcases par k hk with rfl| ⟨k',a6,lt,e⟩
  .exact pt
  .have:k<rows.length+2:=c.knot k hk
   have z:=ps k' (ih k' (yT h lt) a6) (c.two k' a6) (c.knot k' a6);rcases e with rfl| rfl
   .exact z.1
   .exact z.2
def lowH(t:Nat):uL->Bool
 | []=>false
 | x::_=>decide (x<=t)
end
section
variable{A rows more:List Row}{k:Nat}
def AFP(rows:List Row)(r:Row):(rows++[r]).getD (rows.length+2-2) (0,0,0)=r:=by
 rw[D2,AD,CH vn,IQ];rfl
def ACI(rows:List Row)(r:Row):Knot (rows++[r]) (rows.length+2):=by
 unfold Knot;rw[BF,EK];lia
def Zy{t:Nat}(ks:uL)(hk:∀k∈ks,2<=k/\Knot A k/\tieOf A k=t)(nd:ks.Nodup):ks.length<=(A.filter λr=>decide (r.1=t)).length:=by
 have qy:∀i∈(ks.map (· - 2)),i<A.length/\(A.getD i (0,0,0)).1=t:=λi hi=>by
  obtain⟨k,a6,rfl⟩:=A7.mp hi;obtain⟨k2,kn,ht⟩:=hk k a6;exact⟨by unfold Knot at kn;exact vY kn k2,ht⟩
 have nd2:(ks.map (· - 2)).Nodup:=by
  unfold LN;rw[C0];refine EQ (λ{a b} ha hb h e=>h ?_) nd;have:=(hk a ha).1;have:=(hk b hb).1;lia
 have z:=ST.Bw nd2 (l₂:=(AR A.length).filter λi=>decide ((A.getD i (0,0,0)).1=t)) λi hi=>by
  obtain⟨h1,h2⟩:=qy i hi;exact BO.mpr ⟨AZ.mpr h1,uE h2⟩
 rw[AB] at z;refine BV z (MQ ?_);have e:A=(AR A.length).map λi=>A.getD i (0,0,0):=by
  apply Hc;intro i;rw[AU];by_cases c:i<A.length
  .rw[E7 c,AI c]
   simp[AD,c]
  .rw[EL (uN c),EL (by rw[Cf];exact uN c)]
   rfl
 conv=>rhs;rw[e,K7,AB]
 rfl
end
noncomputable def addRow(S:List (List uL))(r:Row):List (List uL):=S++[S.getD r.2.1 []++(S.getD r.2.2 []).map (r.1::·)]
noncomputable def setsUp(rows:List Row):List (List uL):=rows.foldl addRow [[],[[]]]
def setsOf(rows:List Row)(k:Nat):List uL:=(setsUp rows).getD k []
def Ho(rows:List Row)(r:Row):setsUp (rows++[r])=addRow (setsUp rows) r:=by unfold setsUp;rw[List.foldl_append];rfl
def Dw:∀(rows:List Row),(setsUp rows).length=rows.length+2:=by
 intro rows
 suffices h:∀(l:List Row) (S:List (List uL)),(l.foldl addRow S).length=S.length+l.length by
  unfold setsUp;rw[h];show 2+_=_;exact xV
 intro l
 induction l with
 | nil=>intro S;simp
 | cons a l ih =>
  intro S;rw[PF,ih];unfold addRow;rw[BF];simp;exact vj
noncomputable def num(n:Nat):uL->Nat
 | []=>0
 | x::xs=>2 ^ (n-1-x)+num n xs
theorem Qc{n:Nat}:∀{s:uL}{t:Nat},s.Pairwise (· < ·)->(∀x∈s,t<=x/\x<n)->num n s<2 ^ (n-t)
 | [],t,_,_=>Nat.two_pow_pos _
 | x::xs,t,h,hr=>by
  obtain⟨h1,h2⟩:=Cs.mp h;obtain⟨x1,x2⟩:=hr x AJ;have ih:=Qc (t:=x+1) h2 λy hy=>⟨h1 y hy,(hr y (AK _ hy)).2⟩;have e:2 ^ (n-x)=2 ^ (n-1-x)+2 ^ (n-1-x):=by
   rw[show n-x=(n-1-x)+1 by lia,M7];exact wM
  have le:2 ^ (n-x)<=2 ^ (n-t):=KM (by decide) (yc x1);have e2:n-(x+1)=n-1-x:=vV;rw[e2] at ih;show 2 ^ (n-1-x)+num n xs<_;lia
section
variable{rows:List Row}
structure InOrder(n:Nat)(rows:List Row)(k:Nat)(L:List uL):Prop where
 mem:∀s,s∈L↔led rows k s=true
 ord:L.Pairwise λs u=>num n s<num n u
 way:∀s∈L,s.Pairwise (· < ·)/\∀x∈s,rank n rows k<=x/\x<n
def ACd{l m:List α}{k:Nat}{d:α}(h:k<l.length):(l++m).getD k d=l.getD k d:=by
 rw[AD,AD,Be h]
def Wd(o:Ok n rows)(r:Row){k:Nat}(kn:Knot rows k):setsOf (rows++[r]) k=setsOf rows k:=by
 unfold setsOf;rw[Ho];unfold addRow;exact ACd (by rw[Dw];exact kn)
def Xf(rows:List Row)(r:Row):setsOf (rows++[r]) (rows.length+2)=setsOf rows r.2.1++(setsOf rows r.2.2).map (r.1::·):=by
 unfold setsOf;rw[Ho];unfold addRow;rw[AD,CH (by rw[Dw];exact AF _),Dw,IQ];rfl
def InOrder.app(o:Ok n rows){r:Row}{k:Nat}(kn:Knot rows k)(I:InOrder n rows k L):InOrder n (rows++[r]) k L :=
 ⟨λs=>by rw[Dy o s kn];exact I.mem s,I.ord,λs hs=>by rw[Lg kn];exact I.way s hs⟩
def JL{r:Row}(o:Ok n (rows++[r])):Ok n rows:=λi q e=>by
 have il:=(AG.mp e).1;obtain⟨h1,h2,h3⟩:=o i q (by rw[Be il];exact e);have low:∀l,Low (rows++[r]) q.1 (i+2) l->Low rows q.1 (i+2) l:=λl ⟨a,b⟩=>⟨a,b.imp id λ⟨u,e,z⟩=>⟨u,by rw[Be (by lia)] at e;exact e,z⟩⟩;exact⟨h1,low _ h2,low _ h3⟩
def GQ:∀(m:Nat) (rows:List Row),rows.length=m->Ok n rows->∀k,Knot rows k->InOrder n rows k (setsOf rows k):=by
 intro m
 induction m with
 | zero =>
  intro rows h o k kn;have e:=CO.mp h;subst e;have:k=0\/k=1:=by unfold Knot at kn;simp at kn;exact v6 kn
  rcases this with rfl| rfl
  .refine⟨λs=>?_,.nil,λs hs=>by cases hs⟩
   rw[DR];exact⟨λh=>(by cases h),λh=>(by cases h)⟩
  .refine⟨λs=>?_,Jn _ _,λs hs=>?_⟩
   .rw[Ed,decide_eq_true_iff]
    exact B2
   .rw[B2.mp hs]
    exact⟨.nil,λx hx=>by cases hx⟩
 | succ m ih =>
  intro rows h o k kn;have ne:rows≠[]:=λe=>by rw[e] at h;cases h
  obtain⟨init,r,rfl⟩:∃init r,rows=init++[r]:=⟨rows.dropLast,rows.getLast ne,(List.dropLast_concat_getLast ne).symm⟩;have hl:init.length=m:=by simpa using h
  have oi:=JL o;have I:=ih init hl oi;by_cases c:k<init.length+2
  .rw[Wd oi r c]
   exact(I k c).app oi c
  .have ek:k=init.length+2:=by unfold Knot at kn;simp at kn;lia
   subst ek;have hi:(init++[r])[init.length]?=uA r:=by simp
   obtain⟨t1,l1,l2,r1,r2,_,_⟩:=o.low hi;have kn1:=l1;have kn2:=l2;have I1:=(I _ kn1).app (r:=r) oi kn1;have I2:=(I _ kn2).app (r:=r) oi kn2;have eg:(init++[r]).getD (init.length+2-2) (0,0,0)=r:=by rw[D2,AD,hi];rfl
   have rk:rank n (init++[r]) (init.length+2)=r.1:=by unfold rank;rw[uC yd,eg]
   rw[Xf];refine⟨λs=>?_,?_,λs hs=>?_⟩
   .rw[Co,A7]
    cases s with
    | nil =>
     rw[Dz o kn uM,eg,I1.mem];exact⟨λh=>h.elim id λ⟨u,_,e⟩=>(by cases e),.inl⟩
    | cons x xs =>
     rw[Bo o kn uM,eg,I1.mem];by_cases c1:x<r.1
     .rw[uD c1]
      refine⟨λh=>?_,λh=>by cases h⟩;rcases h with h| ⟨u,_,e⟩
      .rw[off o (Gz kn1) (uP c1 r1)] at h;exact h
      .injection e with e _;lia
     .rw[uC c1]
      by_cases c2:x=r.1
      .rw[uD c2]
       subst c2;refine⟨λh=>?_,λh=>.inr ⟨xs,(I2.mem xs).mpr h,rfl⟩⟩;rcases h with h| ⟨u,hu,e⟩
       .rw[off o (Gz kn1) r1] at h;cases h
       .injection e with _ e
        rw[<- e];exact(I2.mem u).mp hu
      .rw[uC c2]
       refine⟨λh=>h.elim id λ⟨u,_,e⟩=>(by injection e with e _;lia),.inl⟩
   .refine C9.mpr ⟨I1.ord,?_,λs hs u hu=>?_⟩
    .rw[C0]
     exact I2.ord.imp λ{a b} h=>by show 2 ^ _+_<2 ^ _+_;exact ye h
    .obtain⟨v,hv,rfl⟩:=A7.mp hu
     obtain⟨w1,w2⟩:=I1.way s hs;have:=Qc (n:=n) (t:=r.1+1) w1 λx hx=>⟨by have:=(w2 x hx).1;lia,(w2 x hx).2⟩;rw[show n-(r.1+1)=n-1-r.1 from vV] at this;show _<2 ^ (n-1-r.1)+_;exact uW this
   .rw[rk]
    rcases Co.mp hs with hs| hs
    .obtain⟨w1,w2⟩:=I1.way s hs
     exact⟨w1,λx hx=>⟨by have:=(w2 x hx).1;exact wQ r1 this,(w2 x hx).2⟩⟩
    .obtain⟨v,hv,rfl⟩:=A7.mp hs
     obtain⟨w1,w2⟩:=I2.way v hv;refine⟨.cons (λx hx=>by have:=(w2 x hx).1;exact ux r2 this) w1,λx hx=>?_⟩;rcases AW.mp hx with rfl| hx
     .exact⟨AF _,t1⟩
     .exact⟨by have:=(w2 x hx).1;exact wQ r2 this,(w2 x hx).2⟩
noncomputable def hasW(rows:List Row):Nat->Nat->uI->Bool
 | 0,_,_=>false
 | f+1,k,s=>if k<=1 then decide (k=1/\s=[]) else
  match s with
  | []=>hasW rows f (rows.getD (k-2) (0,0,0)).2.1 []
  | x::xs=>if x=((rows.getD (k-2) (0,0,0)).1:Int) then hasW rows f (rows.getD (k-2) (0,0,0)).2.2 xs else hasW rows f (rows.getD (k-2) (0,0,0)).2.1 (x::xs)
def Lz(o:Ok n rows):∀(f k:Nat) (s:uI),k<f->Knot rows k->(hasW rows f k s=true↔∃u:uL,s=up u/\led rows k u=true):=by
 intro f
 induction f with
 | zero=>intro k s h;lia
 | succ f ih =>
  intro k s hk kn;unfold hasW;by_cases c:k<=1
  .rw[uD c,decide_eq_true_iff]
   constructor
   .rintro⟨rfl,rfl⟩
    exact⟨[],rfl,by rw[Ed];rfl⟩
   .rintro⟨u,rfl,h⟩
    have:k=0\/k=1:=v5 c;rcases this with rfl| rfl
    .rw[DR] at h;cases h
    .rw[Ed,decide_eq_true_iff] at h
     subst h;exact⟨rfl,rfl⟩
  .rw[uC c]
   obtain⟨h1,h2,h3,r1,r2,k1,k2⟩:=o.low (BZ kn (u9 c));have qH:=λs=>ih _ s (show(rows.getD (k-2) (0,0,0)).2.1<f from v7 h2 hk c) k1;have tD:=λs=>ih _ s (show(rows.getD (k-2) (0,0,0)).2.2<f from v7 h3 hk c) k2;cases s with
   | nil =>
    rw[qH];constructor
    .rintro⟨u,e,h⟩
     have:u=[]:=Mj e.symm;subst this;exact⟨[],rfl,by rw[Dz o kn (u9 c)];exact h⟩
    .rintro⟨u,e,h⟩
     have:u=[]:=Mj e.symm;subst this;rw[Dz o kn (u9 c)] at h;exact⟨[],rfl,h⟩
   | cons x xs =>
    by_cases e:x=((rows.getD (k-2) (0,0,0)).1:Int)
    .show(if x=_ then _ else _)=true↔_
     rw[uD e,tD];constructor
     .rintro⟨u,rfl,h⟩
      refine⟨(rows.getD (k-2) (0,0,0)).1::u,by rw[e];rfl,?_⟩;rw[Bo o kn (u9 c),uC vH,uD rfl];exact h
     .rintro⟨u,eu,h⟩
      cases u with
      | nil=>cases eu
      | cons y ys =>
       have tO:x::xs=(y:Int)::up ys:=eu;injection tO with e1 e2
       have ey:y=(rows.getD (k-2) (0,0,0)).1:=by lia
       rw[Bo o kn (u9 c),uC (by lia),uD ey] at h;exact⟨ys,e2,h⟩
    .show(if x=_ then _ else _)=true↔_
     rw[uC e,qH];constructor
     .rintro⟨u,eu,h⟩
      refine⟨u,eu,?_⟩;cases u with
      | nil=>cases eu
      | cons y ys =>
       have tO:x::xs=(y:Int)::up ys:=eu;injection tO with e1 e2
       have ne:y≠(rows.getD (k-2) (0,0,0)).1:=λz=>e (yf e1 z);have ge:¬ y<(rows.getD (k-2) (0,0,0)).1:=λz=>by
        rw[off o k1 (uP z r1)] at h;cases h
       rw[Bo o kn (u9 c),uC ge,uC ne];exact h
     .rintro⟨u,eu,h⟩
      refine⟨u,eu,?_⟩;cases u with
      | nil=>cases eu
      | cons y ys =>
       have tO:x::xs=(y:Int)::up ys:=eu;injection tO with e1 e2
       have ne:y≠(rows.getD (k-2) (0,0,0)).1:=λz=>e (yf e1 z);rw[Bo o kn (u9 c)] at h;by_cases c2:y<(rows.getD (k-2) (0,0,0)).1
       .rw[uD c2] at h;cases h
       .rw[uC c2,uC ne] at h;exact h
end
abbrev Sta:=uI
section
variable{t k:Nat}{rows more:List Row}{f:uL->Bool}
structure Lead(rows:List Row)(t k:Nat)(f:uL->Bool):Prop where
 kn:Knot rows k
 up:k<=1\/t<=tieOf rows k
 eq:∀s,led rows k s=f s
def Lead.app(o:Ok n rows)(h:Lead rows t k f):Lead (rows++more) t k f:=by
 refine⟨Gz h.kn,?_,λs=>by rw[Dy o s h.kn,h.eq]⟩;rcases DA 1 k with c| c
 .rw[ADn h.kn c];exact h.up
 .exact .inl c
def Oi(h:∀s,f s=false):Lead rows t 0 f:=⟨by unfold Knot;exact wE,.inl vU,λs=>by rw[DR,h]⟩
def ABi(h:∀s,f s=decide (s=[])):Lead rows t 1 f:=⟨by unfold Knot;exact wH,.inl vn,λs=>by rw[Ed,h]⟩
def Cnt(t:Nat)(more:List Row):Prop:=∀j,(more.filter λr=>decide (r.1=j)).length<=if j<t then 0 else 2 ^ (j-t)
def cnt_nil:Cnt t []:=λj=>By _
def ACu{m1 m2:List Row}(h1:Cnt (t+1) m1)(h2:Cnt (t+1) m2):Cnt t (m1++m2++[(t,kl,kr)]):=λj=>by
 have a:=h1 j;have b:=h2 j;rw[CM,CM,BF,BF];rcases L5 j t with c| c| c
 .rw[uD (by lia)] at a b
  rw[uD c,Dx (by simp;lia)];show _+_+0<=0;lia
 .subst c
  rw[uD (by lia)] at a b;rw[uC vH,IQ,DT (by simp)];show _+_+1<=1;lia
 .rw[uC (by lia)] at a b
  rw[uC (by lia),Dx (by simp;lia)];have e:2 ^ (j-t)=2 ^ (j-(t+1))+2 ^ (j-(t+1)):=by
   rw[show j-t=(j-(t+1))+1 by lia,M7];exact wM
  show _+_+0<=_;lia
end
abbrev StO:=List (Option Int)
section
variable (lef tak pas:Nat->StO->Option StO)(ful:StO->Bool)
noncomputable def stepO(t:Nat)(g:Option StO->uL->Bool)(st:StO):uL->Bool
 | []=>g (lef t st) []
 | x::xs=>if x<t then false else if x=t then g (tak t st) xs else g (lef t st) (x::xs)
noncomputable def semO:Nat->Nat->Option StO->uL->Bool
 | _,_,uB,_=>false
 | 0,t,uA r,s=>match pas t r with
  | none=>false
  | some st=>ful st&&decide (s=[])
 | d+1,t,uA r,s=>match pas t r with
  | none=>false
  | some st=>stepO lef tak t (semO d (t+1)) st s
end
def ZX{t:Nat}{rows:List Row}{lef tak:Nat->StO->Option StO}{g:Option StO->uL->Bool}{st:StO}(o:Ok n rows)(tn:t<n)(hl:Lead rows (t+1) kl (g (lef t st)))(hr:Lead rows (t+1) kr (g (tak t st))) :
  Ok n (rows++[(t,kl,kr)])/\Lead (rows++[(t,kl,kr)]) t (rows.length+2) (stepO lef tak t g st):=by
 have o2:Ok n (rows++[(t,kl,kr)]):=AGk o tn (Vb hl.kn hl.up) (Vb hr.kn hr.up);have e:=AFP rows (t,kl,kr);have kn:=ACI rows (t,kl,kr);refine⟨o2,kn,.inr ?_,λs=>?_⟩
 .unfold tieOf
  rw[e];exact AF _
 .cases s with
  | nil =>
   rw[Dz o2 kn uM,e,Dy o _ hl.kn,hl.eq];rfl
  | cons x xs =>
   rw[Bo o2 kn uM,e,Dy o _ hl.kn,Dy o _ hr.kn,hl.eq,hr.eq];rfl
noncomputable def stayS(st:StO)(p:Nat):Bool:=decide (st.getD p uB=uB\/st.getD p uB=uA (p:Int))
noncomputable def passS1(st:StO)(p:Nat):Option StO:=if st=[] then uA st else if stayS st p=true then uA (st.set p uB) else uB
def passS:StO->uL->Option StO
 | st,[]=>uA st
 | st,p::ps=>(passS1 st p).bind λs=>passS s ps
noncomputable def tiedS(st:StO)(a b:Nat):StO:=match st.getD a uB,st.getD b uB with
 | some i,uA j=>(((st.set a uB).set b uB).set i.toNat (uA j)).set j.toNat (uA i)
 | _,_=>st
noncomputable def JV(st:StO)(a b:Nat):Option StO:=if((AR st.length).filter λp=>decide (p≠a/\p≠b)).all (stayS st)=true then uA [] else uB
noncomputable def takeS(st:StO)(a b:Nat):Option StO :=
 if st=[]\/st.getD a uB=uB\/st.getD b uB=uB then uB
 else if st.getD a uB=uA (b:Int) then JV st a b else uA (tiedS st a b)
structure VldS(z:Nat)(st:StO):Prop where
 len:st=[]\/st.length=z
 pts:∀p i,st.getD p uB=uA i->0<=i/\i<z
def Dq(l:StO)(p q:Nat)(v:Option Int)(h:q≠p):(l.set p v).getD q uB=l.getD q uB:=by
 rw[AD,AD,KG (Bi h)]
def Du(l:StO)(p:Nat)(v:Option Int):(l.set p v).getD p uB=if p<l.length then v else uB:=by
 rw[AD];by_cases c:p<l.length
 .rw[J3 c,uD c]
  rfl
 .rw[EL (by rw[EU];exact uN c),uC c]
  rfl
def VldS.set{st:StO}(h:VldS z st)(p:Nat)(v:Option Int)(hv:∀i,v=uA i->0<=i/\i<z):VldS z (st.set p v):=by
 refine⟨?_,λq i e=>?_⟩
 .rcases h.len with e| e
  .left;rw[e];rfl
  .right;rw[EU];exact e
 .by_cases c:q=p
  .subst c
   rw[Du] at e;split at e
   .exact hv i e
   .cases e
  .rw[Dq _ _ _ _ c] at e
   exact h.pts q i e
set_option tactic.hygienic true in
theorem VldS.tied{st:StO}{a b:Nat}(h:VldS z st):VldS z (tiedS st a b):=by
 unfold tiedS;split
 .rename_i i j ei ej
  exact((((h.set a uB (λ_ z=>by cases z)).set b uB (λ_ z=>by cases z)).set _ _ (λk e=>by cases e;exact h.pts b _ ej)).set _ _ (λk e=>by cases e;exact h.pts a _ ei))
 .exact h
end G
variable{rows:List G.Row}
namespace K31
open PySem L2 G
def onB(bs:uJ)(p x:Nat):Bool:=decide ((p:Int)∈bs.getD x [])
def AAn(hK:X.K=K)(hc:X.calm=true):CallR X (.builtin "max") (λxs H Q=>∃(p:Addr) (ns:uI),xs=[.ref p]/\SqL K H p (ns.map V.int)/\0<ns.length/\∀m,m∈ns->(∀a∈ns,a<=m)->Q (.int m) H):=by subst hK;exact max_list hc
def ADX(hK:X.K=K):OpR X (HK .Add) (rAddL K):=by subst hK;exact RW
def Lp(bs:uJ)(p:Nat):Nat:=match (hits (p:Int) bs).getLast? with
 | none=>0
 | some x=>(x+1).toNat
def ADv{bs:uJ}{p:Nat}{x:Int}(h:x∈hits (p:Int) bs):0<=x/\x<bs.length:=by
 obtain⟨i,t,e,_,rfl⟩:=L2.Fz.mp h;have:=(AG.mp e).1;lia
def AHA{bs:uJ}{p:Nat}{m:Int}(h1:m∈(-1:Int)::hits (p:Int) bs)(h2:∀a∈(-1:Int)::hits (p:Int) bs,a<=m):m=(Lp bs p:Int)-1:=by
 unfold Lp;cases e:(hits (p:Int) bs).getLast? with
 | none =>
  have e':=ON.mp e;rw[e'] at h1;have:m=-1:=by simpa using h1
  rw[this];rfl
 | some x =>
  obtain⟨ne,ex⟩:=OO.mp e|> λ⟨ys,h⟩=>(⟨by rw[h];simp,by simp[h]⟩:∃ne:hits (p:Int) bs≠[],(hits (p:Int) bs).getLast ne=x)
  have xm:x∈hits (p:Int) bs:=by rw[<- ex];exact List.getLast_mem ne
  have x0:=(ADv xm).1;have:=h2 x (AK _ xm);have mx:m=x:=by
   rcases AW.mp h1 with rfl| h1
   ·lia
   .have:=Qd ne (Hz _ 0 bs) m h1
    lia
  dsimp only;lia
def AFk{bs:uJ}{p x:Nat}(xl:x<bs.length)(h:onB bs p x=true):x<Lp bs p:=by
 have hm:=uG h;rw[AD,AI xl] at hm;have xm:(x:Int)∈hits (p:Int) bs:=L2.Fz.mpr ⟨x,_,AI xl,hm,yJ⟩;unfold Lp;cases e:(hits (p:Int) bs).getLast? with
 | none=>rw[ON.mp e] at xm;cases xm
 | some y =>
  obtain⟨ne,ey⟩:=OO.mp e|> λ⟨ys,h⟩=>(⟨by rw[h];simp,by simp[h]⟩:∃ne:hits (p:Int) bs≠[],(hits (p:Int) bs).getLast ne=y)
  have:=Qd ne (Hz _ 0 bs) x xm;dsimp only;lia
noncomputable def nI(ks:uL):List V:=ks.map λ(k:Nat)=>V.int (k:Int)
def DQ(ks:uL):(nI ks).length=ks.length:=by unfold nI;rw[AB]
def RX{ks:uL}{x:V}(h:(nI ks)[j]?=uA x):∃k:Nat,ks[j]?=uA k/\x=.int (k:Int):=by
 unfold nI at h;rw[AU] at h;cases g:ks[j]? with
 | none=>rw[g] at h;cases h
 | some k=>rw[g] at h;cases h;exact⟨k,rfl,rfl⟩
noncomputable def behP(bs:uJ)(z t:Nat):uL:=(AR z).filter λp=>decide (Lp bs p=t)
def ADf(K:As)(C:Addr):Sp:=λvs H Q _=>∃(p:Addr) (t z:Nat) (bs:uJ),vs=[.ref p,.int t]/\WebAt K C H p z bs/\z<=10/\bs.length<=12/\∀(l:Addr) (H':Hp),Same H H'->H l=none->H' l=uA (.lst (nI (behP bs z t)))->Q (.ref l) H'
def AGz:FnScope zl5 zl5 (Ae Kz):=fscp (by decide+kernel)
def AFg(F:Fun K "points_behind" "points_behind" Kz f fd)(T:Txt K mg C)(GS:FnOk P w K mg base CX0 1 fS df zl3 (Ik K C))(bS:Binds K df zl3 [])(mS:Meth K C "size" fS)
  (GA:FnOk P w K mg base CX0 1 fA e7 zl4 (AHG K C)) (bA:Binds K e7 zl4 []) (mA:Meth K C "at" fA):FnOk P w K mg base CX0 2 f fd zl5 (ADf K C):=by
 refine F.ok AGz (λvs H Q E h=>?_) (λa7 A outer s H vs Q E hr h=>?_)
 .obtain⟨p,t,z,bs,rfl,_⟩:=h
  rfl
 obtain⟨p,t,z,bs,rfl,hW,z10,b12,q⟩:=h;obtain⟨dx,j,hp,_⟩:=id hW;refine⟨_,Ag (Ao (Bp (Ae Kz) ["point"] ["number","web"] [1,0] rfl rfl (by decide+kernel) ⟨⟨rfl,by decide+kernel⟩,⟨rfl,by decide+kernel⟩,trivial⟩ (Cq rfl T.range (Aa (Bt (pv 0) T.cl mS GS hr bS .nil pass0) Ac))
   (λ_ _ _=>BJ (i:=0))
   (λ_ _ _=>Br (Am Cp (Ax (AAn (K:=K) rfl rfl) rfl T.max YI (Aa (Ar (ADX (K:=K) rfl) (Cu (Aa (Yk Qa Af) Ac)) (Bq (pv 2) T.cl mA GA hr bA .nil pass0 (Aa (pv 0) Ac))) Ac)) (Ar Em (pv 1) Af)))
   (λ_ _ _=>pv 0))),?_⟩
 refine⟨_,rfl,p,dx,_,rfl,hp,rfl,p,z,bs,rfl,hW,_,rfl,by lia,by lia,λZ hZ=>?_⟩;refine Cg (lo:=0) (n:=(z:Int).toNat) (λj τ H2=>∃o:Option V,τ=[o,uA (.int t),uA (.ref p)]/\Same H H2/\H2 Z=uA (.lst (nI ((AR j).filter λp=>decide (Lp bs p=t))))) ⟨uB,rfl,uw hZ _,Ab⟩ ?_ ?_
 .rintro j τ H2 hj ⟨o,rfl,s2,eZ⟩
  have ej:(0:Int)+j=(j:Int):=vc;rw[ej];refine⟨1,rfl,(by decide),λM hM=>?_⟩;have s3:=s2.trans (uw hM (.lst [.int (-1)]));refine⟨_,rfl,p,dx,_,rfl,s3 _ _ hp,rfl,_,rfl,p,z,j,bs,rfl,hW.same s3,b12,λl H4 s4 hl el=>?_⟩;have aw:(hits (j:Int) bs).length<=bs.length:=Je _ 0 bs;have eM4:=s4 _ _ Ab;refine⟨M,l,_,_,rfl,rfl,uj eM4,uj el,C1 (Az (by rw[AB];show 1+_<=1000;lia)),λN hN=>?_⟩;have s5:=uw hN (.lst (V.int (-1)::(hits (j:Int) bs).map V.int));refine⟨N,(-1:Int)::hits (j:Int) bs,rfl,uj Ab,by simp,λm hm hx=>?_⟩;have e:=AHA hm hx;have s6:=(s3.trans s4).trans s5;have eZ6:=s5 _ _ (s4 _ _ (uw hM _ _ _ eZ));refine⟨_,rfl,_,_,rfl,rfl,rfl,_,rfl,?_⟩;have lz:((AR j).filter λp=>decide (Lp bs p=t)).length<=j:=BV (CS ..) (by rw[Cf];exact AF _);refine ite2 (λc=>?_) (λc=>?_)
  .have c':Lp bs j=t:=by
    have:=uG c;injection this with this
    lia
   refine⟨_,rfl,_,eZ6,Az (by rw[DQ];lia),_,rfl,s6.put hZ _,?_⟩
   .rw[Ab,Fa,CM,DT (by simpa using c')]
    unfold nI;rw[BG];rfl
  .have c':¬ Lp bs j=t:=λz=>c (uE (by rw[e,z]))
   refine⟨_,rfl,s6,?_⟩;rw[Fa,CM,Dx (by simpa using c'),PH,Cc];exact eZ6
 .rintro τ H2 ⟨o,rfl,s2,eZ⟩
  rw[Cn] at eZ;exact q Z H2 s2 hZ eZ
end K31
namespace L2
open PySem PySem.Spec PyProof.Rows
section
variable{es:Array N0}
def Nk(d:Addr)(hd:(d==Eg)=false) :
  MeetsIn prog w (Builtin.«dict.__len__» ⟨[.ref d],[]⟩) (λ_ R s=>∃o es ep,s.heap.get? d=uA o/\o.data=.dict es ep/\R (.ok (.ret (.int es.size s.toks))) {s with toks:=s.toks+1}) :=
 .of_wp λA R s ⟨o,es,ep,ho,hJ,h⟩=>by
  show wpAny _ _ (dictSize d >>= _) _ _ s;unfold dictSize;refine Au (Au (L4 ho hJ (AE ?_)));refine Au (wpAny_pendingCount_other hd ?_);refine U1 ?_;rw[SW];exact h
def AFK(hd:(d==Eg)=false)(hT:s.TypeIs (.ref d) "dict")(ho:s.heap.get? d=uA o)(hJ:o.data=.dict es ep)(hfit:(es.size:Int)<2 ^ 63)
  (h:Q (.int es.size (s.toks+1)) {s with toks:=s.toks+1+1}):wpAny (AN prog w) A (call (.builtin "len") [.ref d]) Q E s:=by
 refine K5 kind_len plain_len entry_len (args_len1 _) ?_;unfold Builtin.«len»;refine Au (m:=oneArg "len" _) (AE ?_);refine Au (m:=callSpecial? (.ref d) (Kj "__len__")) (wpAny_callSpecial?_slot (name:=Kj "__len__") hT QQ
  (SO QQ hT PySem.F.entry_dict_len (PySem.F.args_dict_len_1 _) (Nk d hd) ⟨o,es,ep,ho,hJ,?_⟩))
 refine Au (Ee (AE ?_));refine Au (wpAny_letGo ?_);rw[uC vP];rw[uC (by lia)];exact Au (wpAny_mkInt (AE ⟨_,rfl,h⟩))
end
def Uu:CallR X (.builtin "len") (λxs H Q=>∃p af,xs=[.ref p]/\H p=uA (.dT af)/\Q (.int af.length) H):=by
 intro aa s σ H xs us Q I rr h;obtain⟨p,af,rfl,hp,q⟩:=h;obtain⟨u,rfl,ru⟩:=rr.one;cases ru;obtain⟨z,lo,ts,kt,o,es,ep,h1,h2,h3,h4,h5⟩:=(I.hok p _ hp);have hl:es.size=af.length:=by
  rw[<- A1,h4,AB];exact(AY kt).symm
 refine AFK lo ⟨o,h1,h2.1⟩ h1 h3 (by rw[hl];rw[F6] at z;lia) ?_;exact⟨.int af.length,H,I.tok _,⟨_,by rw[hl]⟩,q⟩
def Itd(lo:Int)(n:Nat):It:=⟨λi _=>i<n,λi H x H'=>H'=H/\x=.int (lo-i),λi _=>n<=i⟩
def AAG(it:Addr)(lo:Int)(n:Nat):Turn P w K tg (Itd lo n) [it] it (λi h=>IsRangeIter h it (lo+(i:Nat)*(-1)) ((n:Int)-(i:Nat)) (-1)) where
 mem:=by simp
 obj:=λi h st b hb=>by
  have e:b=it:=by simpa using hb
  subst e;exact⟨_,st,λv z=>by
   have z':=z;cases z'⟩
 keep:=λi h h' st k=>k it (by simp) _ st
 item:=by
  intro X hP hw hK hc i aa s σ H E I hf st hg;subst hP hw hK;obtain⟨f0,f1,f2,f3,f4,f5⟩:=hf it (by simp);have W:=X9 (prog:=X.prog) (w:=X.w) (I.ok.hd hc) it lo (-1) n;refine W.item i s _ _ hg st λv h' tk hv ah kk=>?_;obtain⟨t,rfl⟩:=hv;have I1:Inv X aa σ H {s with heap:=h',toks:=tk}:=I.turned (λb o hb e=>kk b o (by simpa using hb) e) f0 f1 f3 f4 f5;refine⟨_,rfl,Yp (s:={s with heap:=h',toks:=tk}) (n:="range_iterator") ah rfl rfl (by decide) ⟨.int (lo-i),H,I1,⟨t,?_⟩,⟨rfl,rfl⟩,ah,λb hb=>(hf b hb).1⟩⟩
  congr 1
  lia
 done:=by
  intro X hP hw hK hc i aa s σ H E I hf st hg;subst hP hw hK;obtain⟨f0,f1,f2,f3,f4,f5⟩:=hf it (by simp);exact PV (I.ok.hd hc) st (by have:n<=i:=hg;exact yg this) λh' eb=>⟨rfl,I.turned (t':=s.toks) (λb o hb e=>eb b o hb e) f0 f1 f3 f4 f5⟩
 self:=λ_ _ _ _ _ st h=>PY st h
def rangeSize_down(a b:Int):FF a b (-1)=if b<a then a-b else 0:=by
 unfold FF;simp only[show ¬ ((-1:Int)>0) by decide,if_false];split
 .rw[show(- -1:Int)=1 from rfl,Int.ediv_one];lia
 .rfl
def small_down{a b:Int}(ha:-(2 ^ 62)<=a)(ha':a<2 ^ 62)(hb:-(2 ^ 62)<=b)(k8:b<2 ^ 62):K3 a b (-1)=true:=by
 unfold K3;rw[rangeSize_down];simp only[V9,FV,Bool.or_eq_true,decide_eq_true_eq,beq_iff_eq,show ¬ ((-1:Int)>0) by decide,if_false];split<;>lia
def AAd{R:It->Hp->Prop}{lo hi:Int}{t u v:Tok}(I:Inv X aa σ H s)(h1:-(2 ^ 62)<=lo)(h2:lo<2 ^ 62)(h3:-(2 ^ 62)<=hi)(h4:hi<2 ^ 62)
  (q:R (Itd lo (lo-hi).toNat) H):wpAny (AN X.prog X.w) X.A (QA (.ref s.heap.objs.size)) (PIE X aa σ tg R) E {s with heap:=s.heap.push {cls:=.type "range",data:=.fields #[.int lo t,.int hi u,.int (-1) v]},toks:=tk}:=by
 refine SA (Ya ..) (small_down h1 h2 h3 h4) ?_;have I1:Inv X aa σ H {s with heap:=s.heap.push {cls:=.type "range",data:=.fields #[.int lo t,.int hi u,.int (-1) v]},toks:=tk}:=I.kept λb o e=>AL _ e;refine⟨(s.heap.push {cls:=.type "range",data:=.fields #[.int lo t,.int hi u,.int (-1) v]}).objs.size,[(s.heap.push {cls:=.type "range",data:=.fields #[.int lo t,.int hi u,.int (-1) v]}).objs.size],_,_,H,rfl,
  I1.kept (t':=tk) λb o e=>AL _ e,AAG _ lo (lo-hi).toNat,?_,λb hb=>?_,q⟩
 .have e1:lo+((0:Nat):Int)*(-1)=lo:=by simp
  have e2:(((lo-hi).toNat:Nat):Int)-((0:Nat):Int)=FF lo hi (-1):=by rw[rangeSize_down];split<;>lia
  rw[e1,e2];exact A2 _ rfl
 .have e:b=(s.heap.push {cls:=.type "range",data:=.fields #[.int lo t,.int hi u,.int (-1) v]}).objs.size:=by simpa using hb
  subst e;exact I1.fpOk (AF _) (I1.hok.fresh (AF _))
def AHi(ta:TA):TI:=λσ H R=>ta σ H λvs H1=>∃i j:Int,vs=[.int i,.int j,.int (-1)]/\(-(2 ^ 62)<=i/\i<2 ^ 62/\-(2 ^ 62)<=j/\j<2 ^ 62)/\R (Itd i (i-j).toNat) H1
def Pu{a b:Expr}{ta:TA}{p:Pos}(hg:Gl X "range")(hm:X.mg "range" = uB)(ha:PA X [a,b,c] ta)(hs:autoParam (CC [a,b,c] X.env=[(false,eval a X.env),(false,eval b X.env),(false,eval c X.env)]) zA0._auto_1)(pW:autoParam (CC [b,c] X.env=[(false,eval b X.env),(false,eval c X.env)]) zA0._auto_1) :
  PI X tg (.Call (.Name "range" p) [a,b,c] [] pos) (AHi ta):=by
 intro aa s σ H R I h;refine US (FJ I hg hm JA (DJ (thn (ha pos aa s σ H _ I h) λus s1 hq=>?_) (by rw[hs,pW]) (by rw[pW];rfl)));obtain⟨vs,H1,I1,r1,q1⟩:=hq;obtain⟨i,j,e,⟨q1,q2,q3,q4⟩,q⟩:=q1;subst e;cases r1 with
 | cons r rr =>
  cases rr with
  | cons r' rr =>
   cases rr with
   | cons r'' rr =>
    cases rr;obtain⟨t,rfl⟩:=r;obtain⟨t',rfl⟩:=r';obtain⟨t'',rfl⟩:=r'';exact call_range_3 (by decide) (AAd I1 q1 q2 q3 q4 q) (.inl (P0 (by decide)))
def Tr{lo:Int}{g:TG}{D:Ends}(Pv:Nat->St->Hp->Prop)(h0:Pv 0 σ H)
  (hs:∀i σ H,i<n->Pv i σ H->g (.int (lo-i)) σ H λσ2 H2=>tb {D with nx:=Pv (i+1),ct:=Pv (i+1),bk:=D.nx} σ2 H2) (hd:∀σ H,Pv n σ H->D.nx σ H) :
  ∃W:Nat->Nat->St->Hp->Prop,(∃m,W 0 m σ H)/\∀i m σ H,W i m σ H ->
   ((Itd lo n).stop i H/\D.nx σ H)\/((Itd lo n).go i H/\∃N:St->Hp->Prop,(∀σ' H',N σ' H'->∃m',m'<m/\W (i+1) m' σ' H')/\∀x H',(Itd lo n).yld i H x H'->g x σ H' λσ2 H2=>tb {D with nx:=N,ct:=N,bk:=D.nx} σ2 H2):=by
 refine⟨λi m σ H=>m=n-i/\i<=n/\Pv i σ H,⟨n,by simp,By _,h0⟩,?_⟩;rintro i m σ H ⟨rfl,hi,p⟩;by_cases a8:i<n
 .refine .inr ⟨a8,Pv (i+1),λσ' H' p'=>⟨n-(i+1),vB a8,rfl,a8,p'⟩,λx H' y=>?_⟩
  obtain⟨e,y⟩:=y;subst e y;exact hs i σ _ a8 p
 .have e:i=n:=vk hi a8
  subst e;exact .inl ⟨AF _,hd σ H p⟩
def AAf{bs:List Bool}(r:Vals (bs.map V.bl) us):us=bs.map KF:=by
 induction bs generalizing us with
 | nil=>cases r;rfl
 | cons b bs ih =>
  rw[B8] at r;cases r with
  | cons h t =>
   rw[ih t,B8]
   congr 1
def HS(hc:X.calm=true):CallR X (.builtin "all") (λxs H Q=>∃(p:Addr) (bs:List Bool),xs=[.ref p]/\SqL X.K H p (bs.map V.bl)/\Q (.bl (bs.all id)) H):=by
 intro aa s σ H xs us Q I r h;obtain⟨p,bs,rfl,hq,q⟩:=h;obtain⟨u0,rfl,ru⟩:=r.one;cases ru;obtain⟨ag,rv,pl,hz⟩:=I.list hq;have e:=AAf rv;subst e;have hl:=pl.isList;have a8:p<s.heap.objs.size:=by obtain⟨_,e,_⟩:=hl;exact BH e
 refine call_all_walk (OB hl ?_);refine⟨s.heap.objs.size,[s.heap.objs.size,p],[s.heap.objs.size],(bs.map KF).toArray.size,_,_,λi=>(bs[i]?).getD true,rfl,YV (A:=X.A.in1) (I.ok.hd hc) _ p (BY a8) (bs.map KF).toArray,
  ⟨⟨_,A2 _ rfl,rfl,rfl⟩,hl.push _⟩,λi v s' Q' E' hP hQ=>?_,λh' tk hk=>?_⟩
 .have nX:(bs.map KF)[i]?=uA v:=by simpa using hP
  rw[AU] at nX;cases g:bs[i]? with
  | none=>rw[g] at nX;cases nX
  | some b =>
   rw[g] at nX;cases nX;simp only[g,Option.getD_some] at hQ;exact G9 hQ
 .have e:((AR (bs.map KF).toArray.size).all λi=>(bs[i]?).getD true)=bs.all id:=by
   rw[AV,AB];exact LSm.range_all bs
  rw[e];exact⟨.bl (bs.all id),H,I.kept (LSm.kept_iter hk),rfl,q⟩
end L2
namespace L2
def smallN(h:n<=100000):n<PySem.sizeLine:=EV h (by decide)
end L2
namespace K31s
open PySem L2 G
def top(i:Nat):Stmt:=J6.main.body.getD i (.Pass ⟨0,0,0,0⟩)
abbrev YM:Stmt:=top 8
abbrev AGJ:Stmt:=top 9
abbrev LR:Stmt:=top 11
abbrev Rp:Stmt:=top 12
abbrev sIn:Stmt:=top 13
abbrev NQ:Stmt:=inClass (top 7) 0
abbrev ADJ:Stmt:=inClass (top 7) 1
abbrev Vk:Stmt:=inClass (top 7) 2
abbrev AGx:Stmt:=inClass (top 7) 3
def ra:¬ (("amount" : Str) = "rows"):=by decide+kernel
def ha:¬ (("amount" : Str) = "head"):=by decide+kernel
def hr':¬ (("rows" : Str) = "head"):=by decide+kernel
def flds(z:Int)(j:Addr)(h:Int):List (Str×V):=putF "head" (.int h) (putF "rows" (.ref j) (putF "amount" (.int z) []))
def HJ(z:Int)(j:Addr)(h:Int):(flds z j h).lookup ("amount" : Str)=uA (.int z):=by
 unfold flds;rw[Aj,uC ha,Aj,uC ra,Aj,uD rfl]
def Zt(z:Int)(j:Addr)(h:Int):(flds z j h).lookup ("rows" : Str)=uA (.ref j):=by
 unfold flds;rw[Aj,uC hr',Aj,uD rfl]
structure Txt(K:As)(mg:Str->Option AA)(C:Addr):Prop where
 cl:Cls K C
 nA:NoAttr K C "amount"
 nR:NoAttr K C "rows"
 nH:NoAttr K C "head"
 mgC:mg "Sieve" = uA (.ref C)
 len:mg "len" = uB
 range:mg "range" = uB
 int:mg "int" = uB
 sorted:mg "sorted" = uB
 set:mg "set" = uB
 tuple:mg "tuple" = uB
 list:mg "list" = uB
 bool:mg "bool" = uB
 enum:mg "enumerate" = uB
 all:mg "all" = uB
 isi:mg "isinstance" = uB
 min:mg "min" = uB
 rev:mg "reversed" = uB
def rRow(K:As):Rep Row:=λH r v=>∃p,v=.ref p/\SqT K H p [.int r.1,.int r.2.1,.int r.2.2]
def Cy:TRep (rRow K):=by rintro H H' r v t ⟨p,a,b⟩;exact⟨p,a,t.seq b⟩
def SvAt(K:As)(C:Addr)(H:Hp)(p:Addr)(z:Int)(rows:List Row)(h:Int):Prop:=∃dx j,H p=uA (.ins C dx (flds z j h))/\rTup K (rRow K) H rows (.ref j)
def SvAt.same{z hd:Int}{rows:List Row}(h:SvAt K C H p z rows hd)(e:Same H H'):SvAt K C H' p z rows hd:=by
 obtain⟨dx,j,h1,h2⟩:=h;exact⟨dx,j,e _ _ h1,Aq Cy _ _ _ _ e.ts h2⟩
def Jv(K:As)(C:Addr):Sp:=λvs H Q _=>∃(p dx l:Addr) (z h:Int) (xs:List V) (rows:List Row),vs=[.ref p,.int z,.ref l,.int h]/\H p=uA (.ins C dx [])/\SqL K H l xs/\BN (rRow K H) rows xs /\
 ∀(H':Hp),(∀b o,H b=uA o->b≠p->H' b=uA o)->SvAt K C H' p z rows h->Q .non H'
def ADK(K:As)(C:Addr):Sp:=λvs H Q _=>∃(p:Addr) (z h:Int) (rows:List Row),vs=[.ref p]/\SvAt K C H p z rows h/\Q (.int z) H
def ADL(K:As)(C:Addr):Sp:=λvs H Q _=>∃(p:Addr) (z h:Int) (rows:List Row),vs=[.ref p]/\SvAt K C H p z rows h/\Q (.int h) H
def Kr(K:As)(C:Addr):Sp:=λvs H Q _=>∃(p:Addr) (z h:Int) (rows:List Row),vs=[.ref p]/\SvAt K C H p z rows h/\∀(l:Addr) (ys:List V) (H':Hp),Same H H'->H l=none->H' l=uA (.lst ys)->BN (rRow K H') rows ys->Q (.ref l) H'
def AHM:FnScope zl3 zl3 (Ae ADJ):=fscp (by decide+kernel)
def ADu(F:Fun K "many" "Sieve.many" ADJ f fd)(T:Txt K mg C):FnOk P w K mg base CX0 1 f fd zl3 (ADK K C):=by
 refine F.ok AHM (λvs H Q E h=>?_) (λa7 A outer s H vs Q E hr h=>?_)
 .obtain⟨p,z,hd,rows,rfl,_⟩:=h
  rfl
 obtain⟨p,z,hd,rows,rfl,⟨dx,j,hP,hj⟩,q⟩:=h;refine⟨_,Ag (Ao (Bg (pv 0) rfl)),?_⟩;exact⟨_,rfl,p,C,dx,_,_,rfl,hP,T.cl,T.nA,HJ _ _ _,q⟩
def AFa:FnScope zl3 zl3 (Ae Vk):=fscp (by decide+kernel)
def ACf(F:Fun K "knots" "Sieve.knots" Vk f fd)(T:Txt K mg C):FnOk P w K mg base CX0 1 f fd zl3 (Kr K C):=by
 refine F.ok AFa (λvs H Q E h=>?_) (λa7 A outer s H vs Q E hr h=>?_)
 .obtain⟨p,z,hd,rows,rfl,_⟩:=h
  rfl
 obtain⟨p,z,hd,rows,rfl,⟨dx,j,hP,j',xs,ej,hj,pj⟩,q⟩:=h;cases ej;refine⟨_,Ag (Ao (BX Dp rfl T.list EG (Aa (Bg (pv 0) rfl) Ac))),?_⟩;refine⟨_,rfl,p,C,dx,_,_,rfl,hP,T.cl,T.nR,Zt _ _ _,j,xs,rfl,.inr hj,λl hl=>?_⟩;refine q l xs _ (uw hl _) hl Ab ?_;exact ut (λa b=>Cy H _ a b (TSm.new hl)) pj
def Zk(z:Int)(j:Addr)(h:Int):(flds z j h).lookup ("head" : Str)=uA (.int h):=by
 unfold flds;rw[Aj,uD rfl]
def AHa:FnScope zl3 zl3 (Ae AGx):=fscp (by decide+kernel)
def AGI(F:Fun K "top" "Sieve.top" AGx f fd)(T:Txt K mg C):FnOk P w K mg base CX0 1 f fd zl3 (ADL K C):=by
 refine F.ok AHa (λvs H Q E h=>?_) (λa7 A outer s H vs Q E hr h=>?_)
 .obtain⟨p,z,hd,rows,rfl,_⟩:=h
  rfl
 obtain⟨p,z,hd,rows,rfl,⟨dx,j,hP,hj⟩,q⟩:=h;refine⟨_,Ag (Ao (Bg (pv 0) rfl)),?_⟩;exact⟨_,rfl,p,C,dx,_,_,rfl,hP,T.cl,T.nH,Zk _ _ _,q⟩
def Wt:FnScope zl6 zl6 (Ae NQ):=fscp (by decide+kernel)
def JL(F:Fun K "__init__" "Sieve.__init__" NQ f fd)(T:Txt K mg C):FnOk P w K mg base CX0 1 f fd zl6 (Jv K C):=by
 refine F.ok Wt (λvs H Q E h=>?_) (λa7 A outer s H vs Q E hr h=>?_)
 .obtain⟨p,dx,l,z,h,xs,rows,rfl,_⟩:=h
  rfl
 obtain⟨p,dx,l,z,h,xs,rows,rfl,hP,hS,pa,q⟩:=h;refine⟨_,Ad (El (pv 0) (pv 1) rfl)
  (Ad (El (pv 0) (BX CT rfl T.tuple De (Aa (pv 2) Ac)) rfl)
  (Ag (El (pv 0) (pv 3) rfl))),?_⟩
 have sl:∀{H:Hp}{fs gs:List (Str×V)}{a:Addr}{zs:List V},H p=uA (.ins C dx fs)->SqL K H a zs->SqL K (upd H p (.ins C dx gs)) a zs:=λ{H fs gs a zs} hP h=>by
  rcases h with(h| ⟨o,h⟩)| h
  .exact .inl (.inl (by rw[Ah (DP h hP (by intro z;cases z))];exact h))
  .exact .inl (.inr ⟨o,by rw[Ah (DP h hP (by intro z;cases z))];exact h⟩)
  .exact .inr h
 have ts:∀{H:Hp}{fs gs:List (Str×V)},H p=uA (.ins C dx fs)->TSm H (upd H p (.ins C dx gs)):=λ{H fs gs} hP b u hb t=>by
  rw[Ah ?_]
  .exact hb
  .rintro rfl
   rw[hP] at hb;cases hb;obtain⟨ys,e| ⟨o,e⟩⟩:=t
   .cases e
   .cases e
 refine⟨_,rfl,_,rfl,p,C,dx,[],rfl,hP,T.cl,T.nA,(by decide),?_⟩;refine⟨_,rfl,l,xs,rfl,.inl ⟨sl hP hS,λj hj=>?_⟩⟩;have jp:p≠j:=λe=>by rw[<- e,Ab] at hj;cases hj
 have qV:(upd (upd H p (.ins C dx (putF "amount" (.int z) []))) j (.tup xs)) p=uA (.ins C dx (putF "amount" (.int z) [])):=by rw[Ah jp,Ab]
 have t2:=ts (gs:=putF "rows" (.ref j) (putF "amount" (.int z) [])) qV;refine⟨_,rfl,p,C,dx,_,rfl,qV,T.cl,T.nR,(by show 1<1000;decide),?_⟩;have t3:=ts (H:=upd (upd (upd H p (.ins C dx (putF "amount" (.int z) []))) j (.tup xs)) p (.ins C dx (putF "rows" (.ref j) (putF "amount" (.int z) [])))) (gs:=flds z j h) Ab;refine⟨_,rfl,_,rfl,p,C,dx,_,rfl,Ab,T.cl,T.nH,(by show 2<1000;decide),?_⟩;refine q _ (λb o e hb=>?_) ⟨dx,j,Ab,j,xs,rfl,t3.seq (t2.seq (uk Ab)),?_⟩
 .rw[Ah hb,Ah hb,Ah ?_,Ah hb]
  .exact e
  .rintro rfl
   rw[Ah hb,e] at hj;cases hj
 .exact ut (λa b r=>Cy _ _ _ _ t3 (Cy _ _ _ _ t2 (Cy _ _ _ _ (TSm.new hj) (Cy _ _ _ _ (ts hP) r)))) pa
abbrev Sq(K:As)(H:Hp)(l:Addr)(xs:List V):Prop:=SqL K H l xs\/SqT K H l xs
def Sq.same(h:Sq K H l xs)(e:Same H H'):Sq K H' l xs:=h.elim (λz=>.inl (e.seq z)) λz=>.inr (e.ts.seq z)
def rIxA(K:As):R2:=λx y H Q=>rIxL K x y H Q\/rIxT K x y H Q
def Gf:IxR X (rIxA X.K):=by
 intro a5 bm aa s σ H x y v u Q I rx ry h hs;rcases h with h| h
 .exact Bm a5 bm aa s σ H x y v u Q I rx ry h hs
 .exact Bc a5 bm aa s σ H x y v u Q I rx ry h hs
def Rg(hK:X.K=K):IxR X (rIxA K):=by subst hK;exact Gf
def ixA{i:Int}{Q:VK}(h:Sq K H p xs)(e:atI xs i=uA v)(q:Q v H):rIxA K (.ref p) (.int i) H Q :=
 h.elim (λz=>.inl ⟨p,_,i,_,rfl,rfl,z,e,q⟩) λz=>.inr ⟨p,_,i,_,rfl,rfl,z,e,q⟩
def rRowA(K:As)(H:Hp)(r:Row)(v:V):Prop:=∃p,v=.ref p/\Sq K H p [.int r.1,.int r.2.1,.int r.2.2]
def AAT{r:Row}(e:Same H H')(h:rRowA K H r v):rRowA K H' r v:=by obtain⟨p,a,b⟩:=h;exact⟨p,a,b.same e⟩
def RowsAt(K:As)(H:Hp)(l:Addr)(rows:List Row):Prop:=∃xs,Sq K H l xs/\BN (rRowA K H) rows xs
def RowsAt.same{rows:List Row}(h:RowsAt K H l rows)(e:Same H H'):RowsAt K H' l rows:=by obtain⟨xs,a,b⟩:=h;exact⟨xs,a.same e,ut (λ_ _ r=>AAT e r) b⟩
def RowsAt.of{rows:List Row}(h:rLst K (rRow K) H rows (.ref l)):RowsAt K H l rows:=by
 obtain⟨l',xs,e,hS,pa⟩:=h;cases e;exact⟨xs,.inl hS,ut (by rintro _ _ ⟨p,a,b⟩;exact⟨p,a,.inr b⟩) pa⟩
abbrev iN(s:uL):List V:=s.map λ(x:Nat)=>V.int (x:Int)
def Qf{rows:List Row}{k:Nat}(h:RowsAt K H l rows)(kn:Knot rows k)(h2:2<=k) :
  ∃xs p,Sq K H l xs/\atI xs ((k:Int)-2)=uA (.ref p)/\Sq K H p [.int (rows.getD (k-2) (0,0,0)).1,.int (rows.getD (k-2) (0,0,0)).2.1,.int (rows.getD (k-2) (0,0,0)).2.2]:=by
 obtain⟨xs,hS,pa⟩:=h;obtain⟨v,hv,p,rfl,hp⟩:=ug pa (BZ kn h2);exact⟨xs,p,hS,by rw[show(k:Int)-2=((k-2:Nat):Int) from xL h2];exact Bk hv,hp⟩
def ABf{rows:List Row}{k:Nat}(h:rLst K (rRow K) H rows (.ref l))(kn:Knot rows k)(h2:2<=k) :
  ∃xs p,SqL K H l xs/\atI xs ((k:Int)-2)=uA (.ref p)/\SqT K H p [.int (rows.getD (k-2) (0,0,0)).1,.int (rows.getD (k-2) (0,0,0)).2.1,.int (rows.getD (k-2) (0,0,0)).2.2]:=by
 obtain⟨l',xs,e,hS,pa⟩:=h;cases e;obtain⟨v,hv,p,rfl,hp⟩:=ug pa (BZ kn h2);exact⟨xs,p,hS,by rw[show(k:Int)-2=((k-2:Nat):Int) from xL h2];exact Bk hv,hp⟩
def at0{a b c:V}:atI [a,b,c] 0=uA a:=rfl
def at1{a b c:V}:atI [a,b,c] 1=uA b:=rfl
def at2{a b c:V}:atI [a,b,c] 2=uA c:=rfl
noncomputable def lay(rows:List Row)(t:Nat)(rc:uL)(j:Nat):uL:=(rc.take j).filter λk=>decide (tieOf rows k=t)
def Sh{rows:List Row}{t:Nat}{k:Nat}(h:rc[j]?=uA k):lay rows t rc (j+1)=lay rows t rc j++if tieOf rows k=t then [k] else []:=by
 unfold lay;rw[D9,h,CM];by_cases c:tieOf rows k=t
 .simp[c]
 .simp[c]
def JZ{rows:List Row}{t:Nat}{k:Nat}:k∈lay rows t rc rc.length↔k∈rc/\tieOf rows k=t:=by
 unfold lay;rw[CU,BO];simp
def Ju(h:n<=20000):n<sizeLine:=EV h (by decide)
def has(af:List (Key×V))(k:Nat):Prop:=(valV af (.inl (k:Int))).isSome=true
def has_put{af:List (Key×V)}{a k:Nat}:has (putK af (.inl (a:Int)) v) k↔k=a\/has af k:=by
 unfold has;rw[FT];by_cases e:k=a
 .subst e;simp
 .rw[uC (λz=>e (by injection z with z;exact uy z))]
  exact⟨.inr,λh=>h.resolve_left e⟩
noncomputable def rcOf(af:List (Key×V))(i:Nat):uL:=((AR i).map (·+2)).filter λk=>(valV af (.inl (k:Int))).isSome
def Pg(af:List (Key×V))(i:Nat):rcOf af (i+1)=rcOf af i++if(valV af (.inl ((i+2:Nat):Int))).isSome=true then [i+2] else []:=by
 unfold rcOf;rw[Fa,BG,CM,JU,EF,PH]
def Mv{af:List (Key×V)}{k:Nat}:k∈rcOf af i↔2<=k/\k<i+2/\has af k:=by
 unfold rcOf has;rw[BO,A7];constructor
 .rintro⟨⟨a,ha,rfl⟩,h⟩
  rw[AZ] at ha;exact⟨uM,vI ha,h⟩
 .rintro⟨h1,h2,h3⟩
  exact⟨⟨k-2,AZ.mpr (vY h2 h1),wN h1⟩,h3⟩
def ACy(af:List (Key×V))(i:Nat):(rcOf af i).length<=i:=by
 unfold rcOf;refine BV (CS _ _) ?_;rw[AB,Cf];exact AF _
def getD_map:∀(rows:List Row),(AR rows.length).map (λi=>rows.getD i (0,0,0))=rows:=λrows=>by
 apply Hc;intro i;by_cases c:i<rows.length
 .simp[c]
 .simp[c]
def ADk{rows:List Row}{t:Nat}(h:rc.Sublist ((AR m).map (·+2)))(hm:m<=rows.length):(lay rows t rc j).length<=(rows.filter λr=>decide (r.1=t)).length:=by
 have h1:(lay rows t rc j).Sublist (((AR rows.length).map (·+2)).filter λk=>decide (tieOf rows k=t)):=by
  unfold lay;exact(((J7 _ _).trans h).trans ((List.range_sublist.mpr hm).map _)).filter _
 refine BV h1.length_le ?_;have e:(rows.filter λr=>decide (r.1=t))=(((AR rows.length).filter λi=>decide ((rows.getD i (0,0,0)).1=t)).map λi=>rows.getD i (0,0,0)):=by
  conv=>lhs;rw[<- getD_map rows]
  rw[K7];rfl
 rw[e,AB,K7,AB];exact AF _
def AGh(af:List (Key×V))(i:Nat):(rcOf af i).Sublist ((AR i).map (·+2)):=Sa
def AHV(K:As):Sp:=λvs H Q _=>∃(d p:Addr) (r:Row) (x y:Nat) (af:List (Key×V)),vs=[.ref d,.ref p]/\H d=uA (.dK af)/\rRowA K H r (.ref p)/\valV af (.inl (r.2.1:Int))=uA (.int x)/\valV af (.inl (r.2.2:Int))=uA (.int y) /\
 ∀t,H t=none->Q (.ref t) (upd H t (.tup [.int r.1,.int x,.int y]))
def YJ(K:As):Sp:=λvs H Q _=>∃(l:Addr) (n top:Nat) (rows:List Row),vs=[.ref l,.int top]/\RowsAt K H l rows/\Ok n rows/\rows.length<=4100/\Knot rows top /\
 ∀(D:Addr) (rc:uL) (H':Hp),Same H H'->H D=none->H' D=uA (.lst (iN rc))->Closed rows rc->(top<=1\/top∈rc)->(∀t j,(lay rows t rc j).length<=(rows.filter λr=>decide (r.1=t)).length)->(∀k∈rc,k=top\/∃k'∈rc,k<k'/\(outOf rows k'=k\/intoOf rows k'=k))->Q (.ref D) H'
def AIO:FnScope zl7 zl7 (Ae sIn):=fscp (by decide+kernel)
def AHl(F:Fun K "row_in_places" "row_in_places" sIn f fd):FnOk P w K mg base CX0 1 f fd zl7 (AHV K):=by
 refine F.ok AIO (λvs H Q E h=>?_) (λa7 A outer s H vs Q E hr h=>?_)
 .obtain⟨d,p,r,x,y,af,rfl,_⟩:=h
  rfl
 obtain⟨d,p,r,x,y,af,rfl,hd,⟨p',e,hp⟩,hx,hy,q⟩:=h;cases e;refine⟨_,Ag (Ao (Cr (Aa (Ay Gf (pv 1) Af) (Aa (Qe (CN hr) (pv 0) (Ay Gf (pv 1) Af) (λ_ _=>rfl)) (Aa (Qe (CN hr) (pv 0) (Ay Gf (pv 1) Af) (λ_ _=>rfl)) Ac))))),?_⟩;refine⟨_,rfl,ixA hp at0 ⟨_,rfl,_,rfl,ixA hp at1 ⟨d,.int x,rfl,?_,_,rfl,_,rfl,ixA hp at2 ⟨d,.int y,rfl,?_,(by show 3<=sizeLine;decide),q⟩⟩⟩⟩
 .have:=DGet.k (k:=.inl (r.2.1:Int)) hd
  rw[hx] at this;exact this
 .have:=DGet.k (k:=.inl (r.2.2:Int)) hd
  rw[hy] at this;exact this
def Ro:FnScope ["rows","top","reached","knot"] zl22 (Ae Rp):=fscp (by decide+kernel)
def ACJ(F:Fun K "reached_knots" "reached_knots" Rp f fd)(T:Txt K mg C):FnOk P w K mg base CX0 1 f fd zl22 (YJ K):=by
 refine F.ok Ro (λvs H Q E h=>?_) (λa7 A outer s H vs Q E hr h=>?_)
 .obtain⟨l,n,top,rows,rfl,_⟩:=h
  rfl
 obtain⟨l,n,top,rows,rfl,hL,ok,r60,kt,q⟩:=h;refine⟨_,Ad (Ak (i:=2) Ro.nd (Xw (Nb (pv 1) FZ Xv) rfl rfl (by intro z;cases z) (by decide)))
  (Ad (Cv CY rfl (Pu rfl T.range (Aa (pv 1) (Aa Af (Aa (Yk Qa Af) Ac)))) (BP (i:=3) Ro.nd)
   (Ag (Bl (Im (ACN (CN hr) (pv 3) (pv 2)))
    (Ad (Kh (CN hr) (pv 2) (Ay Gf (Ay Gf (pv 0) (Ar Em (pv 3) Af)) Af) FZ rfl)
    (Ag (Kh (CN hr) (pv 2) (Ay Gf (Ay Gf (pv 0) (Ar Em (pv 3) Af)) Af) FZ rfl))) BK)))
  (Ag (Ao (Bp (Ae Rp) ["knot"] ["reached"] [2] rfl rfl (by decide+kernel) ⟨⟨rfl,by decide+kernel⟩,trivial⟩ (Zj rfl T.range (Aa Af (Aa (Ar Bv (pv 1) Af) Ac)))
   (λ_ _ _=>BJ (i:=0))
   (λ_ _ _=>Br (Im (ACN (CN hr) (pv 0) (pv 1)) rfl))
   (λ_ _ _=>pv 0))))),?_⟩
 refine λD hD=>⟨_,rfl,Ab,[(.inl (top:Int),.bl true)],rfl,(by show 1<=15;decide),?_⟩;have s0:Same H (upd (upd H D (.dK [])) D (.dK (mergeK [] [(.inl (top:Int),.bl true)]))):=λb o e=>by rw[Ah (Ai e hD),Ah (Ai e hD)];exact e
 refine⟨_,rfl,_,rfl,(top:Int),1,rfl,⟨by lia,by have:top<rows.length+2:=kt;lia,by lia,by lia⟩,?_⟩;refine Tr (lo:=(top:Int)) (n:=((top:Int)-1).toNat) (λi σ H2=>∃(af:List (Key×V)) (kv:Option V),σ=[uA (.ref l),uA (.int top),uA (.ref D),kv]/\Same H H2/\H2 D=uA (.dK af)/\af.length<=1+2*i/\has af top /\
   (∀k:Nat,top<k+i->k<=top->has af k->has af (outOf rows k)/\has af (intoOf rows k))/\(∀k:Nat,has af k->k<=top)/\∀k:Nat,2<=k->has af k->k=top\/∃k',2<=k'/\has af k'/\k<k'/\(outOf rows k'=k\/intoOf rows k'=k))
  ⟨_,uB,rfl,s0,Ab,by show 1<=1;decide,?_,λk h1 h2=>by lia,?_,?_⟩ ?_ ?_
 .show has (putK [] (.inl (top:Int)) (.bl true)) top
  exact has_put.mpr (.inl rfl)
 .intro k hk
  rcases has_put.mp (show has (putK [] (.inl (top:Int)) (.bl true)) k from hk) with e| e
  .exact vw e
  .exact uH e (by intro z;cases z)
 .intro k _ hk
  rcases has_put.mp (show has (putK [] (.inl (top:Int)) (.bl true)) k from hk) with e| e
  .exact .inl e
  .exact uH e (by intro z;cases z)
 .rintro i σ H2 hi ⟨af,kv,rfl,sm,eD,hl,ht,hc,hb,hpar⟩
  obtain⟨k,ek,k2⟩:∃k:Nat,(top:Int)-i=k/\2<=k:=⟨((top:Int)-i).toNat,by lia,by lia⟩;have kk:Knot rows k:=by unfold Knot at *;lia
  rw[ek];refine⟨_,rfl,_,rfl,D,_,rfl,DGet.k (k:=.inl (k:Int)) eD,_,rfl,?_⟩;refine ite2 (λc=>?_) (λc=>?_)
  .have hL2:=hL.same sm
   obtain⟨xs,p,hS,ha,hp⟩:=Qf hL2 kk k2;obtain⟨_,lo,li,_⟩:=ok.low (BZ kk k2);have z1:af.length<sizeLine:=Ju (by unfold Knot at kt;lia);refine⟨_,rfl,_,rfl,_,rfl,_,_,rfl,rfl,ixA hS ha (ixA hp at1 ⟨D,_,rfl,.inl ⟨af,.inl ((rows.getD (k-2) (0,0,0)).2.1:Int),eD,rfl,z1,rfl⟩,?_⟩)⟩;have l1:=Ce af (.inl ((rows.getD (k-2) (0,0,0)).2.1:Int)) (.bl true);have z2:(putK af (.inl ((rows.getD (k-2) (0,0,0)).2.1:Int)) (.bl true)).length<sizeLine:=Ju (by unfold Knot at kt;lia);have sm2:Same H (upd H2 D (.dK (putK af (.inl ((rows.getD (k-2) (0,0,0)).2.1:Int)) (.bl true)))):=λb o e=>by rw[Ah (Ai e hD)];exact sm b o e
   obtain⟨xs2,p2,hS2,ha2,kA⟩:=Qf (hL.same sm2) kk k2;refine⟨_,rfl,_,rfl,_,rfl,_,_,rfl,rfl,ixA hS2 ha2 (ixA kA at2 ⟨D,_,rfl,.inl ⟨_,.inl ((rows.getD (k-2) (0,0,0)).2.2:Int),Ab,rfl,z2,rfl⟩,?_⟩)⟩;have l2:=Ce (putK af (.inl ((rows.getD (k-2) (0,0,0)).2.1:Int)) (.bl true)) (.inl ((rows.getD (k-2) (0,0,0)).2.2:Int)) (.bl true);have hup:∀k',has (putK (putK af (.inl ((rows.getD (k-2) (0,0,0)).2.1:Int)) (.bl true)) (.inl ((rows.getD (k-2) (0,0,0)).2.2:Int)) (.bl true)) k'->k'=outOf rows k\/k'=intoOf rows k\/has af k':=λk' h=>by
    rcases has_put.mp h with e| h
    .exact .inr (.inl e)
    rcases has_put.mp h with e| h
    .exact .inl e
    exact .inr (.inr h)
   have hkk:=c;have kle:k<=top:=by lia
   have lo':outOf rows k<k:=by unfold outOf;exact va lo k2
   have li':intoOf rows k<k:=by unfold intoOf;exact va li k2
   refine⟨_,_,rfl,λb o e=>?_,Ab,by lia,has_put.mpr (.inr (has_put.mpr (.inr ht))),λk' h1 h2 h3=>?_,λk' h=>?_,λk' h2 h=>?_⟩
   .rw[Ah (Ai e hD),Ah (Ai e hD)]
    exact sm b o e
   .by_cases e:k'=k
    .subst e
     exact⟨has_put.mpr (.inr (has_put.mpr (.inl rfl))),has_put.mpr (.inl rfl)⟩
    .have h4:has af k':=by
      rcases has_put.mp h3 with e' | h3
      ·lia
      rcases has_put.mp h3 with e' | h3
      ·lia
      exact h3
     obtain⟨y1,y2⟩:=hc k' (xM ek h1 e) h2 h4;exact⟨has_put.mpr (.inr (has_put.mpr (.inr y1))),has_put.mpr (.inr (has_put.mpr (.inr y2)))⟩
   .rcases hup k' h with e| e| e
    .exact xN ek e lo'
    .exact xN ek e li'
    .exact hb k' e
   .have keep:has (putK (putK af (.inl ((rows.getD (k-2) (0,0,0)).2.1:Int)) (.bl true)) (.inl ((rows.getD (k-2) (0,0,0)).2.2:Int)) (.bl true)) k:=has_put.mpr (.inr (has_put.mpr (.inr hkk)))
    rcases hup k' h with e| e| e
    .exact .inr ⟨k,k2,keep,xt e lo',.inl e.symm⟩
    .exact .inr ⟨k,k2,keep,xt e li',.inr e.symm⟩
    .rcases hpar k' h2 e with z| ⟨u,z1,z2,z3⟩
     .exact .inl z
     .exact .inr ⟨u,z1,has_put.mpr (.inr (has_put.mpr (.inr z2))),z3⟩
  .refine⟨af,_,rfl,sm,eD,by lia,ht,λk' h1 h2 h3=>?_,hb,hpar⟩
   by_cases e:k'=k
   .subst e
    exact uH h3 c
   .exact hc k' (xM ek h1 e) h2 h3
 .rintro σ H2 ⟨af,kv,rfl,sm,eD,hl,ht,hc,hb,hpar⟩
  refine⟨_,rfl,_,_,rfl,rfl,2,(top:Int)+1,rfl,⟨by lia,by lia,by lia,by unfold Knot at kt;lia⟩,λL lP=>?_⟩;have tQ:D≠L:=λe=>by rw[<- e,eD] at lP;cases lP
  have nL:=sm.free lP;refine Cg (lo:=2) (n:=((top:Int)+1-2).toNat) (λi τ H3=>∃kv:Option V,τ=[kv,uA (.ref D)]/\Same H H3/\H3 D=uA (.dK af)/\H3 L=uA (.lst (iN (rcOf af i)))) ⟨uB,rfl,sm.trans (uw lP _),by rw[Ah tQ];exact eD,Ab⟩ ?_ ?_
  .rintro i τ H3 hi ⟨kv,rfl,qC,qM,qu⟩
   have ei:(2:Int)+i=((i+2:Nat):Int):=by lia
   rw[ei];refine⟨_,rfl,_,rfl,D,_,rfl,DGet.k (k:=.inl ((i+2:Nat):Int)) qM,_,rfl,?_⟩;have lr:=ACy af i;refine ite2 (λc=>?_) (λc=>?_)
   .refine⟨_,rfl,_,qu,Ju (by rw[AB];unfold Knot at kt;lia),_,rfl,λb o e=>?_,by rw[Ah tQ];exact qM,?_⟩
    .rw[Ah (Ai e nL)]
     exact qC b o e
    .rw[Ab,Pg,uD c]
     unfold iN;rw[BG];rfl
   .refine⟨_,rfl,qC,qM,?_⟩
    rw[qu,Pg,uC c,Cc]
  .rintro τ H3 ⟨kv,rfl,qC,qM,qu⟩
   have all:∀k,k∈rcOf af ((top:Int)+1-2).toNat->2<=k/\k<=top/\has af k:=λk hk=>by
    obtain⟨a,b,c⟩:=Mv.mp hk;exact⟨a,by lia,c⟩
   have back:∀k,k<=top->has af k->k<=1\/k∈rcOf af ((top:Int)+1-2).toNat:=λk h1 h2=>by
    rcases DA k 2 with c| c
    .exact .inl (vx c)
    .exact .inr (Mv.mpr ⟨c,xO h1,h2⟩)
   have kn:∀k,k<=top->Knot rows k:=λk h=>by unfold Knot at *;exact u3 h kt
   refine q L _ H3 qC nL qu ⟨λk hk=>(all k hk).1,λk hk=>kn k (all k hk).2.1,λk hk=>?_,λk hk=>?_⟩ (back top (AF _) ht) (λt j=>ADk (AGh _ _) (by unfold Knot at kt;lia)) (λk hk=>by
     obtain⟨a1,b1,c1⟩:=all k hk;rcases hpar k a1 c1 with z| ⟨u,u2,z1,z2⟩
     .exact .inl z
     .exact .inr ⟨u,Mv.mpr ⟨u2,by have:=hb u z1;exact xO this,z1⟩,z2⟩)
   .obtain⟨a,b,c⟩:=all k hk
    obtain⟨_,lo,li,_⟩:=ok.low (BZ (kn k b) a);exact back _ (by unfold outOf;exact xP lo b a) (hc k (xQ a) b c).1
   .obtain⟨a,b,c⟩:=all k hk
    obtain⟨_,lo,li,_⟩:=ok.low (BZ (kn k b) a);exact back _ (by unfold intoOf;exact xP li b a) (hc k (xQ a) b c).2
noncomputable def ik3(r:Row):List Key:=[.inl (r.1:Int),.inl (r.2.1:Int),.inl (r.2.2:Int)]
noncomputable abbrev r3(r:Row):List V:=[.int r.1,.int r.2.1,.int r.2.2]
noncomputable def r3i(r:Row):uI:=[(r.1:Int),(r.2.1:Int),(r.2.2:Int)]
def AFc{a b:Row}(h:ik3 a=ik3 b):a=b:=by
 obtain⟨a1,a2,a3⟩:=a;obtain⟨b1,b2,b3⟩:=b;simp[ik3] at h;obtain⟨h1,h2,h3⟩:=h;injection h1 with h1
 injection h2 with h2
 injection h3 with h3
 have e1:a1=b1:=h1;have e2:a2=b2:=h2;have e3:a3=b3:=h3;rw[e1,e2,e3]
def Kc{a b:Row}(h:r3i a=r3i b):a=b:=by
 obtain⟨a1,a2,a3⟩:=a;obtain⟨b1,b2,b3⟩:=b;simp[r3i] at h;obtain⟨h1,h2,h3⟩:=h;have e1:a1=b1:=uy h1;have e2:a2=b2:=uy h2;have e3:a3=b3:=uy h3;rw[e1,e2,e3]
noncomputable def numKV:Nat->List Row->List (List Key×V)
 | _,[]=>[]
 | i,r::rs=>(ik3 r,.int (i:Int))::numKV (i+1) rs
noncomputable def numOf:Nat->List Row->Row->uX
 | _,[],_=>uB
 | i,a::rs,r=>if a=r then uA i else numOf (i+1) rs r
theorem Jx:∀(i:Nat) (ae:List Row),(numKV i ae).length=ae.length
 | _,[]=>rfl
 | i,_::rs=>by show(numKV (i+1) rs).length+1=rs.length+1;rw[Jx]
theorem Jo(r:Row):∀(i:Nat) (ae:List Row),valV (numKV i ae) (ik3 r)=(numOf i ae r).map λ(m:Nat)=>V.int (m:Int)
 | _,[]=>rfl
 | i,a::rs=>by
  by_cases e:a=r
  .rw[numKV,Ca (by show ik3 a=ik3 r;rw[e]),numOf,uD e];rfl
  .rw[numKV,CW (λz=>e (AFc z)),numOf,uC e];exact Jo r (i+1) rs
theorem Ml(r:Row):∀(i:Nat) (ae:List Row) (m:Nat),numOf i ae r=uA m->∃j,ae[j]?=uA r/\m=i+j
 | _,[],_,h=>by cases h
 | i,a::rs,m,h=>by
  unfold numOf at h;by_cases e:a=r
  .rw[uD e] at h
   cases h;exact⟨0,by rw[e];rfl,rfl⟩
  .rw[uC e] at h
   obtain⟨j,h1,h2⟩:=Ml r (i+1) rs m h;exact⟨j+1,by simpa using h1,by lia⟩
theorem Lr(r:Row):∀(i:Nat) (ae:List Row),numOf i ae r=none->r∉ae
 | _,[],_=>λh=>nomatch h
 | i,a::rs,h=>by
  unfold numOf at h;by_cases e:a=r
  .rw[uD e] at h;cases h
  .rw[uC e] at h
   intro hm;rcases AW.mp hm with rfl| hm
   .exact e rfl
   .exact Lr r (i+1) rs h hm
theorem Od(r:Row):∀(i:Nat) (ae:List Row),r∉ae->numOf i ae r=uB
 | _,[],_=>rfl
 | i,a::rs,h=>by
  unfold numOf;rw[uC (λe=>h (by rw[e];exact AJ ..))];exact Od r (i+1) rs λz=>h (AK _ z)
theorem Oe:∀(i:Nat) (ae:List Row) (r:Row),numKV i (ae++[r])=numKV i ae++[(ik3 r,.int ((i+ae.length:Nat):Int))]
 | i,[],r=>rfl
 | i,a::rs,r=>by
  show(ik3 a,V.int (i:Int))::numKV (i+1) (rs++[r])=(ik3 a,V.int (i:Int))::(numKV (i+1) rs++[(ik3 r,V.int ((i+(rs.length+1):Nat):Int))]);rw[Oe (i+1) rs r];rw[show i+1+rs.length=i+(rs.length+1) from vj]
def AAr{ae:List Row}{r:Row}(h:r∉ae):putK (numKV 2 ae) (ik3 r) (.int (((numKV 2 ae).length:Int)+2))=numKV 2 (ae++[r]):=by
 rw[JC _ (by rw[Jo,Od r 2 ae h];rfl),Oe,Jx]
 congr 4
 lia
def AAV:∀{i:Nat}{ae:List Row}{ys:List V},KeyL H (numKV i ae) ys->BN (rRow K H) ae ys:=by
 intro i ae ys h
 induction ae generalizing i ys with
 | nil=>cases h;exact .nil
 | cons r rs ih=>cases h with| cons h t=>obtain⟨b,e,hb⟩:=h;exact .cons ⟨b,e,uk hb⟩ (ih t)
theorem Jy:∀(ms:uJ),(∀m∈ms,∃r,m=r3i r)->∃new:List Row,ms=new.map r3i
 | [],_=>⟨[],rfl⟩
 | m::ms,h=>by
  obtain⟨r,rfl⟩:=h m (AJ ..);obtain⟨new,rfl⟩:=Jy ms λx hx=>h x (AK _ hx);exact⟨r::new,rfl⟩
def Zn:∀{new:List Row},(new.map r3i).Pairwise (λa b=>HT.lexLt a b=true)->new.Nodup:=λ{new} h=>by
 have h2:=C0.mp h;exact h2.imp λ{a b} z e=>by rw[e,Mz] at z;cases z
def plOf(pl:Nat->uX)(place:Nat->Nat)(ks:uL)(k:Nat):uX:=if k∈ks then uA (place k) else pl k
def ABa{place:Nat->Nat}{ks:uL}{a k:Nat}:plOf pl place (ks++[a]) k=if k=a then uA (place a) else plOf pl place ks k:=by
 unfold plOf;by_cases e:k=a
 .subst e;simp
 .by_cases h:k∈ks
  .simp[h,e]
  .simp[h,e]
def PlD(af:List (Key×V))(pl:Nat->uX):Prop:=∀k:Nat,valV af (.inl (k:Int))=(pl k).map λ(p:Nat)=>V.int (p:Int)
def PlD.put{af:List (Key×V)}{place:Nat->Nat}{ks:uL}{a:Nat}(h:PlD af (plOf pl place ks)):PlD (putK af (.inl (a:Int)) (.int (place a:Nat))) (plOf pl place (ks++[a])):=λk=>by
 rw[FT,ABa];by_cases e:k=a
 .subst e;rw[uD rfl,uD rfl];rfl
 .rw[uC (λz=>e (by injection z with z;exact uy z)),uC e]
  exact h k
end K31s
namespace G
section
variable{t:Nat}{A ae:List Row}
def FewB(rows:List Row)(top:Nat):Prop:=∃P:Nat->Prop,P top/\(∀k,P k->2<=k->Knot rows k->P (outOf rows k)/\P (intoOf rows k)) /\
 ∀(t:Nat) (ks:uL),(∀k∈ks,P k/\2<=k/\Knot rows k/\tieOf rows k=t/\∃s,led rows (intoOf rows k) s=true)->ks.Pairwise (λa b=>∃s,led rows a s≠led rows b s)->ks.length<=300
def FewB.sel{top:Nat}(F:FewB rows top)(I:Kept2 n (t+1) rows rc ae pl)(c:Closed rows rc)(o:Ok n rows)(hn:t<n)(par:∀k∈rc,k=top\/∃k'∈rc,k<k'/\(outOf rows k'=k\/intoOf rows k'=k)) :
  ∀new:List Row,new.Nodup->(∀r∈new,∃k,k∈rc/\tieOf rows k=t/\r=rowIn rows pl k/\r.2.2≠0)->new.length<=300:=by
 intro new nd hw;obtain⟨P,pt,ps,few⟩:=F;have hP:∀k∈rc,P k:=λk hk=>AAb pt ps c par _ k (AF _) hk;obtain⟨g,hg⟩:∃g:Row->Nat,∀r∈new,g r∈rc/\tieOf rows (g r)=t/\r=rowIn rows pl (g r)/\r.2.2≠0 :=
  ⟨λr=>if h:r∈new then Fu (hw r h) else 0,λr h=>by
   dsimp only;rw[dif_pos h];exact F3 (hw r h)⟩
 have oe:=I.base.least.ok;have key:∀r∈new,∃a b,r=(t,a,b)/\Knot ae a/\Knot ae b/\b≠0/\(∀s,led ae a s=led rows (outOf rows (g r)) s)/\(∀s,led ae b s=led rows (intoOf rows (g r)) s)/\(∀xs,led rows (g r) (t::xs)=led ae b xs)/\∀s,led ae a s=if lowH t s=true then false else led rows (g r) s:=λr hr=>by
  obtain⟨hk,ht,e,w0⟩:=hg r hr;obtain⟨a,b,ea,eb,re,x1,x2,x3,x4⟩:=I.base.row c o hn hk ht;obtain⟨_,z1,z2⟩:=c.low o hk;have la:=I.low (c.out _ hk) (by rw[<- ht];exact z1) ea;have lb:=I.low (c.into _ hk) (by rw[<- ht];exact z2) eb;have kk:=c.knot _ hk;have k2:=c.two _ hk;have et:(rows.getD (g r-2) (0,0,0)).1=t:=ht;refine⟨a,b,e.trans re,x1,x2,?_,la,lb,λxs=>?_,λs=>?_⟩
  .rw[e,re] at w0
   exact w0
  .rw[Bo o kk k2,et,uC (FB _),uD rfl,lb]
   rfl
  .cases s with
   | nil=>rw[la,Dz o kk k2,uC (by intro z;cases z)];rfl
   | cons x xs =>
    by_cases cs:x<=t
    .rw[uD (show lowH t (x::xs)=true from uE cs)]
     exact off oe x1 (u3 cs x3)
    .rw[uC (show ¬ lowH t (x::xs)=true from λz=>cs (uG z)),la,Bo o kk k2,et,uC (x5 cs),uC (x6 cs)]
     rfl
 have:=few t (new.map g) (λk hk=>by
  obtain⟨r,hr,rfl⟩:=A7.mp hk;obtain⟨h1,h2,h3,h4⟩:=hg r hr;obtain⟨a,b,_,_,kb,b0,_,lb,_⟩:=key r hr;refine⟨hP _ h1,c.two _ h1,c.knot _ h1,h2,?_⟩;obtain⟨s,w,_⟩:=MP I.base.least (b+1) b (Fk _) kb b0;exact⟨s,by rw[<- lb];exact w.1⟩) (by
  rw[C0];refine EQ (λ{r r'} hr hr' ne=>?_) nd;refine CD λh=>ne ?_;have same:∀s,led rows (g r) s=led rows (g r') s:=λs=>CD λz=>h ⟨s,z⟩;obtain⟨a,b,er,ka,kb,_,_,_,lb,la⟩:=key r hr;obtain⟨a',b',er',ka',kb',_,_,_,lb',g5⟩:=key r' hr';have e1:=Yv I.base.least ka ka' λs=>by rw[la,g5,same]
  have e2:=Yv I.base.least kb kb' λs=>by rw[<- lb,<- lb',same]
  rw[er,er',e1,e2])
 rwa [AB] at this
theorem Rx{α:Type}[DecidableEq α]:∀{l₁ l₂:List α},l₁.Nodup->(∀x∈l₁,x∈l₂)->l₁.length<=l₂.length
 | [],_,_,_=>By _
 | a::t,l₂,nd,hs=>by
  obtain⟨n1,n2⟩:=DM.mp nd;have ha:=hs a AJ;have hl:=EM ha;have ih:=Rx (l₂:=l₂.erase a) n2 λx hx=>(IF (λ(e:x=a)=>n1 (by rw[<- e];exact hx))).mpr (hs x (AK _ hx));have:0<l₂.length:=Me ha;simp;exact w4 ih hl this
noncomputable def allB:Nat->List (List Bool)
 | 0=>[[]]
 | n+1=>(allB n).map (true::·)++(allB n).map (false::·)
theorem Sx:∀n,(allB n).length=2 ^ n
 | 0=>rfl
 | n+1=>by
  show((allB n).map (true::·)++(allB n).map (false::·)).length=_;rw[BF,AB,AB,Sx n,M7];lia
theorem Ub:∀{n:Nat}{l:List Bool},l.length=n->l∈allB n
 | 0,[],_=>by simp[allB]
 | n+1,b::l,h=>by
  have:=Ub (n:=n) (l:=l) (by simpa using h);cases b with
  | true=>exact Ev _ (Hm this)
  | false=>exact Ct _ (Hm this)
 | 0,_::_,h=>by cases h
 | _+1,[],h=>by cases h
noncomputable def subs12:List uL:=[[],[9],[10],[11],[9,10],[9,11],[10,11],[9,10,11]]
def AEv{s:uL}(w:s.Pairwise (· < ·))(bd:∀x∈s,9<=x/\x<12):s∈subs12:=by
 match s,w,bd with
 | [],_,_=>exact by decide
 | [x],_,bd =>
  have:=bd x (AJ ..);have:x=9\/x=10\/x=11:=by lia
  rcases this with rfl| rfl| rfl<;>decide
 | [x,y],w,bd =>
  have h1:=bd x (AJ ..);have h2:=bd y (AK _ (AJ ..));have lt:=(Cs.mp w).1 y (AJ ..);have:(x=9/\y=10)\/(x=9/\y=11)\/(x=10/\y=11):=by lia
  rcases this with⟨rfl,rfl⟩| ⟨rfl,rfl⟩| ⟨rfl,rfl⟩<;>decide
 | x::y::z::r,w,bd =>
  have h1:=bd x (AJ ..);have h2:=bd y (AK _ (AJ ..));have h3:=bd z (AK _ (AK _ (AJ ..)));have l1:=(Cs.mp w).1 y (AJ ..);have w2:=(Cs.mp w).2;have l2:=(Cs.mp w2).1 z (AJ ..);obtain rfl:x=9:=by lia
  obtain rfl:y=10:=by lia
  obtain rfl:z=11:=by lia
  cases r with
  | nil=>decide
  | cons u r =>
   have hu:=bd u (by simp);have l3:=(Cs.mp (Cs.mp w2).2).1 u (AJ ..);lia
def Vy(o:Ok n rows)(l9:n<=12)(c:Cnt 0 rows)(top:Nat):FewB rows top:=by
 refine⟨λ_=>True,trivial,λ_ _ _ _=>⟨trivial,trivial⟩,λt ks hk un=>?_⟩;have nd:ks.Nodup:=un.imp λ{a b} ⟨s,h⟩ e=>h (by rw[e]);rcases DA t 9 with c9| c9
 .have z:=Zy (A:=rows) (t:=t) ks (λk h=>⟨(hk k h).2.1,(hk k h).2.2.1,(hk k h).2.2.2.1⟩) nd
  have y:=c t;rw[uC u7,Nat.sub_zero] at y;have:2 ^ t<=2 ^ 8:=KM (by decide) (by lia);lia
 .have lim:∀{k:Nat}{s:uL},Knot rows k->2<=k->tieOf rows k=t->led rows k s=true->s∈subs12:=λ{k s} kn k2 tk ld=>by
   have I0:=GQ _ _ rfl o _ kn;obtain⟨w1,w2⟩:=I0.way s ((I0.mem s).mpr ld);refine AEv w1 λx hx=>?_;have z:=w2 x hx;unfold rank at z;rw[uC (u6 k2)] at z;have e:(rows.getD (k-2) (0,0,0)).1=t:=tk;lia
  have z:=Rx (l₁:=ks.map λk=>subs12.map (led rows k)) (l₂:=allB 8) (by
   unfold LN;rw[C0];refine EQ (λ{a b} ha hb ⟨s,ne⟩ e=>ne ?_) un;obtain⟨_,a2,ka,ta,_⟩:=hk a ha;obtain⟨_,b2,kb,tb,_⟩:=hk b hb;have same:∀s∈subs12,led rows a s=led rows b s:=λs hs=>(List.map_inj_left.mp e) s hs;cases ea:led rows a s with
   | true=>rw[<- same s (lim ka a2 ta ea),ea]
   | false =>
    cases eb:led rows b s with
    | true=>rw[<- same s (lim kb b2 tb eb),ea] at eb;exact eb
    | false=>rfl) λx hx=>by
   obtain⟨k,_,rfl⟩:=A7.mp hx;exact Ub (by rw[AB];rfl)
  rw[AB,Sx] at z;lia
end
end G
namespace SB
open PySem PySem.SetTable
def iter{α:Type}(f:α->α):Nat->α->α
 | 0,x=>x
 | n+1,x=>iter f n (f x)
theorem CV{α:Type}(f:α->α):∀(m n:Nat) (x:α),iter f (m+n) x=iter f n (iter f m x)
 | 0,n,x=>by rw[Lc];rfl
 | m+1,n,x=>by
  rw[Nat.succ_add];exact CV f m n (f x)
def AAu(f:α->α)(n:Nat)(x:α):iter f (n+1) x=f (iter f n x):=CV f n 1 x
def Mask(m:Nat):Prop:=m=7\/m=31\/m=127\/m=511
noncomputable def step(M:Nat)(p:IU):IU :=
 if p.more>0 then {p with j:=p.j+1,more:=p.more-1} else
 {p with j:=(leap M p.i p.perturb).1,more:=FG M (leap M p.i p.perturb).1-(leap M p.i p.perturb).1,i:=(leap M p.i p.perturb).1,perturb:=(leap M p.i p.perturb).2}
def Iu(t:Db)(p:IU):t.advance p=step t.mask p:=by
 unfold advance step;split<;>rfl
def QF(M i:Nat):FG M i-i<=9:=by
 unfold FG;split<;>lia
structure Fine(M:Nat)(p:IU):Prop where
 more:p.more<=9
 i:p.i<=M
 j:p.j<=M
 jm:p.j+p.more<=M
 dummy:p.dummy=uB
def Vd(h:i<=M):i+(FG M i-i)<=M:=by
 unfold FG;split<;>lia
def JQ(M i p:Nat):(leap M i p).1<=M:=by
 unfold leap;have:=M8 (i*5+1+p / 32) (show 0<M+1 from vQ);exact vh this
def Fine.step{M:Nat}{p:IU}(h:Fine M p):Fine M (step M p):=by
 unfold SB.step;by_cases c:p.more>0
 .rw[uD c]
  have:=h.jm;have:=h.more;exact⟨by show p.more-1<=9;exact wJ this,h.i,by show p.j+1<=M;lia,by show p.j+1+(p.more-1)<=M;lia,h.dummy⟩
 .rw[uC c]
  exact⟨QF _ _,JQ _ _ _,JQ _ _ _,Vd (JQ _ _ _),h.dummy⟩
theorem Fine.iter{M:Nat}:∀(n:Nat) {p:IU},Fine M p->Fine M (iter (SB.step M) n p)
 | 0,_,h=>h
 | n+1,_,h=>Fine.iter n h.step
def Fine.start(t:Db)(h:Int):Fine t.mask (t.probeStart h):=by
 have:=M8 (bits h) (show 0<t.mask+1 from vQ);have hi:bits h%(t.mask+1)<=t.mask:=vh this;exact⟨QF _ _,hi,hi,Vd hi,rfl⟩
theorem Xk{M:Nat}:∀(k:Nat) {p:IU},p.more=k->∃q,SB.iter (step M) (k+1) p=q/\q.i=(leap M p.i p.perturb).1/\q.perturb=(leap M p.i p.perturb).2/\q.j=q.i/\q.more<=9
 | 0,p,e=>by
  refine⟨_,rfl,?_⟩;show(step M p).i=_/\(step M p).perturb=_/\(step M p).j=(step M p).i/\(step M p).more<=9;unfold step;rw[uC (by lia)];exact⟨rfl,rfl,rfl,QF _ _⟩
 | k+1,p,e=>by
  have hs:step M p={p with j:=p.j+1,more:=p.more-1}:=by unfold step;rw[uD (by lia)]
  obtain⟨q,h1,h2⟩:=Xk (M:=M) k (p:=step M p) (by rw[hs];show p.more-1=k;lia);rw[hs] at h2;exact⟨q,h1,h2⟩
def leaps(M:Nat):Nat->Nat×Nat->Nat×Nat:=SB.iter (λx=>leap M x.1 x.2)
theorem Mi{M:Nat}:∀(k:Nat) {p:IU},p.more<=9->∃m,m<=10*k/\((SB.iter (step M) m p).i,(SB.iter (step M) m p).perturb)=leaps M k (p.i,p.perturb)/\(SB.iter (step M) m p).more<=9/\(0<k->(SB.iter (step M) m p).j=(SB.iter (step M) m p).i)
 | 0,p,h=>⟨0,vU,rfl,h,λz=>uH z vH⟩
 | k+1,p,h=>by
  obtain⟨q,e,q1,q2,q3,q4⟩:=Xk (M:=M) p.more (p:=p) rfl;obtain⟨m,hm,h1,h2,h3⟩:=Mi k q4;refine⟨(p.more+1)+m,by lia,?_,?_,λ_=>?_⟩
  .rw[CV,e,h1]
   show leaps M k (q.i,q.perturb)=leaps M k (leap M p.i p.perturb);rw[q1,q2]
  .rw[CV,e];exact h2
  .rw[CV,e]
   by_cases c:0<k
   .exact h3 c
   .have:k=0:=by lia
    subst this;have:m=0:=by lia
    subst this;exact q3
theorem Fq{M:Nat}:∀(k:Nat) (x:Nat×Nat),(leaps M k x).2=x.2 / 32 ^ k
 | 0,x=>by simp[leaps,SB.iter]
 | k+1,x=>by
  show(leaps M k (leap M x.1 x.2)).2=_;rw[Fq k];show x.2 / 32 / 32 ^ k=_;rw[Nat.div_div_eq_div_mul,M7,Nat.mul_comm]
def lc(n i:Nat):Nat:=(i*5+1)%n
theorem Io{M:Nat}:∀(k i:Nat),leaps M k (i,0)=(SB.iter (lc (M+1)) k i,0)
 | 0,i=>rfl
 | k+1,i=>by
  show leaps M k (leap M i 0)=_;have:leap M i 0=(lc (M+1) i,0):=by unfold leap lc;simp
  rw[this,Io k];rfl
def cyc8:∀j,j<8->∃k,k<8/\SB.iter (lc 8) k 0=j:=by decide+kernel
def cyc32:∀j,j<32->∃k,k<32/\SB.iter (lc 32) k 0=j:=by decide+kernel
def cyc128:∀j,j<128->∃k,k<128/\SB.iter (lc 128) k 0=j:=by decide+kernel
noncomputable def iters(f:Nat->Nat):Nat->Nat->uL
 | 0,_=>[]
 | n+1,x=>x::iters f n (f x)
theorem VJ(f:Nat->Nat):∀(n x j:Nat),j∈iters f n x->∃k,k<n/\SB.iter f k x=j
 | 0,x,j,h=>by cases h
 | n+1,x,j,h=>by
  rcases AW.mp h with rfl| h
  .exact⟨0,OV _,rfl⟩
  .obtain⟨k,hk,e⟩:=VJ f n (f x) j h
   exact⟨k+1,Nat.succ_lt_succ hk,e⟩
def all512:((AR 512).all λj=>(iters (lc 512) 512 0).contains j)=true:=by decide+kernel
def cyc512:∀j,j<512->∃k,k<512/\SB.iter (lc 512) k 0=j:=λj hj=>VJ _ _ _ _ (List.contains_iff_mem.mp (EW.mp all512 j (AZ.mpr hj)))
def cyc(h:Mask M):(∀j,j<M+1->∃k,k<M+1/\SB.iter (lc (M+1)) k 0=j)/\SB.iter (lc (M+1)) (M+1) 0=0:=by
 rcases h with rfl| rfl| rfl| rfl
 .exact⟨cyc8,by decide+kernel⟩
 .exact⟨cyc32,by decide+kernel⟩
 .exact⟨cyc128,by decide+kernel⟩
 .exact⟨cyc512,by decide+kernel⟩
def YH(h:Mask M)(hi:i<M+1)(hj:j<M+1):∃k,k<M+1/\SB.iter (lc (M+1)) k i=j:=by
 obtain⟨c1,c2⟩:=cyc h;obtain⟨a,ha,ea⟩:=c1 i hi;obtain⟨b,hb,eb⟩:=c1 j hj;by_cases c:a<=b
 .refine⟨b-a,wD hb,?_⟩
  rw[<- ea,<- CV,show a+(b-a)=b from vi c,eb]
 .refine⟨M+1+b-a,by lia,?_⟩
  rw[<- ea,<- CV,show a+(M+1+b-a)=(M+1)+b by lia,CV,c2,eb]
theorem Bw:∀{l₁ l₂:uL},l₁.Nodup->(∀x∈l₁,x∈l₂)->l₁.length<=l₂.length
 | [],_,_,_=>By _
 | a::t,l₂,nd,hs=>by
  obtain⟨n1,n2⟩:=DM.mp nd;have ha:=hs a AJ;have hl:=EM ha;have ih:=Bw (l₂:=l₂.erase a) n2 λx hx=>(IF (λ(e:x=a)=>n1 (by rw[<- e];exact hx))).mpr (hs x (AK _ hx));have:0<l₂.length:=Me ha;simp;exact w4 ih hl this
def AEz{place:Array Nat}(h:place.size<=M):∃j,j<M+1/\j∉place.toList:=by
 refine CD λc=>?_;have all:∀j∈AR (M+1),j∈place.toList:=λj hj=>CD λz=>c ⟨j,AZ.mp hj,z⟩;have:=Bw HL all;rw[Cf,A1] at this;lia
def Ri(h:Int):bits h<2 ^ 64:=by
 unfold bits;have h1:=EC h (show(2 ^ 64:Int)≠0 by decide);have h2:=DB h (show(0:Int)<2 ^ 64 by decide);lia
theorem Mw{M:Nat}:∀(n:Nat) (p:IU),(SB.iter (step M) n p).perturb<=p.perturb
 | 0,_=>AF _
 | n+1,p=>by
  refine BV (Mw n (step M p)) ?_;unfold step;split
  .exact AF _
  .exact Nat.div_le_self _ _
def Oo{place:Array Nat}(hM:Mask M)(hs:place.size<=M){p:IU}(hp:Fine M p)(hb:p.perturb<2 ^ 64):∃m,m<10*OP M/\(SB.iter (step M) m p).j∉place.toList:=by
 obtain⟨j,hj,nj⟩:=AEz hs;obtain⟨m1,hm1,e1,k1,_⟩:=Mi (M:=M) 13 (p:=p) hp.more;generalize hq:SB.iter (step M) m1 p=q at *;have fq:Fine M q:=by rw[<- hq];exact hp.iter m1
 have pz:q.perturb=0:=by
  have h2:=congrArg Prod.snd e1;rw[Fq] at h2;have h3:q.perturb=p.perturb / 32 ^ 13:=h2;rw[h3];exact UH (CF hb (by decide))
 obtain⟨k,hk,ek⟩:=YH hM (i:=lc (M+1) q.i) (j:=j) (M8 _ (XY _)) hj;obtain⟨m2,hm2,e2,_,k2⟩:=Mi (M:=M) (k+1) (p:=q) fq.more;refine⟨m1+m2,?_,?_⟩
 .unfold OP
  lia
 .rw[CV,hq,k2 (XY _)]
  have h1:=congrArg Prod.fst e2;rw[pz,Io] at h1;have h2:(SB.iter (step M) m2 q).i=SB.iter (lc (M+1)) k (lc (M+1) q.i):=h1;rw[h2,ek];exact nj
theorem Mf{xs:Array Nat}{j:Nat}(so:xs.toList.Pairwise (· < ·)):∀(aI lo hi:Nat),lo<=hi->hi<=xs.size->hi-lo<=aI->(∀k,k<lo->xs.getD k j<j)->(∀k,hi<=k->k<xs.size->j<=xs.getD k j) ->
  (∀k,k<below.go xs j aI lo hi->xs.getD k j<j)/\(∀k,below.go xs j aI lo hi<=k->k<xs.size->j<=xs.getD k j)/\below.go xs j aI lo hi<=xs.size
 | 0,lo,hi,h1,h2,h3,h4,h5=>by
  have:lo=hi:=by lia
  subst this;exact⟨h4,h5,h2⟩
 | aI+1,lo,hi,h1,h2,h3,h4,h5=>by
  unfold below.go;by_cases c:lo<hi
  .rw[uD c]
   have hm:(lo+hi) / 2<xs.size:=by lia
   have so':=CL.mp so;have gd:∀k,k<xs.size->xs.getD k j=xs.toList.getD k j:=λk hk=>by simp[ED,hk]
   by_cases d:xs.getD ((lo+hi) / 2) j<j
   .simp only[uD d]
    refine Mf so aI _ hi (by lia) h2 (by lia) (λk hk=>?_) h5;by_cases e:k=(lo+hi) / 2
    .rw[e];exact d
    .have a6:k<(lo+hi) / 2:=wA hk e
     have z:=so' k ((lo+hi) / 2) (by simpa using(show k<xs.size from uP a6 hm)) (by simpa using hm) a6;have g1:xs.getD k j=xs[k]'(uP a6 hm):=by simp[ED,show k<xs.size from uP a6 hm]
     have g2:xs.getD ((lo+hi) / 2) j=xs[(lo+hi) / 2]'hm:=by simp[ED,hm]
     rw[g2] at d;rw[g1];simp at z;exact uP z d
   .simp only[uC d]
    refine Mf so aI lo _ (by lia) (vO hm) (by lia) h4 (λk hk kD=>?_);by_cases e:k=(lo+hi) / 2
    .rw[e];exact uN d
    .have z:=so' ((lo+hi) / 2) k (by simpa using hm) (by simpa using kD) (by lia)
     have g1:xs.getD k j=xs[k]'kD:=by simp[ED,kD]
     have g2:xs.getD ((lo+hi) / 2) j=xs[(lo+hi) / 2]'hm:=by simp[ED,hm]
     rw[g2] at d;rw[g1];simp at z;lia
  .rw[uC c]
   have:lo=hi:=vk h1 c;subst this;exact⟨h4,h5,h2⟩
def Ga{xs:Array Nat}(so:xs.toList.Pairwise (· < ·)):(∀k,k<below xs j->xs.getD k j<j)/\(∀k,below xs j<=k->k<xs.size->j<=xs.getD k j)/\below xs j<=xs.size :=
 Mf so xs.size 0 xs.size (By _) (AF _) (AF _) (λk hk=>uH hk u7) (λk h1 h2=>uH h2 (u6 h1))
def below_at{xs:Array Nat}(so:xs.toList.Pairwise (· < ·))(h:j∈xs.toList):xs[below xs j]?=uA j:=by
 obtain⟨b1,b2,b3⟩:=Ga (j:=j) so;obtain⟨k,hk,e⟩:=C4.mp h;have a6:k<xs.size:=by simpa using hk
 have e':xs[k]=j:=by simpa using e
 have g1:xs.getD k j=j:=by simp[ED,a6,e']
 have h1:below xs j<=k:=by
  refine CD λc=>?_;have:=b1 k (vT c);exact vd this g1
 by_cases c:below xs j=k
 .rw[c,Bn a6,e']
 .have hb:below xs j<xs.size:=u3 h1 a6
  have z:=CL.mp so (below xs j) k (by simpa using hb) hk (vK h1 c);have b:=b2 (below xs j) (AF _) hb;have g2:xs.getD (below xs j) j=xs[below xs j]'hb:=by simp[ED,hb]
  rw[g2] at b;simp at z;lia
structure Tab(t:Db):Prop where
 mask:Mask t.mask
 none:t.dummies=#[]
 size:t.place.size<=t.mask
 le:∀j∈t.place.toList,j<=t.mask
 rise:t.place.toList.Pairwise (· < ·)
def slot_of{t:Db}(T:Tab t)(j:Nat):(t.slot j=.empty/\j∉t.place.toList)\/∃i,t.slot j=.live i/\t.place[i]?=uA j:=by
 unfold slot;by_cases c:t.place[below t.place j]?=uA j
 .right
  exact⟨below t.place j,by simp[c],c⟩
 .left
  have hd:has t.dummies j=false:=by rw[T.none];unfold has;simp
  refine⟨by simp[c,hd],λh=>c (below_at T.rise h)⟩
def way(t:Db)(p:IU)(m:Nat):Nat:=(SB.iter (step t.mask) m p).j
def Tz(t:Db)(p:IU)(m:Nat):way t (step t.mask p) m=way t p (m+1):=rfl
theorem AFy{t:Db}(T:Tab t){hashAt:Nat->Int}{h:Int}:∀(aI:Nat) (p:IU),p.dummy=none->(∃m,m<aI/\way t p m∉t.place.toList) ->
  ∃m,(∀m',m'<m->∃i,t.place[i]?=uA (way t p m')/\hashAt i≠h) /\
   (
    (way t p m∉t.place.toList/\NJ t hashAt h aI p=uA (.empty (way t p m) uB)) \/
    ∃i,t.place[i]?=uA (way t p m)/\t.slot (way t p m)=.live i/\hashAt i=h/\NJ t hashAt h aI p=uA (.candidate (way t p m) i (SB.iter (step t.mask) (m+1) p)))
 | 0,p,_,⟨m,hm,_⟩=>uH hm u7
 | aI+1,p,hd,⟨m0,hm0,n0⟩=>by
  unfold NJ;rcases slot_of T p.j with⟨e,ne⟩| ⟨i,e,pi⟩
  .refine⟨0,λm' h=>uH h u7,.inl ⟨ne,?_⟩⟩
   rw[e];show uA (Met.empty p.j p.dummy)=_;rw[hd];rfl
  .by_cases c:hashAt i=h
   .refine⟨0,λm' h=>uH h u7,.inr ⟨i,pi,e,c,?_⟩⟩
    rw[e];simp only[c,beq_self_eq_true,if_true];rw[Iu];rfl
   .have m1:m0≠0:=λz=>by
     subst z;exact n0 (by rw[DD];exact⟨i,by rw[Cb];exact pi⟩)
    have cr:(step t.mask p).dummy=uB:=by unfold step;split<;>exact hd
    obtain⟨m,h1,h2⟩:=AFy T (hashAt:=hashAt) (h:=h) aI (step t.mask p) cr ⟨m0-1,xG hm0 m1,by rw[Tz,show m0-1+1=m0 by lia];exact n0⟩;have ee:NJ t hashAt h (aI+1) p=NJ t hashAt h aI (step t.mask p):=by
     show(match t.slot p.j with| .empty=>uA (Met.empty p.j p.dummy)| .dummy=>NJ t hashAt h aI (t.advance {p with dummy:=uA p.j})| .live i=>if hashAt i==h then uA (.candidate p.j i (t.advance p)) else NJ t hashAt h aI (t.advance p))=_;rw[e];have cb:(hashAt i==h)=false:=by simpa using c
     simp only[cb,B7,if_false];rw[Iu]
    refine⟨m+1,λm' cw=>?_,?_⟩
    .by_cases z:m'=0
     .subst z;exact⟨i,pi,c⟩
     .have:=h1 (m'-1) (by lia)
      rw[Tz,show m'-1+1=m' by lia] at this;exact this
    .rw[e]
     have cb:(hashAt i==h)=false:=by simpa using c
     simp only[cb,B7,if_false,Iu];exact h2
def Loc(t:Db)(hs:uI):Prop:=∀(aS j:Nat) (h:Int),t.place[aS]?=uA j->hs[aS]?=uA h->∃m,way t (t.probeStart h) m=j/\∀m',m'<m->way t (t.probeStart h) m'∈t.place.toList
def ACa{t:Db}(T:Tab t){hashAt:Nat->Int}{h:Int}{p:IU}(hp:Fine t.mask p)(hb:p.perturb<2 ^ 64) :
  ∃m,(∀m',m'<m->∃i,t.place[i]?=uA (way t p m')/\hashAt i≠h) /\
   (
    (way t p m∉t.place.toList/\t.probe hashAt h p=uA (.empty (way t p m) uB)) \/
    ∃i,t.place[i]?=uA (way t p m)/\t.slot (way t p m)=.live i/\hashAt i=h/\t.probe hashAt h p=uA (.candidate (way t p m) i (SB.iter (step t.mask) (m+1) p))) :=
 AFy T _ p hp.dummy (Oo T.mask T.size hp hb)
def Bd(xs:Array α)(p:Nat)(x:α):(ER xs p x).toList=xs.toList.take p++[x]++xs.toList.drop p:=by
 unfold ER;simp;exact Mn (by simp)
structure Put(t:Db)(j:Nat):Prop where
 le:j<=t.mask
 new:j∉t.place.toList
 room:t.place.size+1<=t.mask
def Jt{t:Db}(T:Tab t):(t.put j).1={t with place:=ER t.place (below t.place j) j}/\(t.put j).2=below t.place j:=by
 unfold put;have hd:has t.dummies j=false:=by rw[T.none];unfold has;simp
 simp[hd]
def AEQ{t:Db}(T:Tab t)(P:Put t j):Tab (t.put j).1:=by
 obtain⟨e,_⟩:=Jt T (j:=j);obtain⟨b1,b2,b3⟩:=Ga (j:=j) T.rise;rw[e];refine⟨T.mask,T.none,?_,λk hk=>?_,?_⟩
 .show(ER t.place (below t.place j) j).size<=t.mask
  have:=congrArg FC (Bd t.place (below t.place j) j);simp at this;have:=P.room;lia
 .have a6:=hk
  rw[Bd] at a6;rcases Co.mp a6 with a6| a6
  .rcases Co.mp a6 with a6| a6
   .exact T.le k (M9 a6)
   .rw[B2.mp a6];exact P.le
  .exact T.le k (RC a6)
 .rw[Bd]
  have so:=T.rise;have get:∀k (hk:k<t.place.size),t.place.getD k j=t.place.toList[k]'(by simpa using hk):=λk hk=>by simp[ED,hk]
  refine C9.mpr ⟨C9.mpr ⟨so.sublist (J7 _ _),Jn _ _,λa ha b hb=>?_⟩,so.sublist (IB _ _),λa ha b hb=>?_⟩
  .rw[B2.mp hb]
   obtain⟨k,hk,rfl⟩:=C4.mp ha;rw[B4] at hk;have kD:k<t.place.size:=by simp at hk;exact xu hk
   have:=b1 k (vW hk);rw[get k kD] at this;rw[J8];exact this
  .obtain⟨k,hk,rfl⟩:=C4.mp hb
   rw[FU] at hk;have kD:below t.place j+k<t.place.size:=by simp at hk;lia
   rw[OH];have z:=b2 (below t.place j+k) uO kD;rw[get _ kD] at z;have ne:t.place.toList[below t.place j+k]'(by simpa using kD)≠j:=λe=>P.new (e ▸ FA _);rcases Co.mp ha with ha| ha
   .obtain⟨i,hi,rfl⟩:=C4.mp ha
    rw[B4] at hi;rw[J8];exact CL.mp so i (below t.place j+k) (xu hi) (by simpa using kD) (by lia)
   .rw[B2.mp ha]
    lia
def AFZ{t:Db}(T:Tab t)(hl:hs.length=t.place.size)(L:Loc t hs){h:Int}(hm:∀m',m'<m->way t (t.probeStart h) m'∈t.place.toList) :
  Loc (t.put (way t (t.probeStart h) m)).1 (hs.take (t.put (way t (t.probeStart h) m)).2++[h]++hs.drop (t.put (way t (t.probeStart h) m)).2):=by
 generalize hj:way t (t.probeStart h) m=j;obtain⟨e,e2⟩:=Jt T (j:=j);obtain⟨_,_,b3⟩:=Ga (j:=j) T.rise;rw[e,e2];generalize hp:below t.place j=p at *;have mem:∀k,k∈t.place.toList->k∈(ER t.place p j).toList:=λk hk=>by
  rw[Bd];rw[<- F4 p t.place.toList] at hk;rcases Co.mp hk with hk| hk
  .exact Ev _ (Ev _ hk)
  .exact Ct _ hk
 have memj:j∈(ER t.place p j).toList:=by
  rw[Bd];exact Ev _ (Ct _ (B2.mpr rfl))
 intro aS k h' hk hh;have a6:(ER t.place p j).toList[aS]?=uA k:=by simpa using hk
 rw[Bd] at a6;have wy:∀(q:IU) m,way {t with place:=ER t.place p j} q m=way t q m:=λ_ _=>rfl;have ps:∀h,({t with place:=ER t.place p j}:Db).probeStart h=t.probeStart h:=λ_=>rfl;have lt:(t.place.toList.take p).length=p:=by rw[B4,A1];lia
 have lh:(hs.take p).length=p:=by rw[B4];lia
 rw[C5] at a6 hh;have b5:∀i,t.place.toList[i]?=uA k->hs[i]?=uA h'->∃m,way {t with place:=ER t.place p j} (({t with place:=ER t.place p j}:Db).probeStart h') m=k/\∀m',m'<m->way {t with place:=ER t.place p j} (({t with place:=ER t.place p j}:Db).probeStart h') m'∈({t with place:=ER t.place p j}:Db).place.toList:=λi a b=>by
  obtain⟨m,x,y⟩:=L i k h' (by rw[<- Cb];exact a) b;exact⟨m,x,λm' cw=>mem _ (y m' cw)⟩
 by_cases c:aS<p
 .rw[Be (by lia),F9 c] at a6 hh
  exact b5 aS a6 hh
 .rw[CH (by lia)] at a6 hh
  rw[lt] at a6;rw[lh] at hh;by_cases d:aS=p
  .subst d
   simp at a6 hh;subst a6 hh;exact⟨m,hj,λm' cw=>mem _ (hm m' cw)⟩
  .rw[CH (by simp;lia)] at a6 hh
   simp only[EK,N5] at a6 hh;rw[show p+(aS-p-1)=aS-1 by lia] at a6 hh;exact b5 (aS-1) a6 hh
def CK(M i perturb:Nat):IU:={j:=i,more:=FG M i-i,i:=i,perturb:=perturb,dummy:=uB}
theorem Ms{M:Nat}:∀(m:Nat) (p:IU),m<=p.more->SB.iter (step M) m p={p with j:=p.j+m,more:=p.more-m}
 | 0,p,_=>by cases p;rfl
 | m+1,p,h=>by
  have hs:step M p={p with j:=p.j+1,more:=p.more-1}:=by unfold step;rw[uD (by lia)]
  show SB.iter (step M) m (step M p)=_;rw[Ms m (step M p) (by rw[hs];show m<=p.more-1;lia),hs];rw[show p.j+1+m=p.j+(m+1) from vj,show p.more-1-m=p.more-(m+1) by lia]
def WL{pe:Nat}:SB.iter (step M) (FG M i-i+1) (CK M i pe)=CK M (leap M i pe).1 (leap M i pe).2:=by
 rw[AAu,Ms (FG M i-i) (CK M i pe) (AF _)];unfold step;rw[uC (by show ¬ (FG M i-i-(FG M i-i)>0);lia)];rfl
def AAs(M i:Nat):i<=FG M i:=by
 unfold FG;split<;>lia
def wayM(M:Nat)(p:IU)(m:Nat):Nat:=(SB.iter (step M) m p).j
theorem Xz{M:Nat}{owner:Array uX}:∀(aI i pe:Nat),i<=M->(∃k,k<aI/\owner.getD (leaps M k (i,pe)).1 (uA 0)=uB) ->
  ∃m,K1 M owner aI i pe=uA (wayM M (CK M i pe) m)/\owner.getD (wayM M (CK M i pe) m) (uA 0)=uB/\∀m',m'<m->(owner.getD (wayM M (CK M i pe) m') (uA 0)).isSome=true
 | 0,i,pe,_,⟨k,hk,_⟩=>uH hk u7
 | aI+1,i,pe,hi,⟨k,hk,nk⟩=>by
  have ge:=AAs M i;have wy:∀m,m<=FG M i-i->wayM M (CK M i pe) m=i+m:=λm hm=>by
   unfold wayM;rw[Ms m (CK M i pe) hm];rfl
  unfold K1;cases hf:(AR (FG M i+1-i)).find? λk=>(owner.getD (i+k) (uA 0)).isNone with
  | some k' =>
   have h1:=List.find?_some hf;have h2:=AZ.mp (List.mem_of_find?_eq_some hf);refine⟨k',?_,?_,λm' cw=>?_⟩
   .rw[wy k' (wK h2)]
   .rw[wy k' (wK h2)]
    simpa using h1
   .rw[wy m' (by lia)]
    obtain⟨_,as,bs,e,hb⟩:=List.find?_eq_some_iff_append.mp hf;have hl:as.length=k':=by
     have:(AR (FG M i+1-i))[as.length]?=uA k':=by rw[e];simp
     rw[E7 (by have:=congrArg FC e;simp at this;lia)] at this;exact AO this
    have hm:m'∈as:=by
     have:(AR (FG M i+1-i))[m']?=uA m':=E7 (uP cw h2);rw[e,Be (dl cw hl)] at this;exact AT this
    have:=hb m' hm;simpa [OQ] using this
  | none =>
   have hn:=List.find?_eq_none.mp hf;have all:∀m,m<=FG M i-i->(owner.getD (i+m) (uA 0)).isSome=true:=λm hm=>by
    have:=hn m (AZ.mpr (by lia));simpa [OQ] using this
   have k0:k≠0:=λz=>by
    subst z;have:=all 0 (By _);have nk':owner.getD i (uA 0)=uB:=nk;rw[SW,nk'] at this;cases this
   obtain⟨m,h1,h2,h3⟩:=Xz aI (leap M i pe).1 (leap M i pe).2 (JQ _ _ _) ⟨k-1,xG hk k0,by
    have e:leaps M k (i,pe)=leaps M (k-1) (leap M i pe):=by
     obtain⟨k',rfl⟩:∃k',k=k'+1:=⟨k-1,by lia⟩;rfl
    rw[e] at nk;exact nk⟩
   have sh:∀m,wayM M (CK M (leap M i pe).1 (leap M i pe).2) m=wayM M (CK M i pe) (FG M i-i+1+m):=λm=>by
    unfold wayM;rw[CV,WL]
   rw[sh] at h1 h2;refine⟨FG M i-i+1+m,h1,h2,λm' cw=>?_⟩;by_cases c:m'<=FG M i-i
   .rw[wy m' c]
    exact all m' c
   .have:=h3 (m'-(FG M i-i+1)) (by lia)
    rw[sh,show FG M i-i+1+(m'-(FG M i-i+1))=m' by lia] at this;exact this
structure Own(M:Nat)(owner:Array uX)(hs:uI):Prop where
 size:owner.size=M+1
 has:∀aS,aS<hs.length->∃j:Nat,owner[j]?=uA (uA aS)
 at_:∀(j aS:Nat),owner[j]?=uA (uA aS)->aS<hs.length/\∃m,wayM M (CK M (bits (hs.getD aS 0)%(M+1)) (bits (hs.getD aS 0))) m=j/\∀m',m'<m->(owner.getD (wayM M (CK M (bits (hs.getD aS 0)%(M+1)) (bits (hs.getD aS 0))) m') (uA 0)).isSome=true
 one:∀(j j' aS:Nat),owner[j]?=uA (uA aS)->owner[j']?=uA (uA aS)->j=j'
def Own.start(M:Nat):Own M (U3 (M+1) uB) []:=by
 have no:∀(j aS:Nat),¬ (U3 (M+1) (uB:uX))[j]?=uA (uA aS):=λj aS e=>by
  rw[Array.getElem?_replicate] at e;split at e<;>cases e
 exact⟨Array.size_replicate ..,λaS h=>uH h (by simp),λj aS e=>uH e (no j aS),λj _ aS e=>uH e (no j aS)⟩
def Own.free(O:Own M owner hs)(h:hs.length<=M):∃j,j<M+1/\owner.getD j (uA 0)=uB:=by
 refine CD λc=>?_;have all:∀j,j<M+1->∃aS,owner[j]?=uA (uA aS):=λj hj=>by
  have bu:j<owner.size:=by rw[O.size];exact hj
  cases e:owner[j] with
  | none=>exact uH ⟨j,hj,by simp[ED,bu,e]⟩ c
  | some aS=>exact⟨aS,by rw[Bn bu,e]⟩
 have key:∀n,n<=M+1->∃l:uL,l.length=n/\l.Nodup/\∀x∈l,∃j,j<n/\owner[j]?=uA (uA x):=by
  intro n
  induction n with
  | zero=>exact λ_=>⟨[],rfl,LM,λx hx=>by cases hx⟩
  | succ n ih =>
   intro hn;obtain⟨l,l1,l2,l3⟩:=ih (u8 hn);obtain⟨aS,e⟩:=all n (xH hn);refine⟨aS::l,by simp[l1],DM.mpr ⟨λhm=>?_,l2⟩,λx hx=>?_⟩
   .obtain⟨j,hj,ej⟩:=l3 aS hm
    have:=O.one _ _ _ ej e;exact vd hj this
   .rcases AW.mp hx with rfl| hx
    .exact⟨n,vq,e⟩
    .obtain⟨j,hj,ej⟩:=l3 x hx
     exact⟨j,uW hj,ej⟩
 obtain⟨l,l1,l2,l3⟩:=key (M+1) (AF _);have:=Bw (l₂:=AR hs.length) l2 λx hx=>by
  obtain⟨j,_,ej⟩:=l3 x hx;exact AZ.mpr (O.at_ j x ej).1
 rw[Cf] at this;lia
theorem Ua{M:Nat}:∀(k:Nat) (x:Nat×Nat),x.1<=M->(leaps M k x).1<=M
 | 0,x,h=>h
 | k+1,x,h=>Ua k (leap M x.1 x.2) (JQ _ _ _)
def AAe(a b:Nat)(x:Nat×Nat):leaps M (a+b) x=leaps M b (leaps M a x):=CV _ a b x
def Own.next(hM:Mask M)(O:Own M owner hs)(hl:hs.length<=M)(h:Int) :
  ∃j,K1 M owner (OP M) (bits h%(M+1)) (bits h)=uA j/\Own M (owner.setIfInBounds j (uA hs.length)) (hs++[h]):=by
 obtain⟨f,hf,nf⟩:=O.free hl;have hi:bits h%(M+1)<=M:=by
  have:=M8 (bits h) (show 0<M+1 from vQ);exact vh this
 have reach:∃k,k<OP M/\owner.getD (leaps M k (bits h%(M+1),bits h)).1 (uA 0)=uB:=by
  have p13:(leaps M 13 (bits h%(M+1),bits h)).2=0:=by
   rw[Fq];exact UH (CF (Ri h) (by decide))
  have i13:=Ua (M:=M) 13 (bits h%(M+1),bits h) hi;obtain⟨k,hk,ek⟩:=YH hM (i:=(leaps M 13 (bits h%(M+1),bits h)).1) (j:=f) (wI i13) hf;refine⟨13+k,by unfold OP;lia,?_⟩;have e:leaps M 13 (bits h%(M+1),bits h)=((leaps M 13 (bits h%(M+1),bits h)).1,0):=LG rfl p13;rw[AAe,e,Io,ek];exact nf
 obtain⟨m,h1,h2,h3⟩:=Xz (M:=M) (owner:=owner) (OP M) _ (bits h) hi reach;refine⟨_,h1,?_⟩;generalize hj:wayM M (CK M (bits h%(M+1)) (bits h)) m=j at h2;have hjs:j<owner.size:=by
  refine CD λc=>?_;have:owner.getD j (uA 0)=uA 0:=by simp[ED,c]
  rw[this] at h2;cases h2
 have hjn:owner[j]?=uA uB:=by
  rw[Bn hjs];simp[ED,hjs] at h2;rw[h2]
 have get:∀k,(owner.setIfInBounds j (uA hs.length))[k]?=if k=j then uA (uA hs.length) else owner[k]?:=λk=>by
  rw[Array.getElem?_setIfInBounds];by_cases c:j=k
  .subst c
   simp[hjs]
  .rw[uC c,uC (Bi c)]
 have some_of:∀k,(owner.getD k (uA 0)).isSome=true->((owner.setIfInBounds j (uA hs.length)).getD k (uA 0)).isSome=true:=λk hk=>by
  rw[HU,get];split
  .rfl
  .rw[HU] at hk
   exact hk
 have gd:∀aS,aS<hs.length->(hs++[h]).getD aS 0=hs.getD aS 0:=λaS hi=>by
  rw[AD,AD,Be hi]
 have gl:(hs++[h]).getD hs.length 0=h:=by rw[AD];simp
 refine⟨by rw[IR];exact O.size,λaS hi=>?_,λk aS e=>?_,λk k' aS e e'=>?_⟩
 .by_cases c:aS<hs.length
  .obtain⟨k,ek⟩:=O.has aS c
   refine⟨k,?_⟩;rw[get,uC (λz=>by rw[z,hjn] at ek;cases ek)];exact ek
  .have:aS=hs.length:=by simp at hi;lia
   exact⟨j,by rw[get,uD rfl,this]⟩
 .rw[get] at e
  by_cases c:k=j
  .rw[uD c] at e
   have:hs.length=aS:=by simpa using e
   subst this;refine⟨by simp,m,?_,λm' cw=>?_⟩
   .rw[gl,hj,c]
   .rw[gl]
    exact some_of _ (h3 m' cw)
  .rw[uC c] at e
   obtain⟨i1,m1,w1,w2⟩:=O.at_ k aS e;refine⟨by simp;lia,m1,?_,λm' cw=>?_⟩
   .rw[gd aS i1];exact w1
   .rw[gd aS i1];exact some_of _ (w2 m' cw)
 .rw[get] at e e'
  by_cases c:k=j
  .by_cases c':k'=j
   .rw[c,c']
   .rw[uD c] at e
    rw[uC c'] at e';have:hs.length=aS:=by simpa using e
    have:=(O.at_ k' aS e').1;lia
  .by_cases c':k'=j
   .rw[uC c] at e
    rw[uD c'] at e';have:hs.length=aS:=by simpa using e'
    have:=(O.at_ k aS e).1;lia
   .rw[uC c] at e
    rw[uC c'] at e';exact O.one _ _ _ e e'
set_option tactic.hygienic true in
theorem ABo(hM:Mask M)(h:hashes.size<=M):∃owner,layClean M hashes=uA owner/\Own M owner hashes.toList:=by
 unfold layClean;rw[<- Array.foldl_toList];have key:∀(l done:uI) (owner:Array uX),Own M owner done->done.length+l.length<=M ->
   ∃ce,(l.foldl (λacc h=>do
    let (owner,k) <- acc
    let j <- K1 M owner (OP M) (bits h%(M+1)) (bits h)
    pure (owner.setIfInBounds j (uA k),k+1)) (uA (owner,done.length)))=uA (ce,done.length+l.length)/\Own M ce (done++l):=by
  intro l
  induction l with
  | nil=>exact λdone owner O _=>⟨owner,rfl,by rw[Cc];exact O⟩
  | cons a t ih =>
   intro done owner O hl;simp at hl;obtain⟨j,ej,O'⟩:=O.next hM (u8 hl) a
   obtain⟨ce,e,O''⟩:=ih (done++[a]) _ O' (by simp;lia);refine⟨ce,?_,by simpa using O''⟩;rw[PF];have:(do
    let (owner,k) <- uA (owner,done.length)
    let j <- K1 M owner (OP M) (bits a%(M+1)) (bits a)
    pure (owner.setIfInBounds j (uA k),k+1))=uA (owner.setIfInBounds j (uA done.length),done.length+1):=by
    show(do
     let j <- K1 M owner (OP M) (bits a%(M+1)) (bits a)
     pure (owner.setIfInBounds j (uA done.length),done.length+1))=_
    rw[ej];rfl
   rw[this];rw[show(done++[a]).length=done.length+1 by simp] at e;rw[e];simp;exact vj
 obtain⟨ce,e,O⟩:=key hashes.toList [] _ (Own.start M) (by simpa using h);refine⟨ce,?_,by simpa using O⟩;have e':=congrArg (Option.map Prod.fst) e;exact e'
def pairs(owner:Array uX)(l:uL):List (Nat×Nat):=l.filterMap λj=>(owner.getD j uB).map (j,·)
def Jl{l:uL}{aS:Nat}:(j,aS)∈pairs owner l↔j∈l/\owner.getD j uB=uA aS:=by
 unfold pairs;rw[NV];constructor
 .rintro⟨k,hk,e⟩
  cases o:owner.getD k uB with
  | none=>rw[o] at e;cases e
  | some x =>
   rw[o] at e;have e':=AO e;cases e';exact⟨hk,o⟩
 .rintro⟨hj,e⟩
  exact⟨j,hj,by rw[e];rfl⟩
theorem Lj{owner:Array uX}:∀{l:uL},l.Pairwise (· < ·)->((pairs owner l).map (·.1)).Pairwise (· < ·)
 | [],_=>.nil
 | a::t,h=>by
  obtain⟨h1,h2⟩:=Cs.mp h;have ih:=Lj (owner:=owner) h2;unfold pairs;rw[IT];cases o:owner.getD a uB with
  | none=>exact ih
  | some x =>
   show((a,x)::pairs owner t|>.map (·.1)).Pairwise (· < ·);rw[B8];refine Cs.mpr ⟨λb hb=>?_,ih⟩;obtain⟨⟨b',i⟩,hm,rfl⟩:=A7.mp hb;exact h1 b' (Jl.mp hm).1
theorem Hf:∀{l₁ l₂:uL},l₁.Nodup->(∀x∈l₁,x∈l₂)->l₂.length<=l₁.length->l₁.Perm l₂
 | [],l₂,_,_,h=>by
  have:l₂=[]:=CO.mp (by simpa using h);rw[this]
 | a::t,l₂,nd,hs,h=>by
  obtain⟨n1,n2⟩:=DM.mp nd;have ha:=hs a AJ;have hp:=KP ha;have hl:=EM ha;have ih:=Hf (l₂:=l₂.erase a) n2 (λx hx=>(IF (λ(e:x=a)=>n1 (by rw[<- e];exact hx))).mpr (hs x (AK _ hx))) (by simp at h;exact xw hl h);exact(QR a ih).trans hp.symm
def AEV(hM:Mask M)(h:hashes.size<=M)(finger moves:Nat)(led plain:Bool) :
  ∃(place aT:Array Nat),laid M finger moves led plain hashes=uA ({mask:=M,place:=place,dummies:=#[],finger:=finger,led:=led,moves:=moves,plain:=plain},aT) /\
   Tab {mask:=M,place:=place,dummies:=#[],finger:=finger,led:=led,moves:=moves,plain:=plain}/\place.size=hashes.size/\aT.toList.Perm (AR hashes.size) /\
   Loc {mask:=M,place:=place,dummies:=#[],finger:=finger,led:=led,moves:=moves,plain:=plain} (aT.toList.map λi=>hashes.toList.getD i 0):=by
 obtain⟨owner,e,O⟩:=ABo hM h;have gd:∀j aS,owner.getD j uB=uA aS↔owner[j]?=uA (uA aS):=λj aS=>by
  rw[HU];cases o:owner[j]? with
  | none=>simp
  | some x=>simp
 have rl:=J4 (n:=M+1);have rise:=Lj (owner:=owner) rl;have mem:∀j aS,(j,aS)∈pairs owner (AR (M+1))↔owner[j]?=uA (uA aS):=λj aS=>by
  rw[Jl,gd];refine⟨λz=>z.2,λz=>⟨AZ.mpr ?_,z⟩⟩;have:=(C8.mp z).1;rw[O.size] at this;exact this
 have nd:((pairs owner (AR (M+1))).map (·.2)).Nodup:=by
  have r:=C0.mp rise;refine C0.mpr (r.imp_of_mem λ{a b} ha hb lt z=>?_);obtain⟨a1,a2⟩:=a;obtain⟨b1,b2⟩:=b;have z':=z;subst z';have:=O.one _ _ _ ((mem a1 a2).mp ha) ((mem b1 a2).mp hb);simp at lt;exact vd lt this
 have sub:∀x∈(pairs owner (AR (M+1))).map (·.2),x∈AR hashes.size:=λx hx=>by
  obtain⟨⟨j,i⟩,hm,rfl⟩:=A7.mp hx;have:=(O.at_ j i ((mem j i).mp hm)).1;exact AZ.mpr (by simpa using this)
 have sup:∀x∈AR hashes.size,x∈(pairs owner (AR (M+1))).map (·.2):=λx hx=>by
  obtain⟨j,ej⟩:=O.has x (by simpa using hx);exact A7.mpr ⟨(j,x),(mem j x).mpr ej,rfl⟩
 have l1:=Bw HL sup;have l2:=Bw nd sub;rw[Cf] at l1 l2;have perm:=Hf nd sub (by rw[Cf];exact l1);have ll:(pairs owner (AR (M+1))).length=hashes.size:=by
  rw[AB] at l1 l2;exact xx l2 l1
 refine⟨((pairs owner (AR (M+1))).map (·.1)).toArray,((pairs owner (AR (M+1))).map (·.2)).toArray,?_,?_,?_,?_,?_⟩
 .unfold laid
  rw[e];rfl
 .refine⟨hM,rfl,?_,λj hj=>?_,?_⟩
  .rw[AV,AB,ll]
   exact h
  .have bu:=hj
   obtain⟨⟨k,i⟩,hm,rfl⟩:=A7.mp bu;have:=AZ.mp (Jl.mp hm).1;show k<=M;exact vh this
  .exact rise
 .rw[AV,AB,ll]
 .exact perm
 .intro aS j hh hj hh'
  have bu:((pairs owner (AR (M+1))).map (·.1))[aS]?=uA j:=by simpa using hj
  have hh2:=hh';rw[AU] at bu;rw[AU,AU] at hh2;cases o:(pairs owner (AR (M+1)))[aS]? with
  | none=>rw[o] at bu;cases bu
  | some x =>
   obtain⟨k,i⟩:=x;rw[o] at bu hh2;have ek:=AO bu;have ei:hashes.toList.getD i 0=hh:=AO hh2;subst ek;obtain⟨_,m,w1,w2⟩:=O.at_ k i ((mem k i).mp (AT o));rw[ei] at w1 w2;refine⟨m,w1,λm' cw=>?_⟩;have z:=w2 m' cw;have hb:bits hh%(M+1)<=M:=by
    have:=M8 (bits hh) (show 0<M+1 from vQ);exact vh this
   have gI:Fine M (CK M (bits hh%(M+1)) (bits hh)):=⟨QF _ _,hb,hb,Vd hb,rfl⟩;have wl:wayM M (CK M (bits hh%(M+1)) (bits hh)) m'<=M:=(gI.iter m').j;show wayM M (CK M (bits hh%(M+1)) (bits hh)) m'∈(pairs owner (AR (M+1))).map (·.1);generalize wayM M (CK M (bits hh%(M+1)) (bits hh)) m'=wv at z wl;have hw:wv<owner.size:=by rw[O.size];exact wI wl
   cases q:owner[wv] with
   | none =>
    have:owner.getD wv (uA 0)=uB:=by simp[ED,hw,q]
    rw[this] at z;cases z
   | some i'=>exact A7.mpr ⟨(wv,i'),(mem wv i').mpr (by rw[Bn hw,q]),rfl⟩
abbrev IK(prog:AM)(w:AS)(h:Heap)(ks:uI)(a:Addr):Prop:=U0 (LL prog w) h ks a
abbrev hsh(prog:AM)(w:AS)(ks:uI):Int:=M6 (LL prog w) ks
def RQ{ks:uI}(h:ItemsAre (LL prog w) ks vs):∀v∈vs,∃n t,v=.int n t:=by
 induction h with
 | nil=>intro v hv;cases hv
 | cons h1 _ ih =>
  intro v hv;rcases AW.mp hv with rfl| hv
  .obtain⟨t,e⟩:=G8 h1
   exact⟨_,t,e⟩
  .exact ih v hv
def AEp{ks:uI}{Q:Bool->AC->Prop}(hk:IK prog w s.heap ks a)(h:Q true s):wpAny (AN prog w) A (hashByValue 8 (.ref a)) Q E s:=by
 have hT:=hk.typeIs;obtain⟨o,items,n,ho,_,hd,hi⟩:=hk;have qj:=RQ hi;unfold hashByValue;refine Au (Ic hT F.slot_tuple_hash.lookup ?_);refine Au (Kk ho hd ?_);refine Au ?_;rw[<- J0];refine FS _ (λar r s'=>r.1=uB/\s'=s/\∀v∈ar,∃n t,v=NR n t) _ ?_ ?_ _ _ ⟨rfl,rfl,qj⟩
 .rintro v ar r s' ⟨hr,rfl,bp⟩
  obtain⟨n,t,rfl⟩:=bp v AJ;refine Au (AE ?_);exact AE ⟨rfl,rfl,λu kx=>bp u (AK _ kx)⟩
 .rintro⟨r1,r2⟩ s' ⟨hr,rfl,_⟩
  simp only at hr;subst hr;exact AE h
def Tf{ks:uI}{Q:Bool->AC->Prop}(hk:IK prog w s.heap ks a)(h:Q false s):wpAny (AN prog w) A (To 8 (.ref a)) Q E s:=by
 have hT:=hk.typeIs;obtain⟨o,items,n,ho,_,hd,hi⟩:=hk;have qj:=RQ hi;unfold To;refine Au (M3 hT ?_);show wpAny _ _ ((if("tuple" == "tuple")=true then pure true else isSubtype (.type "tuple") (.type "tuple")) >>= _) _ _ s;rw[uD (by decide)];refine Au (AE ?_);refine Au (Kk ho hd ?_);refine Au ?_;rw[<- J0];refine FS _ (λar r s'=>r.1=uB/\s'=s/\∀v∈ar,∃n t,v=NR n t) _ ?_ ?_ _ _ ⟨rfl,rfl,qj⟩
 .rintro v ar r s' ⟨hr,rfl,bp⟩
  obtain⟨n,t,rfl⟩:=bp v AJ;refine Au (AE ?_);exact AE ⟨rfl,rfl,λu kx=>bp u (AK _ kx)⟩
 .rintro⟨r1,r2⟩ s' ⟨hr,rfl,_⟩
  simp only at hr;subst hr;exact AE h
def ABQ{ks:uI}{Q:Bool->AC->Prop}(hk:IK prog w s.heap ks a)(stored:List AA)(dE:∀v∈stored,∃k b,v=.ref b/\IK prog w s.heap k b)(h:Q false s):wpAny (AN prog w) A (Ts (.ref a) stored) Q E s:=by
 unfold Ts;refine Au ?_;refine FS _ (λar r s'=>r.1=uB/\s'=s/\∀v∈ar,∃k b,v=A9 b/\IK prog w s.heap k b) _ ?_ ?_ _ _ ⟨rfl,rfl,dE⟩
 .rintro v ar r s' ⟨hr,rfl,bp⟩
  have tl:∀u∈ar,∃k b,u=A9 b/\IK prog w s'.heap k b:=λu kx=>bp u (AK _ kx);obtain⟨k,b,rfl,hb⟩:=bp v AJ;dsimp only;by_cases c:(a==b)=true
  .rw[uD (by rw[c];rfl)]
   exact AE ⟨rfl,rfl,tl⟩
  .rw[uC (by simp[c,V4])]
   refine Au (QU hk ?_);simp only[FR,B7,if_false];refine Au (QU hb ?_);simp only[FR,B7,if_false];refine Au (Tf hk ?_);simp only[B7,if_false];refine Au (Tf hb ?_);simp only[B7,if_false];exact AE ⟨rfl,rfl,tl⟩
 .rintro⟨r1,r2⟩ s' ⟨hr,rfl,_⟩
  simp only at hr;subst hr;exact AE h
def Wo{P:Nat->Prop}:∀(m:Nat),P m->∃n,P n/\∀n',n'<n->¬ P n':=by
 intro m
 induction m using Nat.strongRecOn with
 | ind m ih =>
  intro h;by_cases c:∃n,n<m/\P n
  .obtain⟨n,hn,hp⟩:=c
   exact ih n hn hp
  .exact⟨m,h,λn' rP hp=>c ⟨n',rP,hp⟩⟩
def ledOf(w:AS):Bool:=!w.params.followText "set-order"
structure TS(prog:AM)(w:AS)(h:Heap)(S:Addr)(es:Array (Int×AA))(t:Db)(ks:List (uI×Addr)):Prop where
 obj:∃o ep,h.get? S=uA o/\o.ExactSet/\o.data=.set es ep t
 tab:Tab t
 len:es.size=t.place.size
 loc:Loc t (es.toList.map (·.1))
 els:es.toList=ks.map λx=>(hsh prog w x.1,A9 x.2)
 nd:(ks.map (·.1)).Nodup
 few:t.place.size*5<t.mask*3
 pl:t.plain=true
 ld:t.led=ledOf w
def Xn{t:Db}(T:Tab t):t.fill=t.place.size:=by unfold fill;rw[T.none];rfl
def Hs{t:Db}(T:Tab t)(e:n=t.place.size):t.fits n=true:=by
 unfold SetTable.fits;rw[Xn T,e];have:=T.size;simp[this]
section
variable{es:Array (Int×AA)}{t:Db}
def TS.at_(X:TS prog w h S es t ks)(hi:t.place[i]?=uA j):∃x,ks[i]?=uA x/\es[i]?=uA (hsh prog w x.1,A9 x.2):=by
 have hl:=(C8.mp hi).1;have hle:i<es.toList.length:=by rw[A1,X.len];exact hl
 cases o:ks[i]? with
 | none =>
  have l2:=congrArg FC X.els;rw[AB] at l2;have:=List.getElem?_eq_none_iff.mp o;lia
 | some x =>
  refine⟨x,rfl,?_⟩;rw[<- Cb,X.els,AU,o];rfl
def Pb{t:Db}(T:Tab t)(h:t.place[i]?=uA j)(h':t.place[i']?=uA j):i=i':=by
 obtain⟨a,ea⟩:=C8.mp h;obtain⟨b,eb⟩:=C8.mp h';have r:=CL.mp T.rise;rcases L5 i i' with c| c| c
 .have:=r i i' (by simpa using a) (by simpa using b) c
  simp at this;exact xC this ea eb
 .exact c
 .have:=r i' i (by simpa using b) (by simpa using a) c
  simp at this;exact xC this eb ea
set_option tactic.hygienic true in
theorem Zv{k:uI}(X:TS prog w s.heap S es t ks)(hK:∀x∈ks,IK prog w s.heap x.1 x.2)(hk:IK prog w s.heap k a)(hu:A.units<C2){N:Nat}
  (hN:way t (t.probeStart (hsh prog w k)) N∉t.place.toList) (hB:∀m,m<N->way t (t.probeStart (hsh prog w k)) m∈t.place.toList) {Q:SetFound->AC->Prop}
  (h1:k∈ks.map (·.1)->Q (.there uB) s) (h2:k∉ks.map (·.1)->Q (.free (way t (t.probeStart (hsh prog w k)) N) false) s) :
  ∀(aI c:Nat) (fo:Option IU),c<=N->N-c<aI->fo.getD (t.probeStart (hsh prog w k))=SB.iter (step t.mask) c (t.probeStart (hsh prog w k)) ->
   (∀m,m<c->∀(i:Nat) (x:uI×Addr),t.place[i]?=uA (way t (t.probeStart (hsh prog w k)) m)->ks[i]?=uA x->x.1≠k) ->
   wpAny (AN prog w) A (Oy S (.ref a) (hsh prog w k) true aI fo) Q E s:=by
 obtain⟨o,ep,ho,dS,hd⟩:=X.obj;have hf:=Hs X.tab X.len;intro aI
 induction aI with
 | zero=>intro c fo _ h;lia
 | succ aI ih =>
  intro c fo hc hfu dE hV;unfold Oy;refine Au (FI ho hd hf ?_);dsimp only;have hg:t.gaveWay=false:=by
   unfold SetTable.gaveWay;rcases X.tab.mask with e| e| e| e<;>rw[e]<;>decide
  rw[hg];simp only[B7,if_false];have gI:Fine t.mask (SB.iter (step t.mask) c (t.probeStart (hsh prog w k))):=(Fine.start t _).iter c;have hb:(SB.iter (step t.mask) c (t.probeStart (hsh prog w k))).perturb<2 ^ 64:=EV (Mw c _) (Ri _);obtain⟨m,hm,oB⟩:=ACa X.tab (hashAt:=λi=>(es[i]?.map (·.1)).getD 0) (h:=hsh prog w k) gI hb;have wy:∀m,way t (SB.iter (step t.mask) c (t.probeStart (hsh prog w k))) m=way t (t.probeStart (hsh prog w k)) (c+m):=λm=>by
   unfold way;rw[CV]
  have my:∀{i j:Nat},t.place[i]?=uA j->j∈t.place.toList:=λ{i j} e=>by
   rw[DD];exact⟨i,by rw[Cb];exact e⟩
  have hV':∀m',m'<c+m->∀(i:Nat) (x:uI×Addr),t.place[i]?=uA (way t (t.probeStart (hsh prog w k)) m')->ks[i]?=uA x->x.1≠k:=λm' cw i x hi hx ek=>by
   by_cases z:m'<c
   .exact hV m' z i x hi hx ek
   .obtain⟨i',br,dA⟩:=hm (m'-c) (by lia)
    rw[wy,show c+(m'-c)=m' by lia] at br;have:=Pb X.tab hi br;subst this;obtain⟨y,hy,ey⟩:=X.at_ hi;rw[hx] at hy;cases hy;refine dA ?_;rw[ey,<- ek];rfl
  have ltN:way t (t.probeStart (hsh prog w k)) (c+m)∈t.place.toList->c+m<N:=λz=>by
   refine CD λzz=>?_;by_cases q:c+m=N
   .rw[q] at z;exact hN z
   .obtain⟨i',br,_⟩:=hm (N-c) (xD hc zz q)
    rw[wy,show c+(N-c)=N from vi hc] at br;exact hN (my br)
  split
  .rename_i met heq
   rw[dE] at heq;rcases oB with⟨dA,e⟩| ⟨i,hi,hsl,hhash,e⟩
   .obtain rfl:=AO (heq.symm.trans e)
    dsimp only;have hcN:c+m=N:=by
     rw[wy] at dA;refine CD λq=>?_;by_cases z:c+m<N
     .exact dA (hB _ z)
     .obtain⟨i',br,_⟩:=hm (N-c) (xD hc z q)
      rw[wy,show c+(N-c)=N from vi hc] at br;exact hN (my br)
    rw[wy,hcN];refine AE (h2 λjv=>?_);obtain⟨x,hx,ex⟩:=A7.mp jv;obtain⟨i,hi⟩:=DD.mp hx;have hil:i<t.place.size:=by
     have l1:=(AG.mp hi).1;have l2:=congrArg FC X.els;rw[AB,A1,X.len] at l2;exact dl l1 l2
    obtain⟨m1,w1,w2⟩:=X.loc i t.place[i] (hsh prog w x.1) (Bn hil) (by rw[X.els,G0,AU,hi];rfl);rw[ex] at w1 w2;have hm1:m1<N:=by
     refine CD λq=>?_;by_cases z:m1=N
     .subst z
      rw[w1] at hN;exact hN (my (Bn hil))
     .exact hN (w2 N (by lia))
    exact hV' m1 (dl hm1 hcN) i x (by rw[w1];exact Bn hil) hi ex
   .obtain rfl:=AO (heq.symm.trans e)
    dsimp only;rw[wy] at hi hsl ⊢;have a8:=ltN (my hi);obtain⟨x,hx,e9⟩:=X.at_ hi;have hxb:=hK x (AT hx);have uc:wpAny (AN prog w) A (do
      let uA (_,y):=es[i]? | unsupported "internal:set-entry"
      let equal <- NE [y] (eqBool y (.ref a))
      let (bn,_,t') <- setState S
      if true&&equal then return .there uB
      let uA same:=t'.sameMemory t.moves t.mask| unsupported "set.changed-during-lookup:is-the-new-block-at-the-old-address"
      let still <- match (if same then t'.slot (way t (t.probeStart (hsh prog w k)) (c+m)) else .empty) with
       | .live i'=>match bn[i']? with
        | some (_,y')=>do pure (if <- isSame y' y then uA i' else uB)
        | none=>pure uB
       | _=>pure uB
      match still with
      | none=>rule "set.search.anew";Oy S (.ref a) (hsh prog w k) true aI uB
      | some i'=>if equal then return .there (uA i') else Oy S (.ref a) (hsh prog w k) true aI (uA (SB.iter (step t.mask) (m+1) (SB.iter (step t.mask) c (t.probeStart (hsh prog w k)))))) Q E s:=by
     rw[e9];dsimp only;refine Au (Ee (SS hu hxb hk ?_));refine Au (FI ho hd hf ?_);dsimp only;by_cases ek:x.1=k
     .rw[uE ek]
      exact AE (h1 (A7.mpr ⟨x,AT hx,ek⟩))
     .rw[uF ek]
      simp only[VY,B7,if_false];have sm:t.sameMemory t.moves t.mask=uA true:=by unfold sameMemory;simp
      rw[sm];dsimp only;simp only[if_true,hsl];rw[e9];dsimp only;refine Au (wpAny_isSame_ref_self ?_);simp only[if_true];refine Au (AE ?_);dsimp only;refine ih (c+m+1) _ a8 (by lia) ?_ ?_
      .rw[<- CV]
       rfl
      .intro m' cw i' x' br iO ek'
       by_cases z:m'<c+m
       .exact hV' m' z i' x' br iO ek'
       .have:m'=c+m:=wC cw z
        subst this;have:=Pb X.tab hi br;subst this;rw[hx] at iO;cases iO;exact ek ek'
    cases cf:t.led with
    | true =>
     exact uc
    | false =>
     refine Au (ABQ hk _ ?_ ?_)
     .intro v hv
      obtain⟨e',he',rfl⟩:=A7.mp hv;have he2:e'∈es.toList:=by
       have:e'∈es/\e'.1=hsh prog w k:=by simpa using he'
       simpa using this.1
      rw[X.els] at he2;obtain⟨y,hy,rfl⟩:=A7.mp he2;exact⟨y.1,y.2,rfl,hK y hy⟩
     .exact uc
  .rename_i iP
   rcases oB with⟨_,e⟩| ⟨i,_,_,_,e⟩
   .exact(iP _ (by rw[dE];exact e)).elim
   .exact(iP _ (by rw[dE];exact e)).elim
end
theorem JD{α:Type}{l:List α}(d:α):∀{aT:uL},(∀i∈aT,i<l.length)->aT.filterMap (λi=>l[i]?)=aT.map λi=>l.getD i d
 | [],_=>rfl
 | i::r,h=>by
  have hi:=h i AJ;rw[IT,AI hi,B8,JD d λj hj=>h j (AK _ hj)];simp[AD,hi]
def Vp(l:List α):(AR l.length).filterMap (λi=>l[i]?)=l:=by
 cases l with
 | nil=>rfl
 | cons d r =>
  rw[JD d λi hi=>AZ.mp hi];apply Hc;intro i;by_cases hi:i<(d::r).length
  .rw[AU,E7 hi,AI hi]
   show uA ((d::r).getD i d)=_;rw[AD,AI hi];rfl
  .rw[EL (by simpa using hi),EL (uN hi)]
def Jk{l:List α}{aT:uL}(h:aT.Perm (AR l.length)):(aT.filterMap λi=>l[i]?).Perm l:=by
 have:=h.filterMap λi=>l[i]?;rw[Vp] at this;exact this
section
variable{es:Array (Int×AA)}{t:Db}
def stored(ho:h.get? S=uA o)(dS:o.ExactSet)(hd:o.data=.set es ep t)(bn:Array (Int×AA))(t':Db) :
  ∃o' i5,(h.update S (U4 bn t')).get? S=uA o'/\o'.ExactSet/\o'.data=.set bn i5 t':=by
 have hg:(h.update S (U4 bn t')).get? S=uA {o with data:=.set bn (ep+1) t'}:=by
  have:=EJ (U4 bn t') ho (by rw[putSet_of bn t' hd];rfl);rw[putSet_of bn t' hd] at this;exact this
 exact⟨_,_,hg,dS,rfl⟩
def ABq(hs:s.heap=h)(ho:h.get? S=uA o)(dS:o.ExactSet)(hd:o.data=.set es ep t)(T:Tab t)(hl:es.size=t.place.size)(hel:es.toList=ks.map λx=>(hsh prog w x.1,A9 x.2))
  (nd:(ks.map (·.1)).Nodup) (f8:t.mask*3<=t.place.size*5) (kB:(t.place.size-1)*5<t.mask*3) (l8:ks.length<=301) (eW:t.plain=true) (hld:t.led=ledOf w) {Q:Unit->AC->Prop}
  (q:∀h' bn t' b9,EX S h h'->TS prog w h' S bn t' b9->b9.Perm ks->Q () {s with heap:=h'}) :
  wpAny (AN prog w) A (XZ S (U5 es.size)) Q E s:=by
 subst hs;have qI:ks.length=es.size:=by
  have:=congrArg FC hel;rw[AB,A1] at this;exact this.symm
 have key:∃M,sizeAbove (U5 es.size)=M+1/\Mask M/\es.size<=M/\es.size*5<M*3:=by
  rcases T.mask with e| e| e| e
  .have:es.size=5:=by rw[e] at f8 kB;lia
   rw[this];exact⟨31,by decide,.inr (.inl rfl),by decide,by decide⟩
  .have:es.size=19:=by rw[e] at f8 kB;lia
   rw[this];exact⟨127,by decide,.inr (.inr (.inl rfl)),by decide,by decide⟩
  .have:es.size=77:=by rw[e] at f8 kB;lia
   rw[this];exact⟨511,by decide,.inr (.inr (.inr rfl)),by decide,by decide⟩
  .rw[e] at f8
   lia
 obtain⟨M,eM,hM,hle,rE⟩:=key;unfold XZ;refine Au (FI ho hd (Hs T hl) ?_);dsimp only;have hz:¬ (sizeAbove (U5 es.size)>sizeLine):=by
  rw[eM,F6];rcases hM with e| e| e| e<;>lia
 rw[uC hz];obtain⟨place,aT,el,T2,hps,qL,L2⟩:=AEV hM (hashes:=es.map (·.1)) (by simpa using hle) t.finger (t.movedTo M) t.led t.plain;have erl:t.relaid (es.map (·.1)) (U5 es.size)=uA ({mask:=M,place:=place,dummies:=#[],finger:=t.finger,led:=t.led,moves:=t.movedTo M,plain:=t.plain},aT):=by
  unfold relaid;rw[eM];exact el
 refine Au ?_;show wpAny _ _ (do
  let uA (t,aT):=t.relaid (es.map (·.1)) (U5 es.size)| unsupported "internal:set-table-without-room"
  let bn:=aT.filterMap (es[·]?)
  if bn.size != es.size then unsupported "internal:set-table-lost-an-element"
  pure (bn,t)) _ _ _
 rw[erl];dsimp only;have hsz:(es.map (·.1)).size=es.toList.length:=by simp
 rw[hsz] at qL;have ef:(aT.filterMap (es[·]?)).toList=aT.toList.filterMap λi=>es.toList[i]?:=by
  rw[Array.toList_filterMap]
  congr 1
  funext i
  rw[Cb]
 have hp:=Jk qL;have e9:(aT.filterMap (es[·]?)).size=es.size:=by
  rw[<- A1,ef,hp.length_eq,A1]
 rw[uC (by rw[e9];simp)];refine AE ?_;dsimp only;refine Tu ho hd ?_ (by rw[e9,F6];rcases hM with e| e| e| e<;>lia);obtain⟨o',i5,eh,ng,cr⟩:=stored ho dS hd (aT.filterMap (es[·]?)) {mask:=M,place:=place,dummies:=#[],finger:=t.finger,led:=t.led,moves:=t.movedTo M,plain:=t.plain};have hpk:(aT.toList.filterMap λi=>ks[i]?).Perm ks:=Jk (by rw[A1] at qL;rw[qI];exact qL);refine q _ _ _ (aT.toList.filterMap λi=>ks[i]?) (D7 ..) ⟨⟨o',i5,eh,ng,cr⟩,T2,?_,?_,?_,?_,?_,eW,hld⟩ hpk
 .rw[e9,hps];simp
 .have e1:(aT.filterMap (es[·]?)).toList.map (·.1)=aT.toList.map λi=>(es.map (·.1)).toList.getD i 0:=by
   rw[ef,JD (0,DE) (λi hi=>by have:=AZ.mp (qL.mem_iff.mp hi);exact this),G0];refine Hn λi hi=>?_;have br:=AZ.mp (qL.mem_iff.mp hi);have kK:i<es.size:=by simpa using br
   simp[AD,kK]
  rw[e1];exact L2
 .rw[ef,hel,List.map_filterMap]
  congr 1
  funext i
  rw[AU]
 .exact(NB (hpk.map (·.1))).mpr nd
 .rw[hps]
  simpa using rE
def Added(ks:List (uI×Addr))(k:uI)(a:Addr)(b9:List (uI×Addr)):Prop:=(k∈ks.map (·.1)/\b9=ks)\/(k∉ks.map (·.1)/\b9.Perm ((k,a)::ks))
def XR{k:uI}(X:TS prog w s.heap S es t ks)(hK:∀x∈ks,IK prog w s.heap x.1 x.2)(hk:IK prog w s.heap k a)(hu:A.units<C2)(h60:ks.length<=300){Q:Bool->AC->Prop}
  (q:∀b h' bn t' b9,EX S s.heap h'->TS prog w h' S bn t' b9->Added ks k a b9->Q b {s with heap:=h'}) :
  wpAny (AN prog w) A (setAddHashed S (.ref a) (hsh prog w k)) Q E s:=by
 obtain⟨o,ep,ho,dS,hd⟩:=X.obj;have hf:=Hs X.tab X.len;have gI:Fine t.mask (t.probeStart (hsh prog w k)):=Fine.start t _;have qI:ks.length=t.place.size:=by
  have:=congrArg FC X.els;rw[AB,A1,X.len] at this;exact this.symm
 obtain⟨m0,hm0,nm0⟩:=Oo X.tab.mask X.tab.size gI (Ri (hsh prog w k));obtain⟨N,hN,ow⟩:=Wo (P:=λm=>way t (t.probeStart (hsh prog w k)) m∉t.place.toList) m0 nm0;have hNle:N<=m0:=CD λc=>ow m0 (vT c) nm0;have hB:∀m,m<N->way t (t.probeStart (hsh prog w k)) m∈t.place.toList:=λm hm=>CD λc=>ow m hm c;have hM:t.mask<=511:=by rcases X.tab.mask with e| e| e| e<;>lia
 unfold setAddHashed setAddHashedIn;refine Ee (Au (FI ho hd hf ?_));dsimp only;have hbs:byScan (.ref a) es=false:=rfl;rw[hbs];unfold setSearch;refine Au (Zv X hK hk hu hN hB ?_ ?_ 100000 0 uB (By _) (by unfold OP at hm0;lia) rfl (λm hm=>uH hm u7))
 .intro jv
  exact AE (by
   have:=q false s.heap es t ks (Y9 S s.heap) X (.inl ⟨jv,rfl⟩);exact this)
 .intro hnm
  dsimp only;refine Au (FI ho hd hf ?_);dsimp only;generalize hj:way t (t.probeStart (hsh prog w k)) N=j;have P:Put t j:=by
   refine⟨?_,?_,?_⟩
   .rw[<- hj];exact(gI.iter N).j
   .rw[<- hj];exact hN
   .have:=X.few
    rcases X.tab.mask with e| e| e| e<;>rw[e] at this ⊢<;>lia
  have T1:=AEQ X.tab P;have L1:=AFZ X.tab (by rw[AB,A1,X.len]) X.loc hB;rw[hj] at L1;obtain⟨e1,e2⟩:=Jt X.tab (j:=j);have b3:=(Ga (j:=j) X.tab.rise).2.2;have pm:(t.put j).1.mask=t.mask:=by rw[e1]
  have pp:(t.put j).1.plain=true:=by rw[e1];exact X.pl
  have pd:(t.put j).1.led=ledOf w:=by rw[e1];exact X.ld
  have ps:(t.put j).1.place.size=t.place.size+1:=by
   rw[e1];have:=congrArg FC (Bd t.place (below t.place j) j);simp at this;show(ER t.place (below t.place j) j).size=_;lia
  rw[e2] at L1;generalize hp:below t.place j=p at *;generalize mN:(t.put j).1=t1 at *;have rT:(ER es p (hsh prog w k,A9 a)).toList=(ks.take p++[(k,a)]++ks.drop p).map λx=>(hsh prog w x.1,A9 x.2):=by
   rw[Bd,X.els,BG,BG,RU,RY];rfl
  have mw:(ER es p (hsh prog w k,A9 a)).size=es.size+1:=by
   have:=congrArg FC (Bd es p (hsh prog w k,A9 a));simp at this;have:=X.len;lia
  have f7:(ks.take p++[(k,a)]++ks.drop p).Perm ((k,a)::ks):=by
   have:=List.perm_middle (a:=(k,a)) (l₁:=ks.take p) (l₂:=ks.drop p);rw[F4] at this;rw[C5];exact this
  have nd1:=(NB (f7.map (·.1))).mpr (by rw[B8];exact DM.mpr ⟨hnm,X.nd⟩);have du:(ER es p (hsh prog w k,A9 a)).toList.map (·.1)=(es.toList.map (·.1)).take p++[hsh prog w k]++(es.toList.map (·.1)).drop p:=by
   rw[Bd,BG,BG,RU,RY];rfl
  have e3:=e2;have go:∀(t2:Db),Tab t2->t2.mask=t1.mask->t2.place=t1.place->t2.plain=true->t2.led=ledOf w->wpAny (AN prog w) A (do
    storeSet S (ER es p (hsh prog w k,A9 a)) t2
    if(!false&&t2.tooFull)=true then do
     XZ S (U5 (es.size+1))
     pure true
    else pure true) Q E s:=by
   intro t2 T2 m2 p2 q2 r2;refine Au (Tu ho hd ?_ (by rw[mw,F6];have:=X.len;lia));obtain⟨o',i5,eh,ng,cr⟩:=stored ho dS hd (ER es p (hsh prog w k,A9 a)) t2;have L2:Loc t2 ((ER es p (hsh prog w k,A9 a)).toList.map (·.1)):=by
    rw[du];intro aS jj h' a1 a2;rw[p2] at a1;obtain⟨m,w1,w2⟩:=L1 aS jj h' a1 a2;refine⟨m,?_,λm' cw=>?_⟩
    .unfold way probeStart at w1 ⊢
     rw[m2];exact w1
    .have:=w2 m' cw
     unfold way probeStart at this ⊢;rw[m2,p2];exact this
   have tf:t2.tooFull=decide (t.mask*3<=(t.place.size+1)*5):=by
    unfold tooFull;rw[Xn T2,p2,m2,ps,pm]
   rw[tf];by_cases c:t.mask*3<=(t.place.size+1)*5
   .rw[uE c]
    rw[<- mw];refine Au (ABq (ks:=ks.take p++[(k,a)]++ks.drop p) rfl eh ng cr T2 (by rw[mw,p2,ps,X.len]) rT nd1 ?_ ?_ ?_ q2 r2 ?_)
    .rw[p2,m2,ps,pm];exact c
    .rw[p2,m2,ps,pm]
     have:=X.few;lia
    .rw[f7.length_eq]
     simp;exact h60
    .intro h' bn t' b9 sb X' pk
     exact AE (q true h' bn t' b9 ((D7 ..).trans sb) X' (.inr ⟨hnm,pk.trans f7⟩))
   .rw[uF c]
    exact AE (q true _ _ t2 _ (D7 ..) ⟨⟨o',i5,eh,ng,cr⟩,T2,by rw[mw,p2,ps,X.len],L2,rT,nd1,by rw[p2,m2,ps,pm];exact vT c,q2,r2⟩ (.inr ⟨hnm,f7⟩))
  rw[e3];simp only[pp,if_true];refine Au (AEp hk ?_);exact go t1 T1 rfl rfl pp pd
def AGU{k:uI}(X:TS prog w s.heap S es t ks)(hK:∀x∈ks,IK prog w s.heap x.1 x.2)(hk:IK prog w s.heap k a)(hu:A.units<C2)(h60:ks.length<=300){Q:Bool->AC->Prop}
  (q:∀b h' bn t' b9,EX S s.heap h'->TS prog w h' S bn t' b9->Added ks k a b9->Q b {s with heap:=h',toks:=s.toks+(k.length+1)}) :
  wpAny (AN prog w) A (setAdd S (.ref a)) Q E s:=by
 unfold setAdd;refine Ee ?_;refine Au (SR hu hk ?_);exact XR (s:={s with toks:=s.toks+(k.length+1)}) X hK hk hu h60 λb h' bn t' b9 sb X' ad=>q b h' bn t' b9 sb X' ad
end
structure Of(vals:Nat->uI×Addr)(i:Nat)(ks:List (uI×Addr)):Prop where
 sub:∀x∈ks,∃j,j<i/\x=vals j
 sup:∀j,j<i->(vals j).1∈ks.map (·.1)
 len:ks.length<=i
def Of.next{b9:List (uI×Addr)}(h:Of vals i ks)(a:Added ks (vals i).1 (vals i).2 b9):Of vals (i+1) b9:=by
 rcases a with⟨hm,rfl⟩| ⟨hm,p⟩
 .refine⟨λx hx=>?_,λj hj=>?_,by have:=h.len;exact u4 this⟩
  .obtain⟨j,hj,e⟩:=h.sub x hx
   exact⟨j,uW hj,e⟩
  .by_cases c:j=i
   .rw[c];exact hm
   .exact h.sup j (wA hj c)
 .refine⟨λx hx=>?_,λj hj=>?_,by rw[p.length_eq];have:=h.len;simp;exact this⟩
  .rcases AW.mp (p.mem_iff.mp hx) with e| hx
   .exact⟨i,vq,e⟩
   .obtain⟨j,hj,e⟩:=h.sub x hx
    exact⟨j,uW hj,e⟩
  .have pm:=(p.map (·.1)).mem_iff (a:=(vals j).1)
   by_cases c:j=i
   .subst c
    exact pm.mpr (by rw[B8];exact AJ)
   .exact pm.mpr (by rw[B8];exact AK _ (h.sup j (wA hj c)))
def IV{k:uI}(hk:IK prog w h k a)(e:∀o,h.get? a=uA o->h'.get? a=uA o):IK prog w h' k a:=by
 obtain⟨o,items,n,ho,r⟩:=hk;exact⟨o,items,n,e o ho,r⟩
def Ym{es:Array (Int×AA)}{t:Db}(X:TS prog w h S es t ks)(e:∀o,h.get? S=uA o->h'.get? S=uA o):TS prog w h' S es t ks:=by
 obtain⟨o,ep,ho,r⟩:=X.obj;exact⟨⟨o,ep,e o ho,r⟩,X.tab,X.len,X.loc,X.els,X.nd,X.few,X.pl,X.ld⟩
def ACX{led:Bool}(hw:led=ledOf w)(hg:h.get? S=uA {cls:=.type "set",dict:=uB,data:=.set #[] 0 (.fresh 0 0 led)}):TS prog w h S #[] (.fresh 0 0 led) []:=by
 refine⟨⟨_,0,hg,⟨rfl,rfl,rfl⟩,rfl⟩,⟨.inl rfl,rfl,By _,λj hj=>(by cases hj),.nil⟩,rfl,λaS j h' a=>?_,rfl,.nil,by show 0*5<7*3;decide,rfl,hw⟩;cases a
def ACP(a:AA){Q₁:AA->AC->Prop}(h:Q₁ (.ref s.heap.objs.size) {s with heap:=s.heap.push {cls:=.type "set",dict:=uB,data:=.set #[] 0 (.fresh 0 0 (ledOf w))}}) :
  codeAny (AN prog w) A (.call (.builtin "set.__new__") ⟨[.type "set",a],[]⟩) (wants Q₁ E) s:=by
 refine U6 ?_;refine Au (Mc (F.newCall_set_1 a) (AE ⟨JJ U7 _,EA F.entry_set_new ?_⟩));rw[EB U7 _];unfold Builtin.«set.__new__» WI;have sself:=sub_set_self;obtain⟨hp,g,d,tk,os⟩:=s
 wp_walk
 refine KS (AE ?_);refine Au (wpAny_alloc (AE ?_));exact AE h
def ACp{l:List α}:∀{k:Nat}{y:α},l[k]?=uA y->(y::l.eraseIdx k).Perm l:=by
 induction l with
 | nil=>intro k y h;simp at h
 | cons a t ih =>
  intro k y h;cases k with
  | zero =>
   obtain rfl:a=y:=by simpa using h
   exact LO _
  | succ k =>
   have h':t[k]?=uA y:=by simpa using h
   exact(LP a y _).trans (QR a (ih h'))
set_option tactic.hygienic true in
theorem Yc{α:Type}(next:Nat->Nat):∀(aI k:Nat) (left:List α) (out:Array α),left.length<=aI->(X0 next aI k left out).toList.Perm (out.toList++left)
 | 0,k,left,out,h=>by
  have:left=[]:=CO.mp (by lia);subst this;rw[Cc];exact LO _
 | aI+1,k,left,out,h=>by
  unfold X0;cases e:left[next k%left.length]? with
  | none =>
   have hl:left=[]:=by
    cases left with
    | nil=>rfl
    | cons a t =>
     have:=M8 (next k) (show 0<(a::t).length by simp);rw[AI this] at e;cases e
   subst hl;rw[Cc]
  | some x =>
   have hi:=(AG.mp e).1;have hl:=List.length_eraseIdx_of_lt hi;have ih:=Yc next aI (k+1) (left.eraseIdx (next k%left.length)) (out.push x) (xw hl h)
   refine ih.trans ?_;rw[Kb,C5];exact Fc _ (ACp e)
set_option tactic.hygienic true in
theorem ADo(next:Nat->Nat)(xs:Array α):(SY next xs).toList.Perm xs.toList:=by
 have:=Yc next xs.size 0 xs.toList #[] (by simp)
 unfold SY;simpa using this
namespace F
def MN:X1 table "set.__iter__" = uA Builtin.«frozenset.__iter__» :=
 entryFor_alias (id':="frozenset.__iter__") (by kernel_rfl) (by first| rfl| decide+kernel) (by decide+kernel) (by kernel_rfl)
def Uq:Manifest.owners.lookup (String.ofList ['r','o','t','a','r','e','t','i','_','t','e','s'].reverse)=uA Manifest.sig_set_iterator:=by kernel_rfl
def Er:Slot "set_iterator" "__next__" "set_iterator.__next__":=.of (owner:="set_iterator") (n:="__next__") (by rw[U8,QY];kernel_rfl) (by decide+kernel) (by decide+kernel) (by decide+kernel) (by first| exact .inl (by decide+kernel)| exact .inr (by decide+kernel)) (by rw[Q0];kernel_rfl)
def Nm:X1 table "set_iterator.__next__" = uA Builtin.«set_iterator.__next__»:=entryFor_of_tree (by kernel_rfl)
def RL(a:AA):X3 "set_iterator.__next__" ⟨[a],[]⟩:=by
 unfold X3;rw[signature?_of (id:="set_iterator.__next__") (n:=['_','_','t','x','e','n','_','_']) (o:=['r','o','t','a','r','e','t','i','_','t','e','s']) (by kernel_rfl) Uq];kernel_rfl
def JN:Slot "set_iterator" "__iter__" "set_iterator.__iter__":=.of (owner:="set_iterator") (n:="__iter__") (by rw[U8,QY];kernel_rfl) (by decide+kernel) (by decide+kernel) (by decide+kernel) (by first| exact .inl (by decide+kernel)| exact .inr (by decide+kernel)) (by rw[Q0];kernel_rfl)
def RV(a:AA):X3 "set_iterator.__iter__" ⟨[a],[]⟩:=by
 unfold X3;rw[signature?_of (id:="set_iterator.__iter__") (n:=['_','_','r','e','t','i','_','_']) (o:=['r','o','t','a','r','e','t','i','_','t','e','s']) (by kernel_rfl) Uq];kernel_rfl
def Nf:X1 table "set_iterator.__iter__" = uA Builtin.«dict_keyiterator.__iter__» :=
 entryFor_alias (id':="dict_keyiterator.__iter__") (by kernel_rfl) (by first| rfl| decide+kernel| (unfold String.splitOn;simp +decide [String.splitOnAux])) (by decide+kernel) (by kernel_rfl)
end F
def SI(h:Heap)(I S:Addr)(slot i n ep:Nat):Prop:=∃o,h.get? I=uA o/\o.cls=.type "set_iterator"/\o.data=.fields #[He slot,He i,.ref S,He n,He ep]
def SI.typeIs{slot:Nat}(x:SI s.heap I S slot i n ep):s.TypeIs (.ref I) "set_iterator":=by obtain⟨o,ho,hc,_⟩:=x;exact⟨o,ho,hc⟩
section
variable{es:Array (Int×AA)}{t:Db}
def text(w:AS):Bool:=w.params.followText "set-order"
def ord(w:AS)(S:Addr)(ep:Nat)(es:Array (Int×AA)):Array (Int×AA):=if text w=true then SY (w.params.setOrder S ep) es else es
def VG(w:AS)(S:Addr)(ep:Nat)(es:Array (Int×AA)):(ord w S ep es).toList.Perm es.toList:=by
 unfold ord;split
 .exact ADo _ _
 .exact LO _
noncomputable def slotAt(w:AS)(t:Db)(i:Nat):Nat:=if text w=true then 0 else if i=0 then 0 else t.place.getD (i-1) 0+1
def Vu(hx:text w=false)(T:Tab t)(hi:i<=t.place.size):below t.place (slotAt w t i)=i:=by
 obtain⟨b1,b2,b3⟩:=Ga (j:=slotAt w t i) T.rise;have r:=CL.mp T.rise;have gd:∀k (hk:k<t.place.size) d,t.place.getD k d=t.place.toList[k]'(by simpa using hk):=λk hk d=>by simp[ED,hk]
 have sl:∀h0:i≠0,slotAt w t i=t.place.toList[i-1]'(by simp;exact xA h0 hi)+1:=λh0=>by
  unfold slotAt;rw[hx,uC (by decide),uC h0,gd (i-1) (xA h0 hi)]
 rcases L5 (below t.place (slotAt w t i)) i with c| c| c
 .have z:=b2 _ (AF _) (ux c hi)
  rw[gd _ (ux c hi)] at z;have slz:=sl (by lia);by_cases d:below t.place (slotAt w t i)=i-1
  .have:t.place.toList[below t.place (slotAt w t i)]'(by simp;exact ux c hi)=t.place.toList[i-1]'(by simp;exact xB hi c):=by congr 1
   lia
  .have:=r (below t.place (slotAt w t i)) (i-1) (by simp;exact ux c hi) (by simp;exact xB hi c) (by lia)
   lia
 .exact c
 .have z:=b1 i c
  rw[gd i (ux c b3)] at z;by_cases h0:i=0
  .have:slotAt w t i=0:=by unfold slotAt;rw[hx,uC (by decide),uD h0]
   lia
  .have slz:=sl h0
   have:=r (i-1) i (by simp;lia) (by simp;exact ux c b3) (by lia);lia
def ADz(ho:s.heap.get? S=uA o)(hd:o.data=.set es ep t)(T:Tab t)(hl:es.size=t.place.size)(hp:t.plain=true)(cf:t.led=ledOf w){Q:Option (AA×Nat)->AC->Prop}
  (q:Q (((ord w S ep es)[i]?).map λe=>(e.2,slotAt w t (i+1))) s) (hi:i<=es.size):wpAny (AN prog w) A (setNext S (slotAt w t i) i ep) Q E s:=by
 have hf:=Hs T hl;unfold setNext;refine Au (FI ho hd hf ?_);unfold U9;refine Au (Au (KS (AE ?_)));cases hx:text w with
 | true =>
  have iO:(AN prog w).w.params.followText "set-order" = true:=hx;simp only[iO,if_true,bne_self_eq_false,B7,if_false];unfold setWalk U9;refine Au (Au (FI ho hd hf ?_));refine Au (Au (KS (AE ?_)));simp only[iO,if_true];refine Au (KS (AE ?_));refine AE ?_;have e1:ord w S ep es=SY (w.params.setOrder S ep) es:=by unfold ord;rw[hx];rfl
  have e2:∀i,slotAt w t i=0:=λi=>by unfold slotAt;rw[hx];rfl
  rw[e1,e2] at q;rw[e2];exact q
 | false =>
  have iO:(AN prog w).w.params.followText "set-order" = false:=hx;have tJ:t.led=true:=by rw[cf];unfold ledOf;rw[show w.params.followText "set-order" = false from hx];rfl
  have e1:ord w S ep es=es:=by unfold ord;rw[hx];rfl
  rw[e1] at q;simp only[iO,B7,if_false];refine K8 (λhab=>?_) (λ_=>?_)
  .have kN:(!t.plain&&decide (es.size>1))=true:=hab
   rw[hp] at kN;cases kN
  refine Au ?_;show wpAny _ _ (if(!t.led && !es.isEmpty)=true then unsupported "set:maker-not-led" else pure ()) _ _ _;rw[tJ];refine AE (AE ?_);rw[Vu hx T (by rw[<- hl];exact hi)];by_cases c:i<es.size
  .have c2:i<t.place.size:=by rw[<- hl];exact c
   rw[Bn c] at q ⊢;rw[Bn c2];have e3:slotAt w t (i+1)=t.place[i]+1:=by
    unfold slotAt;rw[hx,uC (by decide),uC (by lia)];simp[ED,c2]
   rw[e3] at q;exact q
  .rw[E3 (by lia)] at q ⊢
   exact q
def SSt(w:AS)(I S:Addr)(o:Obj)(es:Array (Int×AA))(t:Db)(ep i:Nat)(h:Heap):Prop:=h.get? S=uA o/\SI h I S (slotAt w t i) i es.size ep
def Yq(hh:A.handled=uB)(dA:S≠I)(hd:o.data=.set es ep t)(T:Tab t)(hl:es.size=t.place.size)(hp:t.plain=true)(cf:t.led=ledOf w)(st:SSt w I S o es t ep i s.heap)(hi:i<=es.size){Q:Option AA->AC->Prop}
  (q1:∀e h',(ord w S ep es)[i]?=uA e->SSt w I S o es t ep (i+1) h'->EX I s.heap h'->Q (uA e.2) {s with heap:=h'})
  (q2:(ord w S ep es)[i]?=none->∀h',TK I s.heap h'->Q uB {s with heap:=h'}):wpAny (AN prog w) A (L8 (.ref I)) Q E s:=by
 obtain⟨ho,x⟩:=st;obtain⟨oi,oC,sq,rA⟩:=id x;unfold L8;refine Au (Op (wpAny_callSpecial?_slot (name:=Kj "__next__") x.typeIs F.Er (D5 F.Er x.typeIs F.Nm ?_ (F.RL _))));unfold Builtin.«set_iterator.__next__»;refine Au (Mc (a:=(A9 I,[])) rfl ?_)
 try dsimp only
 refine Au (QO oC rA ?_);refine Au (Sb ho hd (Hs T hl) ?_);simp only[bne_self_eq_false,B7,if_false];show wpAny _ _ (setNext S (((slotAt w t i:Nat):Int)).toNat (((i:Nat):Int)).toNat (((ep:Nat):Int)).toNat >>= _) _ _ s;rw[Cn,Cn,Cn];refine Au (ADz ho hd T hl hp cf ?_ hi);cases e:(ord w S ep es)[i]? with
 | some v =>
  refine Au (IJ oC rA (by simp) ?_);have g1:=EJ (Os (λfs=>fs.setIfInBounds 0 (He ((slotAt w t (i+1):Nat):Int)))) oC (Kn (Fn rA _));have d1:=Fn rA (λfs=>fs.setIfInBounds 0 (He ((slotAt w t (i+1):Nat):Int)));refine Au (IJ g1 d1 (by simp) ?_);have g2:=EJ (Os (λfs=>fs.setIfInBounds 1 (He ((i:Int)+1)))) g1 (Kn (Fn d1 _));have d2:=Fn d1 (λfs=>fs.setIfInBounds 1 (He ((i:Int)+1)));refine AE ⟨_,rfl,AE (q1 v _ e ⟨?_,_,g2,?_,?_⟩ ((D7 ..).trans (D7 ..)))⟩
  .exact(EZ _ _ (Bi dA)).trans ((EZ _ _ (Bi dA)).trans ho)
  .exact(LZ ..).trans ((LZ ..).trans sq)
  .rw[d2]
   simp
 | none =>
  refine Au (IJ oC rA (by simp) ?_);refine Au ?_;refine Au (DU ?_ (by size_fits));refine Au (m:=Kt _ _) (Mc (a:=DE) (by first| rfl| (simp only[Kt];rfl)) ?_);refine DU ?_ (by size_fits);refine Au (RR ?_);rw[show A.in1.handled=uB from hh];refine Au (AE (TL ?_));refine Au (IP (T:="StopIteration") (b:=true) ⟨_,A2 _ rfl,rfl⟩ V2 ?_);exact AE (q2 e _ (((D7 ..).extBut.push _).push _))
def Mx(w:AS)(S:Addr)(ep:Nat)(es:Array (Int×AA)):(ord w S ep es).size=es.size:=by
 rw[<- A1,(VG w S ep es).length_eq,A1]
def ZP(hh:A.handled=uB)(dA:S≠I)(hd:o.data=.set es ep t)(T:Tab t)(hl:es.size=t.place.size)(hp:t.plain=true)(cf:t.led=ledOf w) :
  Walks prog w A I [I,S] [I] es.size (λi v=>∃e,(ord w S ep es)[i]?=uA e/\v=e.2) (λi h=>i<=es.size/\SSt w I S o es t ep i h) where
 sub:=λb hb=>by simp at hb;simp[hb]
 frame:=by rintro i h h' ⟨hi,h1,oi,h2,r⟩ hk;exact⟨hi,hk S (by simp) o h1,oi,hk I (by simp) oi h2,r⟩
 item:=by
  rintro i s Q E hi ⟨br,st⟩ hQ;refine Yq hh dA hd T hl hp cf st br (λe h' ge ah sb=>hQ _ h' s.toks ⟨e,ge,rfl⟩ ⟨hi,ah⟩ λb ob hb eo=>?_) (λz=>?_)
  .rw[sb.2 b (λ(q:b=I)=>hb (by simp[q]))]
   exact eo
  .have:=Mx w S ep es
   rw[Array.getElem?_eq_none_iff] at z;lia
 done:=by
  rintro s Q E ⟨_,st⟩ hQ;refine Yq hh dA hd T hl hp cf st (AF _) (λe h' ge ah sb=>?_) (λz h' eb=>hQ h' s.toks λb ob hb eo=>eb b ob (λq=>hb (by simp[q])) eo);have:=(C8.mp ge).1;rw[Mx] at this;lia
 self:=by
  rintro i s Q E ⟨_,_,x⟩ hQ;refine OG x.typeIs F.JN (D5 F.JN x.typeIs F.Nf ?_ (F.RV _));exact AE ⟨_,rfl, "set_iterator",_,x.typeIs,F.Er.lookup,hQ⟩
def ABG(ho:s.heap.get? S=uA o)(dS:o.ExactSet)(hd:o.data=.set es ep t)(T:Tab t)(hl:es.size=t.place.size)(hp:t.plain=true)
  (q:∀x,(s.heap.push x).get? s.heap.objs.size=uA x->SSt w s.heap.objs.size S o es t ep 0 (s.heap.push x)->Q (.ref s.heap.objs.size) {s with heap:=s.heap.push x}):wpAny (AN prog w) A (QA (.ref S)) Q E s:=by
 have hf:=Hs T hl;have tS:s.TypeIs (.ref S) "set":=⟨o,ho,dS.1⟩;refine OG tS Q1 (D5 Q1 tS F.MN ?_ (PySem.F.args_set_iter_1 _));unfold Builtin.«frozenset.__iter__»;refine Au (Mc (a:=S) rfl ?_);refine Au (m:=X4 S) (Au (Sb ho hd hf (AE ?_)));refine Au (m:=setDrawn S) ?_;unfold setDrawn U9;refine Au (FI ho hd hf ?_);refine Au (Au (KS (AE ?_)));refine AE ?_;refine K8 (λhab=>?_) (λ_=>?_)
 .have kN:(!w.params.followText "set-order" && (!t.plain&&decide (es.size>1)))=true:=hab
  rw[hp] at kN;simp at kN
 refine Au (AE ?_);refine Au (wpAny_setEpoch_of ho hd hf ?_);unfold newFields;refine Au (DU ?_);have z:slotAt w t 0=0:=by
  unfold slotAt;split
  .rfl
  .rfl
 refine AE ⟨_,rfl, "set_iterator",_,⟨_,A2 _ rfl,rfl⟩,F.Er.lookup,q _ (A2 _ rfl) ⟨AL _ ho,_,A2 _ rfl,rfl,?_⟩⟩;rw[z];rfl
def ABe(ho:s.heap.get? S=uA o)(dS:o.ExactSet){Q:Bool->AC->Prop}(h:Q false s):wpAny (AN prog w) A (N6 (.ref S)) Q E s:=by
 have tS:s.TypeIs (.ref S) "set":=⟨o,ho,dS.1⟩;unfold N6;refine Au (Ic tS PySem.F.slot_set_len.lookup ?_);generalize hid:("set.__len__" : String)=id0
 wp_delta
 rw[show splitId id0=uA ("set","__len__") from by subst hid;decide+kernel];subst hid;refine Au (IP (T:="set") (b:=true) tS (by rw[Q0];kernel_rfl) ?_);refine K8 (λhab=>uH hab (by decide)) (λ_=>?_);refine K8 (λ_=>?_) (λhab=>uH (by decide+kernel) hab);refine Au (M3 tS ?_);exact AE h
def Ve{R:UT->AC->Prop}(hh:A.handled=uB)(ho:s.heap.get? S=uA o)(dS:o.ExactSet)(hd:o.data=.set es ep t)(T:Tab t)(hl:es.size=t.place.size)(hp:t.plain=true)(cf:t.led=ledOf w)(l8:es.size<=301)
  (D:Addr) (res:AA) (c₀:Nat) (hD:s.heap.get? D=uA {cls:=.type "list",data:=.seq #[] c₀})
  (hR:∀h' tk ay c',(∀b ob,b≠D->s.heap.get? b=uA ob->h'.get? b=uA ob)->h'.get? D=uA {cls:=.type "list",dict:=uB,data:=.seq ay c',slots:=#[]} ->
   ItemsOf (λi v=>∃e,(ord w S ep es)[i]?=uA e/\v=e.2) ay es.size->R (.ok (.ret res)) {s with heap:=h',toks:=tk}) :
  wpAny (AN prog w) A.in1 (HR (.ref D) (.ref S) res)
   (λfin s'=>match fin with| .done f=>R (.ok f) s' | .again c'=>c'.quiet=true/\codeAny (AN prog w) A c' R s') (λe s'=>R (.error e) s') s:=by
 have tS:s.TypeIs (.ref S) "set":=⟨o,ho,dS.1⟩;have nDS:D≠S:=λe=>by
  rw[e,ho] at hD;cases hD;cases hd
 have nSI:=BY (BH ho);have nDI:=BY (BH hD);have nDf:D∉[s.heap.objs.size,S]:=λhm=>by
  rcases AW.mp hm with e| hm
  .exact nDI e
  .exact nDS (B2.mp hm)
 have W:=(ZP (prog:=prog) (A:=A.in1) (o:=o) hh nSI hd T hl hp cf).toS;unfold HR;refine Au (M3 (T:="set") tS ?_);have c1:O5 (.ref D) (.ref S)=false:=by simp[O5,nDS]
 have c2:(C3 "set" == C3 "list")=false:=by decide
 have c3:(C3 "set" == C3 "tuple")=false:=by decide
 simp only[c1,c2,c3,WJ,B7,if_false];refine Au (ABG ho dS hd T hl hp λx gx st=>?_);refine Au (Ee (ABe (s:={s with heap:=s.heap.push x}) (AL _ ho) dS ?_));refine K8 (λ_=>?_) (λhab=>uH (by decide+kernel) hab);have hD1:(s.heap.push x).get? D=uA {cls:=.type "list",data:=.seq #[] c₀}:=AL _ hD;refine Au (IE ?_);refine Au ?_;refine Au (PM hD1 rfl ?_);have cS:=EJ (DZ (·.push DE)) hD1 rfl;refine PM (hz:=by seq_fits) cS rfl ?_;have js:=EJ (DZ (·.pop)) cS rfl;have keep:∀b ob,b≠D->(s.heap.push x).get? b=uA ob->(((s.heap.push x).update D (DZ (·.push DE))).update D (DZ (·.pop))).get? b=uA ob:=λb ob hb e=>(EZ _ _ (Bi hb)).trans ((EZ _ _ (Bi hb)).trans e);obtain⟨st1,oi,be,dk⟩:=st;refine AE ⟨JJ F.plain_extend_loop _,?_⟩;refine codeAny_extend_loopS W (by rw[F6];lia) D nDf res es.size 0 _ _ _ rfl (By _) ⟨By _,keep S o nDS.symm st1,oi,keep _ oi (Bi nDI) be,dk⟩ js (ItemsOf.nil _) λs' ay c' hm dC aE=>?_;rw[Moved.eq_with hm];refine hR s'.heap s'.toks ay c' (λb ob hb e=>hm.heap b ob (λjv=>?_) (keep b ob hb (AL _ e))) dC aE;rcases AW.mp jv with e' | jv
 .exact hb e'
 .exact uH (BH e) (by rw[B2.mp jv];exact FB _)
end
end SB
namespace SB
open PySem PySem.W PyProof.Rows
abbrev g(p:Array Nat)(k:Nat):Nat:=p.getD k 0
structure PP(n:Nat)(p:Array Nat):Prop where
 size:p.size=n
 lt:∀k,k<n->g p k<n
 inj:∀k k',k<n->k'<n->g p k=g p k'->k=k'
structure Tot(n:Nat)(lt:Nat->Nat->Bool):Prop where
 or:∀i j,i<n->j<n->i≠j->lt i j=false->lt j i=true
 as:∀i j,i<n->j<n->lt i j=true->lt j i=false
 tr:∀i j k,i<n->j<n->k<n->lt i j=true->lt j k=true->lt i k=true
def Up(lt:Nat->Nat->Bool)(p:Array Nat)(m:Nat):Prop:=∀a b,a<b->b<m->lt (g p a) (g p b)=true
section
variable{lt:Nat->Nat->Bool}{p:Array Nat}
def ACv(n:Nat):PP n (LI (AR n)):=by
 have ge:∀k,k<n->g (LI (AR n)) k=k:=λk hk=>by
  unfold g;rw[HU];simp[hk]
 refine⟨by simp,λk hk=>by rw[ge k hk];exact hk,λk k' hk a6 e=>?_⟩;rw[ge k hk,ge k' a6] at e;exact e
end
end SB
namespace TM
open PySem PyProof.Rows
def Jp:Nat->Nat->StateT BM Sem uX:=sortPriv% PySem.Builtin.countRun
def Rh(lo a9:Nat):Jp lo a9=(do
 let mut n:=1
 for _ in [1:a9] do
  let uA smaller <- PQ (lo+n) (lo+n-1)| return uB
  if smaller then break
  n:=n+1
 if n==a9 then return uA n
 if n>1 then
  let uA rose <- PQ lo (lo+n-1)| return uB
  if rose then return uA n
  OA lo (lo+n)
 rule "list.sort.descending-run"
 n:=n+1
 let mut neq:=0
 for _ in [n:a9] do
  let uA smaller <- PQ (lo+n) (lo+n-1)| return uB
  if smaller then
   if neq>0 then OA (lo+n-(neq+1)) (lo+n)
   neq:=0
  else
   let uA larger <- PQ (lo+n-1) (lo+n)| return uB
   if larger then break
   neq:=neq+1
  n:=n+1
 if neq>0 then OA (lo+n-(neq+1)) (lo+n)
 OA lo (lo+n)
 for _ in [n:a9] do
  let uA smaller <- PQ (lo+n) (lo+n-1)| return uB
  if smaller then break
  n:=n+1
 return uA n):=rfl
def N(rk:AH->Int)(xs:Array AH)(i:Nat):Int:=match xs[i]? with
 | some p=>rk p
 | none=>0
variable{rk:AH->Int}
def Fo{xs ys:Array AH}(h:xs[i]?=ys[j]?):N rk xs i=N rk ys j:=by unfold N;rw[h]
def Al(G:AH->Prop)(xs:Array AH):Prop:=∀(i:Nat) (x:AH),xs[i]?=uA x->G x
def Al.perm{G:AH->Prop}{xs ys:Array AH}(h:Al G xs)(p:ys.Perm xs):Al G ys:=λi x e=>by
 have m:x∈ys.toList:=by
  obtain⟨hl,rfl⟩:=C8.mp e;exact O6 hl
 have m2:=(IA.mp p).mem_iff.mp m;obtain⟨k,hk,e⟩:=C4.mp m2;exact h k x (by rw[<- Cb,AI hk,e])
def Di(rk:AH->Int)(xs:Array AH):Prop:=(xs.toList.map rk).Nodup
def Di.perm{xs ys:Array AH}(h:Di rk xs)(p:ys.Perm xs):Di rk ys:=((IA.mp p).map rk).nodup_iff.mpr h
def Di.ne{xs:Array AH}(h:Di rk xs)(ij:i<j)(jl:j<xs.size):N rk xs i≠N rk xs j:=by
 have il:i<xs.size:=uP ij jl;have:=CL.mp h i j (by simpa using il) (by simpa using jl) ij;unfold N;rw[Bn il,Bn jl];simpa using this
def Up(rk:AH->Int)(xs:Array AH)(lo hi:Nat):Prop:=∀i j,lo<=i->i<=j->j<hi->N rk xs i<=N rk xs j
def Down(rk:AH->Int)(xs:Array AH)(lo hi:Nat):Prop:=∀i j,lo<=i->i<=j->j<hi->N rk xs j<=N rk xs i
structure Ba(G:AH->Prop)(rk:AH->Int)(κ:ES)(a₀:Array AH)(st:BM):Prop where
 perm:(AX st).Perm a₀
 kind:kindOf st=κ
 failed:G1 st=uB
 all:Al G a₀
 di:Di rk a₀
structure Nx(lo:Nat)(st ah:BM):Prop where
 perm:(AX ah).Perm (AX st)
 kind:kindOf ah=kindOf st
 failed:G1 ah=G1 st
 pend:BQ ah=BQ st
 low:∀i,i<lo->(AX ah)[i]?=(AX st)[i]?
def Nx.refl(lo:Nat)(st:BM):Nx lo st st:=⟨VA _,rfl,rfl,rfl,λ_ _=>rfl⟩
def Nx.trans{a b c:BM}(h:Nx lo a b)(k:Nx lo b c):Nx lo a c:=⟨k.perm.trans h.perm,k.kind.trans h.kind,k.failed.trans h.failed,k.pend.trans h.pend,λi hi=>(k.low i hi).trans (h.low i hi)⟩
def Ba.nx{G:AH->Prop}(h:Ba G rk κ a₀ st)(n:Nx lo st ah):Ba G rk κ a₀ ah:=⟨n.perm.trans h.perm,n.kind.trans h.kind,n.failed.trans h.failed,h.all,h.di⟩
def Ba.size{G:AH->Prop}(h:Ba G rk κ a₀ st):(AX st).size=a₀.size:=h.perm.size_eq
def Ba.ne{G:AH->Prop}(h:Ba G rk κ a₀ st)(ij:i<j)(jl:j<a₀.size):N rk (AX st) i≠N rk (AX st) j:=(h.di.perm h.perm).ne ij (by rw[h.size];exact jl)
section
variable{G:AH->Prop}
def Cmp(prog:AM)(w:AS)(A:B0)(E:AA->AC->Prop)(s:AC)(κ:ES)(G:AH->Prop)(rk:AH->Int):Prop :=
 ∀x y,G x->G y->∀(st:BM) (Q:Option Bool->BM->Prop),kindOf st=κ->Q (uA (decide (rk x<rk y))) st->wpS (AN prog w) A E s (lt' x y) Q st
def Bj{xs:Array AH}{Q:AH->BM->Prop}(hi:i<xs.size)(h:Q xs[i] st):wpS (AN prog w) A E s (D1 xs i) Q st:=by
 rw[elem'_eq,Bn hi];exact A8 h
def Gj{xs:Array AH}(hi:i<xs.size):N rk xs i=rk xs[i]:=by unfold N;rw[Bn hi]
def Al.at{xs:Array AH}(h:Al G xs)(hi:i<xs.size):G xs[i]:=h i _ (Bn hi)
def Td(C:Cmp prog w A E s κ G rk)(B:Ba G rk κ a₀ st){Q:Option Bool->BM->Prop}(hi:i<a₀.size)(hj:j<a₀.size)(h:Q (uA (decide (N rk (AX st) i<N rk (AX st) j))) st):wpS (AN prog w) A E s (PQ i j) Q st:=by
 have br:i<(AX st).size:=by rw[B.size];exact hi
 have bu:j<(AX st).size:=by rw[B.size];exact hj
 have al:=B.all.perm B.perm;rw[ltAt'_eq];refine AQ (KA ?_);refine AQ (Bj br (AQ (Bj bu ?_)));refine C _ _ (al.at br) (al.at bu) st Q B.kind ?_;rw[<- Gj (rk:=rk) br,<- Gj (rk:=rk) bu];exact h
def Sw{xs:Array AH}(hj:j<=xs.size)(k:Nat):N rk (mirror xs i j ((j-i) / 2)) k=if i<=k/\k<j then N rk xs (i+j-1-k) else N rk xs k:=by
 have e:=getElem?_mirror_all (i:=i) hj k;by_cases h1:i<=k/\k<j
 .rw[uD h1] at e ⊢;exact Fo e
 .rw[uC h1] at e ⊢;exact Fo e
def VF{xs:Array AH}{lw d:Nat}(hs:lw<xs.size)(hd:d<=lw)(k:Nat):N rk (bubble xs lw d) k=if k=lw-d then N rk xs lw else if lw-d<k/\k<=lw then N rk xs (k-1) else N rk xs k:=by
 have e:=getElem?_bubble hs d hd k;by_cases h1:k=lw-d
 .rw[uD h1] at e ⊢;exact Fo e
 .rw[uC h1] at e ⊢
  by_cases h2:lw-d<k/\k<=lw
  .rw[uD h2] at e ⊢;exact Fo e
  .rw[uC h2] at e ⊢;exact Fo e
def AHB(hh:hi<=(AX st).size):Nx lo st (VC st (mirror (AX st) lo hi ((hi-lo) / 2))):=⟨mirror_perm _ _ _ _,rfl,rfl,rfl,λi br=>by
 rw[getElem?_mirror_all hh,uC (ya br)]⟩
def ABj(C:Cmp prog w A E s κ G rk)(B:Ba G rk κ a₀ st)(h1:1<=n)(hn:n<a9)(hs:lo+a9<=a₀.size)(up:Up rk (AX st) lo (lo+n)){Q:Option Bool->BM->Prop}
  (hy:N rk (AX st) (lo+n)<N rk (AX st) (lo+n-1)->Q (uA true) st) (iP:Up rk (AX st) lo (lo+(n+1))->Q (uA false) st):wpS (AN prog w) A E s (PQ (lo+n) (lo+n-1)) Q st:=by
 refine Td C B (vC hs hn) (wT hs hn) ?_;by_cases c:N rk (AX st) (lo+n)<N rk (AX st) (lo+n-1)
 .rw[uE c]
  exact hy c
 .rw[uF c]
  refine iP λi j li ij jh=>?_;by_cases d:j<lo+n
  .exact up i j li ij d
  .by_cases e:i=j
   .rw[e];exact HP _
   .have:=up i (lo+n-1) li (by lia) (by lia)
    have ej:j=lo+n:=yb jh d;rw[ej];lia
theorem Yr(C:Cmp prog w A E s κ G rk){n0:Nat}(B:Ba G rk κ a₀ st)(h1:1<=n0)(hn:n0<=a9)(hs:lo+a9<=a₀.size)(up:Up rk (AX st) lo (lo+n0)){Q:(Option uX×Nat)->BM->Prop}
  (h:∀n,n0<=n->n<=a9->Up rk (AX st) lo (lo+n)->(n<a9->N rk (AX st) (lo+n)<N rk (AX st) (lo+n-1))->Q (uB,n) st) :
  wpS (AN prog w) A E s (forIn [n0:a9] ((uB,n0):Option uX×Nat) λ_ r=>do
   let x <- PQ (lo+r.2) (lo+r.2-1)
   match x with
   | some smaller=>if smaller=true then pure (BU (uB,r.2)) else pure (C6 (uB,r.2+1))
   | _=>pure (BU (uA uB,r.2))) Q st:=by
 refine DV (I:=λx c ah=>ah=st/\c=(uB,x)/\n0<=x/\x<=a9/\Up rk (AX st) lo (lo+x)) ?_ ?_ ⟨rfl,rfl,AF _,hn,up⟩
 .rintro x c ah ax xb ⟨rfl,rfl,_,_,fh⟩
  refine AQ (ABj C B (vg h1 ax) xb hs fh (λlt=>?_) (λup2=>?_))
  .exact A8 (h x ax (by lia) fh λ_=>lt)
  .exact A8 ⟨rfl,rfl,u4 ax,xb,up2⟩
 .rintro c ah ⟨rfl,rfl,a1,a2,fh⟩
  refine h _ a1 a2 fh λz=>?_;lia
end
variable{rk:AH->Int}{G:AH->Prop}
def Ng(C:Cmp prog w A E s κ G rk)(B:Ba G rk κ a₀ st)(h1:1<=a9)(hs:lo+a9<=a₀.size){Q:uX->BM->Prop}
  (h:∀n ah,1<=n->n<=a9->Nx lo st ah->Up rk (AX ah) lo (lo+n)->Q (uA n) ah):wpS (AN prog w) A E s (Jp lo a9) Q st:=by
 rw[Rh];refine AQ (Yr C B (AF 1) h1 hs (λi j li ij jh=>by
  have:i=j:=by lia
  rw[this];exact HP _) λn n1 nn up lt=>?_)
 dsimp only;by_cases c:n=a9
 .rw[uD (by rw[c];exact beq_self_eq_true _)]
  exact A8 (h n st n1 nn (Nx.refl _ _) up)
 rw[uC (by intro z;exact c (beq_iff_eq.mp z))];have sm:=lt (vK nn c);by_cases d:n>1
 .rw[uD d]
  refine AQ (Td C B (by lia) (zm hs d nn) ?_);have a1:=up lo (lo+n-1) (AF _) (by lia) (by lia);have a2:=B.ne (i:=lo) (j:=lo+n-1) (by lia) (zm hs d nn);rw[uE (show N rk (AX st) lo<N rk (AX st) (lo+n-1) by lia)];exact A8 (h n st n1 nn (Nx.refl _ _) up)
 rw[uC d];have e1:n=1:=by lia
 subst e1;have wn:lo+1-1=lo:=by lia
 rw[wn] at sm;refine AQ (NL (IE ⟨rfl,?_⟩));refine AQ (EH (DV (I:=λx c ah=>ah=st/\c=(uB,x,0)/\2<=x/\x<=a9/\Down rk (AX st) lo (lo+x)) (Q:=λc ah=>ah=st/\∃m,c=(uB,m,0)/\2<=m/\m<=a9/\Down rk (AX st) lo (lo+m)) ?_ ?_ ⟨rfl,rfl,AF _,by lia,?_⟩) ?_)
 .rintro x c ah ax xb ⟨rfl,rfl,x2,_,dn⟩
  dsimp only;refine AQ (Td C B (vC hs xb) (wT hs xb) ?_);by_cases c1:N rk (AX ah) (lo+x)<N rk (AX ah) (lo+x-1)
  .rw[uE c1]
   dsimp only;rw[uD rfl,uC xJ];refine A8 ⟨rfl,rfl,by lia,xb,λi j li ij jh=>?_⟩;by_cases d1:j<lo+x
   .exact dn i j li ij d1
   .have ej:j=lo+x:=yb jh d1
    subst ej;by_cases e:i=lo+x
    .rw[e];exact HP _
    .have:=dn i (lo+x-1) li (by lia) (zn ax)
     exact zc c1 this
  .rw[uF c1]
   dsimp only;rw[uC (by decide)];refine AQ (Td C B (wT hs xb) (vC hs xb) ?_);have a2:=B.ne (i:=lo+x-1) (j:=lo+x) (zn ax) (vC hs xb);rw[uE (show N rk (AX ah) (lo+x-1)<N rk (AX ah) (lo+x) by lia)];dsimp only;rw[uD rfl];exact A8 ⟨rfl,x,rfl,x2,by lia,dn⟩
 .rintro c ah ⟨rfl,rfl,a1,a2,dn⟩
  exact⟨rfl,_,rfl,a1,a2,dn⟩
 .intro i j li ij jh
  by_cases e:i=j
  .rw[e];exact HP _
  .rw[show i=lo by lia,show j=lo+1 by lia]
   exact wB sm
 .rintro c ah ⟨rfl,m,rfl,m2,mn,dn⟩
  dsimp only;rw[uC xJ,reverseSlice'_eq];have sz:lo+m<=(AX ah).size:=by rw[B.size];lia
  have nx:=AHB (st:=ah) (lo:=lo) sz;refine AQ (IG ?_);have up2:Up rk (AX (VC ah (mirror (AX ah) lo (lo+m) ((lo+m-lo) / 2)))) lo (lo+m):=λi j li ij jh=>by
   rw[Sw sz,Sw sz,uD (by lia),uD (by lia)];exact dn _ _ (by lia) (yc ij) (by lia)
  refine AQ (Yr C (B.nx nx) (vN m2) mn hs up2 λn' n1' nn' fh _=>?_);exact A8 (h n' _ (by lia) nn' nx fh)
def Mr:Nat->Nat->Nat->StateT BM Sem Bool:=sortPriv% PySem.Builtin.binarySort
def Ti(lo n ok:Nat):Mr lo n ok=(do
 for k in [max ok 1:n] do
  let mut l:=0
  let mut r:=k
  for _ in [0:k] do
   if l >= r then break
   let m:=(l+r) / 2
   let uA less <- PQ (lo+k) (lo+m)| return false
   if less then r:=m else l:=m+1
  moveDown' (lo+k) (lo+l)
 return true):=rfl
def Qg(C:Cmp prog w A E s κ G rk){ok:Nat}(B:Ba G rk κ a₀ st)(hn:lo+n<=a₀.size)(hok:ok<=n)(up:Up rk (AX st) lo (lo+ok)){Q:Bool->BM->Prop}
  (h:∀ah,Nx lo st ah->Up rk (AX ah) lo (lo+n)->Q true ah):wpS (AN prog w) A E s (Mr lo n ok) Q st:=by
 rw[Ti];refine AQ (EH (DV (I:=λk c ah=>c=(uB,())/\Nx lo st ah/\Up rk (AX ah) lo (lo+min k n))
  (Q:=λc ah=>c=(uB,())/\Nx lo st ah/\Up rk (AX ah) lo (lo+n)) ?step ?fin ?init) ?post)
 case post =>
  rintro c ah ⟨rfl,nx,fh⟩;exact A8 (h ah nx fh)
 case init =>
  refine⟨rfl,Nx.refl _ _,λi j li ij jh=>?_⟩;by_cases e:i=j
  .rw[e];exact HP _
  .exact up i j li ij (by lia)
 case fin =>
  rintro c ah ⟨hc,nx,fh⟩;refine⟨hc,nx,?_⟩
  rwa [show min (max (max ok 1) n) n=n by lia] at fh
 case step =>
  rintro k c ah hak hkn ⟨rfl,nx,fh⟩;rw[show min k n=k from xU hkn] at fh;have B':=B.nx nx;have hk:lo+k<a₀.size:=vC hn hkn;refine AQ (EH (DV (I:=λx c ck=>ck=ah/\∃l r,c=(uB,l,r)/\l<=r/\r<=k/\r-l<=k-x /\
    (∀i,lo<=i->i<lo+l->N rk (AX ah) i<=N rk (AX ah) (lo+k))/\(∀i,lo+r<=i->i<lo+k->N rk (AX ah) (lo+k)<N rk (AX ah) i))
   (Q:=λc ck=>ck=ah/\∃l r,c=(uB,l,r)/\l<=k /\
    (∀i,lo<=i->i<lo+l->N rk (AX ah) i<=N rk (AX ah) (lo+k))/\(∀i,lo+l<=i->i<lo+k->N rk (AX ah) (lo+k)<N rk (AX ah) i)) ?istep ?ifin ?iinit) ?ipost)
  case iinit=>exact⟨rfl,0,k,rfl,vU,vn,vn,λi hi=>by lia,λi h1 h2=>by lia⟩
  case ifin =>
   rintro c ck ⟨rfl,l,r,rfl,hlr,hrk,hm,qd,hhi⟩;have:l=r:=yZ hlr hm;subst this;exact⟨rfl,l,l,rfl,hrk,qd,hhi⟩
  case istep =>
   rintro x c ck _ hxk ⟨rfl,l,r,rfl,hlr,hrk,hm,qd,hhi⟩;dsimp only;by_cases rJ:l >= r
   .rw[uD rJ]
    have:l=r:=wL hlr rJ;subst this;exact A8 ⟨rfl,l,l,rfl,hrk,qd,hhi⟩
   .rw[uC rJ]
    refine AQ (Td C B' hk (by lia) ?_);by_cases hless:N rk (AX ck) (lo+k)<N rk (AX ck) (lo+(l+r) / 2)
    .simp only[hless,decide_true,if_true]
     refine A8 ⟨rfl,l,(l+r) / 2,rfl,by lia,by lia,by lia,qd,λi h1 h2=>?_⟩;exact Int.lt_of_lt_of_le hless (fh _ _ uO h1 h2)
    .simp only[hless,decide_false,B7,if_false]
     refine A8 ⟨rfl,(l+r) / 2+1,r,rfl,by lia,hrk,by lia,λi h0 h1=>?_,hhi⟩;exact ET (fh i (lo+(l+r) / 2) h0 (by lia) (by lia)) (J1.mp hless)
  case ipost =>
   rintro c ck ⟨rfl,l,r,rfl,hlk,qd,hhi⟩;show wpS _ _ _ _ (do moveDown' (lo+k) (lo+l);pure (C6 (uB,()))) _ _;rw[moveDown'_eq];have qI:lo+k<(AX ck).size:=by rw[B'.size];exact hk
   have nx2:Nx lo ck (VC ck (bubble (AX ck) (lo+k) (lo+k-(lo+l)))):=⟨bubble_perm _ _ _,rfl,rfl,rfl,λi hi=>by
    rw[getElem?_bubble qI _ ve,uC (by lia),uC (by lia)]⟩
   refine AQ (IG (A8 ⟨rfl,nx.trans nx2,?_⟩));rw[show min (k+1) n=k+1 by lia];intro i j li iE hj;rw[VF qI ve,VF qI ve,show lo+k-(lo+k-(lo+l))=lo+l by lia]
   repeat' split
   all_goals first
    | (exfalso;omega)
    | exact HP _
    | exact qd _ (by omega) (by omega)
    | exact FK (hhi _ (by lia) (by lia))
    | exact fh _ _ (by lia) (by lia) (by lia)
variable{rk:AH->Int}{G:AH->Prop}
def DW:Bool->AH->Array AH->Nat->Nat->Nat->StateT BM Sem uX:=sortPriv% PySem.Builtin.gallop
noncomputable def FW(left:Bool)(key:AH)(arr:Array AH)(base i:Nat):StateT BM Sem (Option Bool):=do
  let x <- D1 arr (base+i)
  if left then lt' x key else return (<- lt' key x).map (!·)
def Vm(left:Bool)(key:AH)(arr:Array AH)(base n hint:Nat):DW left key arr base n hint=(do
 let mut lastofs:=0
 let mut ofs:=1
 let mut lo:=0
 let mut hi:=0
 let uA right <- FW left key arr base hint| return uB
 if right then
  let maxofs:=n-hint
  for _ in [0:n] do
   if ofs >= maxofs then break
   let uA more <- FW left key arr base (hint+ofs)| return uB
   if !more then break
   lastofs:=ofs
   ofs:=2*ofs+1
  lo:=hint+lastofs+1
  hi:=hint+min ofs maxofs
 else
  let maxofs:=hint+1
  for _ in [0:n] do
   if ofs >= maxofs then break
   let uA found <- FW left key arr base (hint-ofs)| return uB
   if found then break
   lastofs:=ofs
   ofs:=2*ofs+1
  lo:=hint+1-min ofs maxofs
  hi:=hint-lastofs
 for _ in [0:n] do
  if lo >= hi then break
  let m:=lo+(hi-lo) / 2
  let uA more <- FW left key arr base m| return uB
  if more then lo:=m+1 else hi:=m
 return uA hi):=rfl
noncomputable def bey(rk:AH->Int)(left:Bool)(key:AH)(arr:Array AH)(base i:Nat):Bool:=if left then decide (N rk arr (base+i)<rk key) else !decide (rk key<N rk arr (base+i))
def XC(C:Cmp prog w A E s κ G rk){key:AH}{base:Nat}{Q:Option Bool->BM->Prop}(hk:G key)(al:Al G arr)(kd:kindOf st=κ)(hi:base+i<arr.size)(h:Q (uA (bey rk left key arr base i)) st) :
  wpS (AN prog w) A E s (FW left key arr base i) Q st:=by
 unfold FW;refine AQ (Bj hi ?_);unfold bey at h;rw[Gj hi] at h;cases left with
 | true =>
  rw[uD rfl] at h ⊢;exact C _ _ (al.at hi) hk st _ kd h
 | false =>
  rw[uC (by decide)] at h ⊢;refine AQ (C _ _ hk (al.at hi) st _ kd (A8 ?_));exact h
def Mono(p:Nat->Bool)(n:Nat):Prop:=∀i j,i<=j->j<n->p j=true->p i=true
def Fw{key:AH}{base:Nat}(up:Up rk arr base (base+n)):Mono (bey rk left key arr base) n:=λi j ij jn h=>by
 have:=up (base+i) (base+j) uO (by lia) (ye jn);unfold bey at h ⊢;cases left with
 | true =>
  rw[uD rfl] at h ⊢;have:=uG h;exact uE (by lia)
 | false =>
  rw[uC (by decide)] at h ⊢;have h':¬ rk key<N rk arr (base+j):=λz=>by rw[uE z] at h;cases h
  rw[uF (by lia)];rfl
def Dt(C:Cmp prog w A E s κ G rk){key:AH}{base hint:Nat}{Q:uX->BM->Prop}(hk:G key)(al:Al G arr)(kd:kindOf st=κ)(hn:base+n<=arr.size)(hh:hint<n)(mo:Mono (bey rk left key arr base) n)
  (h:∀k,k<=n->(∀i,i<k->bey rk left key arr base i=true)->(∀i,k<=i->i<n->bey rk left key arr base i=false)->Q (uA k) st):wpS (AN prog w) A E s (DW left key arr base n hint) Q st:=by
 rw[Vm];generalize hp:bey rk left key arr base=p at mo h;have ask:∀{i:Nat}{Q:Option Bool->BM->Prop},i<n->Q (uA (p i)) st->wpS (AN prog w) A E s (FW left key arr base i) Q st:=λ{i Q} hi q=>XC C hk al kd (vC hn hi) (by rw[hp];exact q);have qq:∀{k:Nat},(k<n->p k=false)->∀i,k<=i->i<n->p i=false:=λ{k} hk i ki il=>by
  cases e:p i with
  | false=>rfl
  | true =>
   have:=mo k i ki il e;rw[hk (u3 ki il)] at this;cases this
 have fin:∀{lo hi:Nat},lo<=hi->hi<=n->(∀i,i<lo->p i=true)->(∀i,hi<=i->i<n->p i=false) ->
   ∀{Q':(Option uX×Nat×Nat)->BM->Prop},(∀l,l<=n->(∀i,i<l->p i=true)->(∀i,l<=i->i<n->p i=false)->Q' (uB,l,l) st) ->
   wpS (AN prog w) A E s (forIn [0:n] ((uB,lo,hi):Option uX×Nat×Nat) λ_ r =>
     if r.2.1 >= r.2.2 then pure (BU (uB,r.2.1,r.2.2))
     else do
      let x <- FW left key arr base (r.2.1+(r.2.2-r.2.1) / 2)
      match x with
      | some more =>
       if more=true then pure (C6 (uB,r.2.1+(r.2.2-r.2.1) / 2+1,r.2.2))
       else pure (C6 (uB,r.2.1,r.2.1+(r.2.2-r.2.1) / 2))
      | _=>pure (BU (uA uB,r.2.1,r.2.2))) Q' st:=λ{lo hi} lh rP ht hf {Q'} h'=>by
  refine EH (DV (I:=λx c ah=>ah=st/\∃l r,c=(uB,l,r)/\l<=r/\r<=n/\r-l<=n-x/\(∀i,i<l->p i=true)/\(∀i,r<=i->i<n->p i=false))
   (Q:=λc ah=>ah=st/\∃l,c=(uB,l,l)/\l<=n/\(∀i,i<l->p i=true)/\(∀i,l<=i->i<n->p i=false)) ?_ ?_ ⟨rfl,lo,hi,rfl,lh,rP,by lia,ht,hf⟩) ?_
  .rintro x c ah _ xn ⟨rfl,l,r,rfl,lr,rn,sz,tr,fa⟩
   dsimp only;by_cases c1:l >= r
   .rw[uD c1]
    have:l=r:=wL lr c1;subst this;exact A8 ⟨rfl,l,rfl,rn,tr,fa⟩
   .rw[uC c1]
    refine AQ (ask (yY rn c1) ?_);cases e:p (l+(r-l) / 2) with
    | true =>
     dsimp only;rw[uD rfl];exact A8 ⟨rfl,_,r,rfl,by lia,rn,by lia,λi hi=>mo i _ (vh hi) (yY rn c1) e,fa⟩
    | false =>
     dsimp only;rw[uC (by decide)];exact A8 ⟨rfl,l,_,rfl,uO,by lia,by lia,tr,qq λ_=>e⟩
  .rintro c ah ⟨rfl,l,r,rfl,lr,rn,sz,tr,fa⟩
   have:l=r:=yZ lr sz;subst this;exact⟨rfl,l,rfl,rn,tr,fa⟩
  .rintro c ah ⟨rfl,l,rfl,ln,tr,fa⟩
   exact h' l ln tr fa
 refine AQ (ask hh ?_);cases ph:p hint with
 | true =>
  dsimp only;rw[uD rfl];refine AQ (EH (DV (I:=λx c ah=>ah=st/\∃l o,c=(uB,l,o)/\l<o/\x+1<=o/\hint+l<n/\p (hint+l)=true)
   (Q:=λc ah=>ah=st/\∃l o,c=(uB,l,o)/\l<o/\hint+l<n/\p (hint+l)=true/\(o<n-hint->p (hint+o)=false)) ?_ ?_ ⟨rfl,0,1,rfl,y4,y6,by lia,ph⟩) ?_)
  .rintro x c ah _ xn ⟨rfl,l,o,rfl,lo,xo,ln,pl⟩
   dsimp only;by_cases c1:o >= n-hint
   .rw[uD c1]
    exact A8 ⟨rfl,l,o,rfl,lo,ln,pl,λz=>uH z (vJ c1)⟩
   .rw[uC c1]
    refine AQ (ask (y8 c1) ?_);cases e:p (hint+o) with
    | true =>
     dsimp only;rw[uC (by decide)];exact A8 ⟨rfl,o,_,rfl,y9,za xo,y8 c1,e⟩
    | false =>
     dsimp only;rw[uD (by decide)];exact A8 ⟨rfl,l,o,rfl,lo,ln,pl,λ_=>e⟩
  .rintro c ah ⟨rfl,l,o,rfl,lo,xo,ln,pl⟩
   exact⟨rfl,l,o,rfl,lo,ln,pl,λz=>uH z (by lia)⟩
  .rintro c ah ⟨rfl,l,o,rfl,lo,ln,pl,pf⟩
   dsimp only;refine AQ (fin (lo:=hint+l+1) (hi:=hint+min o (n-hint)) (by lia) (by lia) (λi hi=>mo i (hint+l) (vh hi) ln pl) ?_ λk kn kt kf=>A8 (h k kn kt kf));by_cases c1:o<n-hint
   .rw[show hint+min o (n-hint)=hint+o by lia]
    exact qq λ_=>pf c1
   .rw[show hint+min o (n-hint)=n by lia]
    exact λi a b=>uH a (by lia)
 | false =>
  dsimp only;rw[uC (by decide)];refine AQ (EH (DV (I:=λx c ah=>ah=st/\∃l o,c=(uB,l,o)/\l<o/\x+1<=o/\l<=hint/\p (hint-l)=false)
   (Q:=λc ah=>ah=st/\∃l o,c=(uB,l,o)/\l<o/\l<=hint/\p (hint-l)=false/\(o<hint+1->p (hint-o)=true)) ?_ ?_ ⟨rfl,0,1,rfl,y4,y6,vU,ph⟩) ?_)
  .rintro x c ah _ xn ⟨rfl,l,o,rfl,lo,xo,ln,pl⟩
   dsimp only;by_cases c1:o >= hint+1
   .rw[uD c1]
    exact A8 ⟨rfl,l,o,rfl,lo,ln,pl,λz=>uH z (vJ c1)⟩
   .rw[uC c1]
    refine AQ (ask (wD hh) ?_);cases e:p (hint-o) with
    | true =>
     dsimp only;rw[uD rfl];exact A8 ⟨rfl,l,o,rfl,lo,ln,pl,λ_=>e⟩
    | false =>
     dsimp only;rw[uC (by decide)];exact A8 ⟨rfl,o,_,rfl,y9,za xo,by lia,e⟩
  .rintro c ah ⟨rfl,l,o,rfl,lo,xo,ln,pl⟩
   exact⟨rfl,l,o,rfl,lo,ln,pl,λz=>uH z (by lia)⟩
  .rintro c ah ⟨rfl,l,o,rfl,lo,ln,pl,pt⟩
   dsimp only;refine AQ (fin (lo:=hint+1-min o (hint+1)) (hi:=hint-l) (by lia) (by lia) ?_ (qq λ_=>pl) λk kn kt kf=>A8 (h k kn kt kf));by_cases c1:o<hint+1
   .rw[show hint+1-min o (hint+1)=hint+1-o by lia]
    exact λi hi=>mo i (hint-o) (wK hi) (wD hh) (pt c1)
   .rw[show hint+1-min o (hint+1)=0 by lia]
    exact λi hi=>uH hi u7
variable{rk:AH->Int}{G:AH->Prop}
def Srt(rk:AH->Int)(l:List AH):Prop:=l.Pairwise λx y=>rk x<=rk y
structure MI(rk:AH->Int)(a b out:List AH)(ia ib:Nat):Prop where
 perm:(out++(a.drop ia++b.drop ib)).Perm (a++b)
 srt:Srt rk out
 oa:∀x∈out,∀y∈a.drop ia,rk x<=rk y
 ob:∀x∈out,∀y∈b.drop ib,rk x<=rk y
def VL(l:List α)(i k:Nat):l.drop i=(l.drop i).take k++l.drop (i+k):=by rw[<- Q2];exact(F4 k (l.drop i)).symm
def MI.takeA{a b out:List AH}(m:MI rk a b out ia ib)(sa:Srt rk a)(k:Nat)(h:∀y∈(a.drop ia).take k,∀z∈b.drop ib,rk y<=rk z):MI rk a b (out++(a.drop ia).take k) (ia+k) ib:=by
 have e:=VL a ia k;have sd:Srt rk (a.drop ia):=sa.sublist (IB ..);refine⟨?_,?_,?_,?_⟩
 .refine PU ?_ m.perm
  rw[C5];refine Fc _ ?_;rw[<- C5,<- e]
 .refine C9.mpr ⟨m.srt,sd.sublist (J7 ..),λx hx y hy=>m.oa x hx y (M9 hy)⟩
 .intro x hx y hy
  rcases Co.mp hx with hx| hx
  .exact m.oa x hx y (by rw[e];exact Ct _ hy)
  .unfold Srt at sd
   rw[e] at sd;exact(C9.mp sd).2.2 x hx y hy
 .intro x hx y hy
  rcases Co.mp hx with hx| hx
  .exact m.ob x hx y hy
  .exact h x hx y hy
def MI.takeB{a b out:List AH}(m:MI rk a b out ia ib)(sb:Srt rk b)(k:Nat)(h:∀y∈(b.drop ib).take k,∀z∈a.drop ia,rk y<=rk z):MI rk a b (out++(b.drop ib).take k) ia (ib+k):=by
 have e:=VL b ib k;have sd:Srt rk (b.drop ib):=sb.sublist (IB ..);refine⟨?_,?_,?_,?_⟩
 .refine PU ?_ m.perm
  rw[C5];refine Fc _ ?_;rw[<- C5];refine(Mo _ (Iq)).trans ?_;rw[C5,<- e]
 .refine C9.mpr ⟨m.srt,sd.sublist (J7 ..),λx hx y hy=>m.ob x hx y (M9 hy)⟩
 .intro x hx y hy
  rcases Co.mp hx with hx| hx
  .exact m.oa x hx y hy
  .exact h x hx y hy
 .intro x hx y hy
  rcases Co.mp hx with hx| hx
  .exact m.ob x hx y (by rw[e];exact Ct _ hy)
  .unfold Srt at sd
   rw[e] at sd;exact(C9.mp sd).2.2 x hx y hy
def Mg(rk:AH->Int)(a b r:List AH):Prop:=r.Perm (a++b)/\Srt rk r
def MI.doneB{a b out:List AH}(m:MI rk a b out ia ib)(sa:Srt rk a)(h:b.length<=ib):Mg rk a b (out++a.drop ia++b.drop ib):=by
 rw[FO h,Cc];have p:=m.perm;rw[FO h,Cc] at p;exact⟨p,C9.mpr ⟨m.srt,sa.sublist (IB ..),m.oa⟩⟩
def MI.doneA{a b out:List AH}(m:MI rk a b out ia ib)(sb:Srt rk b)(h:a.length<=ia):Mg rk a b (out++a.drop ia++b.drop ib):=by
 rw[FO h,Cc];have p:=m.perm;rw[FO h,VE] at p;exact⟨p,C9.mpr ⟨m.srt,sb.sublist (IB ..),m.ob⟩⟩
def MI.last{a b out:List AH}(m:MI rk a b out ia ib)(sb:Srt rk b)(h:ia+1=a.length)(hl:∀y∈b,∀z∈a.drop ia,rk y<=rk z):Mg rk a b (out++b.drop ib++a.drop ia):=by
 refine⟨?_,?_⟩
 .refine PU ?_ m.perm
  rw[C5];exact Fc _ Iq
 .have one:Srt rk (a.drop ia):=by
   have l1:(a.drop ia).length=1:=by rw[FU];lia
   obtain⟨x,ex⟩:=My.mp l1;rw[ex];exact Jn ..
  refine C9.mpr ⟨C9.mpr ⟨m.srt,sb.sublist (IB ..),m.ob⟩,one,λx hx y hy=>?_⟩;rcases Co.mp hx with hx| hx
  .exact m.oa x hx y hy
  .exact hl x (RC hx) y hy
variable{rk:AH->Int}{G:AH->Prop}
def ifc{c:Prop}{i j:Decidable c}{x y u v:α}(h1:x=u)(h2:y=v):(@ite α c i x y)=(@ite α c j u v):=by rw[h1,h2];congr
def Ea:Nat->StateT BM Sem Unit:=sortPriv% PySem.Builtin.setMinGallop
def Wi(g:Nat):Ea g=modify λs=>J2 (kindOf s) (AX s) (BQ s) g (G1 s):=rfl
abbrev loDone(a b out:Array AH)(ia ib:Nat):Array AH:=out++a.extract ia a.size++b.extract ib b.size
abbrev loLast(a b out:Array AH)(ia ib:Nat):Array AH:=out++b.extract ib b.size++a.extract ia a.size
abbrev S1:=Option (Array AH)×Array AH×Nat×Nat×Nat×Nat
abbrev S2:=Option (Array AH)×Array AH×Nat×Nat×Nat×Nat×Nat
abbrev S0:=Option (Array AH)×Array AH×Nat×Nat×Nat
noncomputable def loOne(a b:Array AH)(mg:Nat)(r:S1):StateT BM Sem (ForInStep S1):=do
 let y <- D1 b r.2.2.2.1
 let x <- D1 a r.2.2.1
 let c <- lt' y x
 match c with
 | some bWins =>
  if bWins=true then do
   let y <- D1 b r.2.2.2.1
   if(r.2.2.2.1+1==b.size)=true then
    pure (BU (uA (loDone a b (r.2.1.push y) r.2.2.1 (r.2.2.2.1+1)),r.2.1.push y,r.2.2.1,r.2.2.2.1+1,0,r.2.2.2.2.2+1))
   else if r.2.2.2.2.2+1 >= mg then
    pure (BU (uB,r.2.1.push y,r.2.2.1,r.2.2.2.1+1,0,r.2.2.2.2.2+1))
   else pure (C6 (uB,r.2.1.push y,r.2.2.1,r.2.2.2.1+1,0,r.2.2.2.2.2+1))
  else do
   let x <- D1 a r.2.2.1
   if(r.2.2.1+1+1==a.size)=true then
    pure (BU (uA (loLast a b (r.2.1.push x) (r.2.2.1+1) r.2.2.2.1),r.2.1.push x,r.2.2.1+1,r.2.2.2.1,r.2.2.2.2.1+1,0))
   else if r.2.2.2.2.1+1 >= mg then
    pure (BU (uB,r.2.1.push x,r.2.2.1+1,r.2.2.2.1,r.2.2.2.2.1+1,0))
   else pure (C6 (uB,r.2.1.push x,r.2.2.1+1,r.2.2.2.1,r.2.2.2.2.1+1,0))
 | _=>pure (BU (uA (loDone a b r.2.1 r.2.2.1 r.2.2.2.1),r.2.1,r.2.2.1,r.2.2.2.1,r.2.2.2.2.1,r.2.2.2.2.2))
noncomputable def loEnd(a b:Array AH)(mg ac bc:Nat)(out:Array AH)(ia ib:Nat):StateT BM Sem (ForInStep S2):=do
 let x <- D1 a ia
 if(ia+1+1==a.size)=true then pure (BU (uA (loLast a b (out.push x) (ia+1) ib),out.push x,ia+1,ib,mg,ac,bc))
 else if(decide (ac<7)&&decide (bc<7))=true then pure (BU (uB,out.push x,ia+1,ib,mg,ac,bc))
 else pure (C6 (uB,out.push x,ia+1,ib,mg,ac,bc))
noncomputable def loMid(a b:Array AH)(mg k bc:Nat)(out:Array AH)(ia ib:Nat):StateT BM Sem (ForInStep S2):=do
 let y <- D1 b ib
 if(ib+1==b.size)=true then pure (BU (uA (loDone a b (out.push y) ia (ib+1)),out.push y,ia,ib+1,mg,k,bc))
 else do
  let x <- D1 a ia
  let r <- DW true x b (ib+1) (b.size-(ib+1)) 0
  match r with
  | some k' =>
   if k'>0 then
    if(ib+1+k'==b.size)=true then pure (BU (uA (loDone a b (out.push y++b.extract (ib+1) (ib+1+k')) ia (ib+1+k')),out.push y++b.extract (ib+1) (ib+1+k'),ia,ib+1+k',mg,k,k'))
    else loEnd a b mg k k' (out.push y++b.extract (ib+1) (ib+1+k')) ia (ib+1+k')
   else loEnd a b mg k k' (out.push y) ia (ib+1)
  | _=>pure (BU (uA (loDone a b (out.push y) ia (ib+1)),out.push y,ia,ib+1,mg,k,bc))
noncomputable def loGal(a b:Array AH)(mg ac bc:Nat)(out:Array AH)(ia ib:Nat):StateT BM Sem (ForInStep S2):=do
 Ea mg
 let y <- D1 b ib
 let r <- DW false y a ia (a.size-ia) 0
 match r with
 | some k =>
  if k>0 then
   if(ia+k+1==a.size)=true then pure (BU (uA (loLast a b (out++a.extract ia (ia+k)) (ia+k) ib),out++a.extract ia (ia+k),ia+k,ib,mg,k,bc))
   else if(ia+k==a.size)=true then pure (BU (uA (loDone a b (out++a.extract ia (ia+k)) (ia+k) ib),out++a.extract ia (ia+k),ia+k,ib,mg,k,bc))
   else loMid a b mg k bc (out++a.extract ia (ia+k)) (ia+k) ib
  else loMid a b mg k bc out ia ib
 | _=>pure (BU (uA (loDone a b out ia ib),out,ia,ib,mg,ac,bc))
def JB:Array AH->Array AH->StateT BM Sem (Array AH):=sortPriv% PySem.Builtin.mergeLo
def Wz(a b:Array AH):JB a b=(do
 rule "list.sort.merge-lo"
 let total:=a.size+b.size
 let done (out:Array AH) (ia ib:Nat):=out++a.extract ia a.size++b.extract ib b.size
 let lastOfA (out:Array AH) (ia ib:Nat):=out++b.extract ib b.size++a.extract ia a.size
 let mut out:Array AH:=#[<- D1 b 0]
 let mut ia:=0
 let mut ib:=1
 if ib==b.size then return done out ia ib
 if ia+1==a.size then return lastOfA out ia ib
 let mut minGallop:=RE (<- get)
 for _ in [0:total] do
  let mut acount:=0
  let mut bcount:=0
  for _ in [0:total] do
   let uA bWins <- lt' (<- D1 b ib) (<- D1 a ia)| return done out ia ib
   if bWins then
    out:=out.push (<- D1 b ib);ib:=ib+1;bcount:=bcount+1;acount:=0
    if ib==b.size then return done out ia ib
    if bcount >= minGallop then break
   else
    out:=out.push (<- D1 a ia);ia:=ia+1;acount:=acount+1;bcount:=0
    if ia+1==a.size then return lastOfA out ia ib
    if acount >= minGallop then break
  rule "list.sort.gallop"
  minGallop:=minGallop+1
  for _ in [0:total] do
   if minGallop>1 then minGallop:=minGallop-1
   Ea minGallop
   let uA k <- DW false (<- D1 b ib) a ia (a.size-ia) 0| return done out ia ib
   acount:=k
   if k>0 then
    out:=out++a.extract ia (ia+k);ia:=ia+k
    if ia+1==a.size then return lastOfA out ia ib
    if ia==a.size then return done out ia ib
   out:=out.push (<- D1 b ib);ib:=ib+1
   if ib==b.size then return done out ia ib
   let uA k <- DW true (<- D1 a ia) b ib (b.size-ib) 0| return done out ia ib
   bcount:=k
   if k>0 then
    out:=out++b.extract ib (ib+k);ib:=ib+k
    if ib==b.size then return done out ia ib
   out:=out.push (<- D1 a ia);ia:=ia+1
   if ia+1==a.size then return lastOfA out ia ib
   if acount<7&&bcount<7 then break
  minGallop:=minGallop+1
  Ea minGallop
 unsupported "internal:list.sort.merge-bound"):=rfl
set_option pp.proofs true in
theorem Sy(a b:Array AH):JB a b=(do
 liftM (rule "list.sort.merge-lo")
 let y <- D1 b 0
 if(1==b.size)=true then pure (loDone a b #[y] 0 1)
 else if(0+1==a.size)=true then pure (loLast a b #[y] 0 1)
 else do
  let g <- get
  let r <- forIn [0:a.size+b.size] ((uB,#[y],0,1,RE g):S0) λ_ r0=>do
   let r1 <- forIn [0:a.size+b.size] ((uB,r0.2.1,r0.2.2.1,r0.2.2.2.1,0,0):S1) λ_ r=>loOne a b r0.2.2.2.2 r
   match r1.1 with
   | some x=>pure (BU ((uA x,r1.2.1,r1.2.2.1,r1.2.2.2.1,r0.2.2.2.2):S0))
   | none=>do
    liftM (rule "list.sort.gallop")
    let r2 <- forIn [0:a.size+b.size] ((uB,r1.2.1,r1.2.2.1,r1.2.2.2.1,r0.2.2.2.2+1,r1.2.2.2.2.1,r1.2.2.2.2.2):S2) λ_ r =>
     if r.2.2.2.2.1>1 then loGal a b (r.2.2.2.2.1-1) r.2.2.2.2.2.1 r.2.2.2.2.2.2 r.2.1 r.2.2.1 r.2.2.2.1
     else loGal a b r.2.2.2.2.1 r.2.2.2.2.2.1 r.2.2.2.2.2.2 r.2.1 r.2.2.1 r.2.2.2.1
    match r2.1 with
    | some x=>pure (BU ((uA x,r2.2.1,r2.2.2.1,r2.2.2.2.1,r2.2.2.2.2.1):S0))
    | none=>do
     Ea (r2.2.2.2.2.1+1)
     pure (C6 ((uB,r2.2.1,r2.2.2.1,r2.2.2.2.1,r2.2.2.2.2.1+1):S0))
  match r.1 with
  | some x=>pure x
  | none=>unsupported "internal:list.sort.merge-bound"):=by
 rw[Wz];dsimp only
 congr 1
 funext _
 congr 1
 funext y
 refine ifc rfl (ifc rfl ?_)
 congr 1
 funext g
 congr 1
 .congr 1
  funext x r0
  congr 1
  funext r1
  obtain⟨o1,r1⟩:=r1;cases o1 with
  | some x=>rfl
  | none =>
   dsimp only
   congr 1
   funext u
   congr 1
   funext r2
   obtain⟨o2,r2⟩:=r2;cases o2<;>rfl
 .funext r
  obtain⟨o,r⟩:=r;cases o<;>rfl
variable{rk:AH->Int}{G:AH->Prop}
structure Gx(st ah:BM):Prop where
 arr:AX ah=AX st
 kind:kindOf ah=kindOf st
 failed:G1 ah=G1 st
 pend:BQ ah=BQ st
def Gx.refl(st:BM):Gx st st:=⟨rfl,rfl,rfl,rfl⟩
def UG{b:Array AH}(h:ib<b.size):(out.push b[ib]).toList=out.toList++(b.toList.drop ib).take 1:=by
 rw[Kb]
 congr 1
 have hl:ib<b.toList.length:=by simpa using h
 rw[K9 hl,NC,Q3];simp
def Xl{a:Array AH}(i k:Nat):(out++a.extract i (i+k)).toList=out.toList++(a.toList.drop i).take k:=by
 rw[DF,G5]
 congr 1
 simp[S3]
def JX(a:Array AH)(i:Nat):(a.extract i a.size).toList=a.toList.drop i:=by
 rw[G5];simp[S3];rw[Mn (by simp)]
def TY(a b out:Array AH)(ia ib:Nat):(loDone a b out ia ib).toList=out.toList++a.toList.drop ia++b.toList.drop ib:=by
 unfold loDone;rw[DF,DF,JX,JX]
def ADP(a b out:Array AH)(ia ib:Nat):(loLast a b out ia ib).toList=out.toList++b.toList.drop ib++a.toList.drop ia:=by
 unfold loLast;rw[DF,DF,JX,JX]
def Ef{a:Array AH}{z:AH}(h:z∈a.toList.drop i):∃j,i<=j/\∃hj:j<a.size,z=a[j]:=by
 obtain⟨k,hk,e⟩:=C4.mp h;rw[FU] at hk;refine⟨i+k,by lia,by
               have:a.toList.length=a.size:=by simp
               lia,?_⟩
 rw[<- e,OH];simp
def Ci{a:Array AH}{k:Nat}{z:AH}(h:z∈(a.toList.drop i).take k):∃j,i<=j/\j<i+k/\∃hj:j<a.size,z=a[j]:=by
 obtain⟨n,hk,e⟩:=C4.mp h;rw[B4,FU] at hk;have:a.toList.length=a.size:=by simp
 refine⟨i+n,uO,by lia,by lia,?_⟩;rw[<- e,J8,OH];simp
def Fv{a:Array AH}(sa:Srt rk a.toList)(ij:i<=j)(hj:j<a.size):rk (a[i]'(u3 ij hj))<=rk a[j]:=by
 by_cases e:i=j
 .subst e;exact HP _
 .have:=CL.mp sa i j (by simp;exact u3 ij hj) (by simpa using hj) (vK ij e)
  simpa using this
def Qk{a:Array AH}(sa:Srt rk a.toList)(h:hi<=a.size):Up rk a lo hi:=λi j li ij jh=>by
 rw[Gj (show i<a.size by lia),Gj (show j<a.size from ux jh h)];exact Fv sa ij (ux jh h)
section
variable{a b:Array AH}
def At(rk:AH->Int)(a b out:Array AH)(ia ib:Nat):Prop:=MI rk a.toList b.toList out.toList ia ib/\ia+1<a.size/\ib<b.size
structure Lo(G:AH->Prop)(rk:AH->Int)(a b:Array AH):Prop where
 ga:Al G a
 gb:Al G b
 sa:Srt rk a.toList
 sb:Srt rk b.toList
 hl:∀y∈b.toList,∀z∈a.toList.drop (a.size-1),rk y<=rk z
def Lo.done(L:Lo G rk a b)(m:MI rk a.toList b.toList out.toList ia ib)(h:b.size<=ib):Mg rk a.toList b.toList (loDone a b out ia ib).toList:=by
 rw[TY];exact m.doneB L.sa (by simpa using h)
def Lo.doneA(L:Lo G rk a b)(m:MI rk a.toList b.toList out.toList ia ib)(h:a.size<=ia):Mg rk a.toList b.toList (loDone a b out ia ib).toList:=by
 rw[TY];exact m.doneA L.sb (by simpa using h)
def Lo.last(L:Lo G rk a b)(m:MI rk a.toList b.toList out.toList ia ib)(h:ia+1=a.size):Mg rk a.toList b.toList (loLast a b out ia ib).toList:=by
 rw[ADP];refine m.last L.sb (by simpa using h) λy hy z hz=>L.hl y hy z ?_;rw[show a.size-1=ia by lia];exact hz
def Lo.stepB(L:Lo G rk a b)(m:MI rk a.toList b.toList out.toList ia ib)(hb:ib<b.size)(h:∀j,ia<=j->∀hj:j<a.size,rk b[ib]<=rk a[j]):MI rk a.toList b.toList (out.push b[ib]).toList ia (ib+1):=by
 rw[UG hb];refine m.takeB L.sb 1 λy hy z hz=>?_;obtain⟨j,j1,j2,hj,rfl⟩:=Ci hy;have:j=ib:=xZ j2 j1;subst this;obtain⟨i,i1,hi,rfl⟩:=Ef hz;exact h i i1 hi
def Lo.stepA(L:Lo G rk a b)(m:MI rk a.toList b.toList out.toList ia ib)(ha:ia<a.size)(h:∀j,ib<=j->∀hj:j<b.size,rk a[ia]<=rk b[j]):MI rk a.toList b.toList (out.push a[ia]).toList (ia+1) ib:=by
 rw[UG ha];refine m.takeA L.sa 1 λy hy z hz=>?_;obtain⟨j,j1,j2,hj,rfl⟩:=Ci hy;have:j=ia:=xZ j2 j1;subst this;obtain⟨i,i1,hi,rfl⟩:=Ef hz;exact h i i1 hi
def Lo.manyA(L:Lo G rk a b){k:Nat}(m:MI rk a.toList b.toList out.toList ia ib)(h:∀i,ia<=i->i<ia+k->∀hi:i<a.size,∀j,ib<=j->∀hj:j<b.size,rk a[i]<=rk b[j]):MI rk a.toList b.toList (out++a.extract ia (ia+k)).toList (ia+k) ib:=by
 rw[Xl];refine m.takeA L.sa k λy hy z hz=>?_;obtain⟨i,i1,i2,hi,rfl⟩:=Ci hy;obtain⟨j,j1,hj,rfl⟩:=Ef hz;exact h i i1 i2 hi j j1 hj
def Lo.manyB(L:Lo G rk a b){k:Nat}(m:MI rk a.toList b.toList out.toList ia ib)(h:∀i,ib<=i->i<ib+k->∀hi:i<b.size,∀j,ia<=j->∀hj:j<a.size,rk b[i]<=rk a[j]):MI rk a.toList b.toList (out++b.extract ib (ib+k)).toList ia (ib+k):=by
 rw[Xl];refine m.takeB L.sb k λy hy z hz=>?_;obtain⟨i,i1,i2,hi,rfl⟩:=Ci hy;obtain⟨j,j1,hj,rfl⟩:=Ef hz;exact h i i1 i2 hi j j1 hj
def QS(g:Gx st ah)(m:Nat):Gx st (J2 (kindOf ah) (AX ah) (BQ ah) m (G1 ah)):=⟨g.arr,g.kind,g.failed,g.pend⟩
def setMin{g:Nat}{Q:Unit->BM->Prop}(h:Q () (J2 (kindOf st) (AX st) (BQ st) g (G1 st))):wpS (AN prog w) A E s (Ea g) Q st:=by
 rw[Wi];exact IG h
def E1(rk:AH->Int)(a b:Array AH)(st:BM)(m:Nat)(r:S1)(ah:BM):Prop:=Gx st ah/\((∃x y,r=(uA x,y)/\Mg rk a.toList b.toList x.toList)\/∃out ia ib ac bc,r=(uB,out,ia,ib,ac,bc)/\At rk a b out ia ib/\m<=ia+ib)
def E2(rk:AH->Int)(a b:Array AH)(st:BM)(m:Nat)(r:S2)(ah:BM):Prop:=Gx st ah/\((∃x y,r=(uA x,y)/\Mg rk a.toList b.toList x.toList)\/∃out ia ib mg ac bc,r=(uB,out,ia,ib,mg,ac,bc)/\At rk a b out ia ib/\m<=ia+ib)
def Y1(rk:AH->Int)(a b:Array AH)(st:BM)(m:Nat)(r:S1)(ah:BM):Prop:=Gx st ah/\∃out ia ib ac bc,r=(uB,out,ia,ib,ac,bc)/\At rk a b out ia ib/\m<=ia+ib
def Y2(rk:AH->Int)(a b:Array AH)(st:BM)(m:Nat)(r:S2)(ah:BM):Prop:=Gx st ah/\∃out ia ib mg ac bc,r=(uB,out,ia,ib,mg,ac,bc)/\At rk a b out ia ib/\m<=ia+ib
def Zi(C:Cmp prog w A E s κ G rk)(L:Lo G rk a b){mg:Nat}(kd:kindOf bo=κ)(g:Gx bo st)(at_:At rk a b out ia ib)(hm:m<=ia+ib) :
  wpS (AN prog w) A E s (loOne a b mg (uB,out,ia,ib,ac,bc)) (λr ah=>match r with| .done c'=>E1 rk a b bo (m+1) c' ah| .yield c'=>Y1 rk a b bo (m+1) c' ah) st:=by
 obtain⟨mi,la,lb⟩:=at_;have g5:ia<a.size:=uR la;unfold loOne;dsimp only;refine AQ (Bj lb (AQ (Bj g5 (AQ (C _ _ (L.gb.at lb) (L.ga.at g5) st _ (g.kind.trans kd) ?_)))));by_cases c:rk b[ib]<rk a[ia]
 .rw[uE c]
  dsimp only;rw[uD rfl];refine AQ (Bj lb ?_);have bX:=L.stepB mi lb λj j1 hj=>ET (FK c) (Fv L.sa j1 hj);by_cases c1:ib+1=b.size
  .rw[uD (by rw[c1];exact beq_self_eq_true _)]
   exact A8 ⟨g,.inl ⟨_,_,rfl,L.done bX (vb c1)⟩⟩
  .rw[uC (by intro z;exact c1 (beq_iff_eq.mp z))]
   by_cases c2:bc+1 >= mg
   .rw[uD c2]
    exact A8 ⟨g,.inr ⟨_,_,_,_,_,rfl,⟨bX,la,vp lb c1⟩,yA hm⟩⟩
   .rw[uC c2]
    exact A8 ⟨g,_,_,_,_,_,rfl,⟨bX,la,vp lb c1⟩,yA hm⟩
 .rw[uF c]
  dsimp only;rw[uC (by decide)];refine AQ (Bj g5 ?_);have bX:=L.stepA mi g5 λj j1 hj=>ET (J1.mp c) (Fv L.sb j1 hj);by_cases c1:ia+1+1=a.size
  .rw[uD (by rw[c1];exact beq_self_eq_true _)]
   exact A8 ⟨g,.inl ⟨_,_,rfl,L.last bX c1⟩⟩
  .rw[uC (by intro z;exact c1 (beq_iff_eq.mp z))]
   by_cases c2:ac+1 >= mg
   .rw[uD c2]
    exact A8 ⟨g,.inr ⟨_,_,_,_,_,rfl,⟨bX,vp la c1,lb⟩,yB hm⟩⟩
   .rw[uC c2]
    exact A8 ⟨g,_,_,_,_,_,rfl,⟨bX,vp la c1,lb⟩,yB hm⟩
def PK(L:Lo G rk a b){mg:Nat}(g:Gx bo st)(mi:MI rk a.toList b.toList out.toList ia ib)(la:ia+1<a.size)(lb:ib<b.size)(h:∀j,ib<=j->∀hj:j<b.size,rk (a[ia]'(uR la))<=rk b[j])(hm:m<=ia+ib) :
  wpS (AN prog w) A E s (loEnd a b mg ac bc out ia ib) (λr ah=>match r with| .done c'=>E2 rk a b bo m c' ah| .yield c'=>Y2 rk a b bo m c' ah) st:=by
 have g5:ia<a.size:=uR la;unfold loEnd;refine AQ (Bj g5 ?_);have bX:=L.stepA mi g5 h;by_cases c1:ia+1+1=a.size
 .rw[uD (by rw[c1];exact beq_self_eq_true _)]
  exact A8 ⟨g,.inl ⟨_,_,rfl,L.last bX c1⟩⟩
 .rw[uC (by intro z;exact c1 (beq_iff_eq.mp z))]
  by_cases c2:(decide (ac<7)&&decide (bc<7))=true
  .rw[uD c2]
   exact A8 ⟨g,.inr ⟨_,_,_,_,_,_,rfl,⟨bX,vp la c1,lb⟩,wW hm⟩⟩
  .rw[uC c2]
   exact A8 ⟨g,_,_,_,_,_,_,rfl,⟨bX,vp la c1,lb⟩,wW hm⟩
def Eu{key:AH}{base:Nat}(h:base+i<arr.size):bey rk false key arr base i=!decide (rk key<rk arr[base+i]):=by
 unfold bey;rw[uC (by decide),Gj h]
def Fy{key:AH}{base:Nat}(h:base+i<arr.size):bey rk true key arr base i=decide (rk arr[base+i]<rk key):=by
 unfold bey;rw[uD rfl,Gj h]
def Pr(C:Cmp prog w A E s κ G rk)(L:Lo G rk a b){mg k:Nat}(kd:kindOf bo=κ)(g:Gx bo st)(mi:MI rk a.toList b.toList out.toList ia ib)(la:ia+1<a.size)(lb:ib<b.size)(h:∀j,ia<=j->∀hj:j<a.size,rk b[ib]<=rk a[j])(hm:m<=ia+ib) :
  wpS (AN prog w) A E s (loMid a b mg k bc out ia ib) (λr ah=>match r with| .done c'=>E2 rk a b bo m c' ah| .yield c'=>Y2 rk a b bo m c' ah) st:=by
 have g5:ia<a.size:=uR la;unfold loMid;refine AQ (Bj lb ?_);have bX:=L.stepB mi lb h;by_cases c1:ib+1=b.size
 .rw[uD (by rw[c1];exact beq_self_eq_true _)]
  exact A8 ⟨g,.inl ⟨_,_,rfl,L.done bX (vb c1)⟩⟩
 .rw[uC (by intro z;exact c1 (beq_iff_eq.mp z))]
  refine AQ (Bj g5 ?_);refine AQ (Dt C (L.ga.at g5) L.gb (g.kind.trans kd) (yC lb) (by lia) (Fw (Qk L.sb (yC lb))) λk' kn kt kf=>?_);dsimp only;have t1:∀i,ib+1<=i->i<ib+1+k'->∀hi:i<b.size,rk b[i]<rk a[ia]:=λi i1 i2 hi=>by
   have z:=kt (i-(ib+1)) (wa i2 i1);rw[Fy (yD i1 hi)] at z;have e:ib+1+(i-(ib+1))=i:=vi i1;simp only[e] at z;exact uG z
  have t2:∀j,ib+1+k'<=j->∀hj:j<b.size,rk a[ia]<=rk b[j]:=λi i1 hi=>by
   have z:=kf (i-(ib+1)) (wb i1) (yE hi i1);rw[Fy (yF i1 hi)] at z;have e:ib+1+(i-(ib+1))=i:=wc i1;simp only[e] at z;exact J1.mp (of_decide_eq_false z)
  by_cases c2:k'>0
  .rw[uD c2]
   have gL:=L.manyB (k:=k') bX λi i1 i2 hi j j1 hj=>ET (FK (t1 i i1 i2 hi)) (Fv L.sa j1 hj);by_cases c3:ib+1+k'=b.size
   .rw[uD (by rw[c3];exact beq_self_eq_true _)]
    exact A8 ⟨g,.inl ⟨_,_,rfl,L.done gL (vb c3)⟩⟩
   .rw[uC (by intro z;exact c3 (beq_iff_eq.mp z))]
    exact PK L g gL la (by lia) t2 (by lia)
  .rw[uC c2]
   have:k'=0:=yG c2;subst this;exact PK L g bX la (vp lb c1) t2 (by lia)
def Ou(C:Cmp prog w A E s κ G rk)(L:Lo G rk a b){mg:Nat}(kd:kindOf bo=κ)(g:Gx bo st)(at_:At rk a b out ia ib)(hm:m<=ia+ib) :
  wpS (AN prog w) A E s (loGal a b mg ac bc out ia ib) (λr ah=>match r with| .done c'=>E2 rk a b bo m c' ah| .yield c'=>Y2 rk a b bo m c' ah) st:=by
 obtain⟨mi,la,lb⟩:=at_;have g5:ia<a.size:=uR la;unfold loGal;refine AQ (setMin ?_);have g':=QS g mg;generalize J2 (kindOf st) (AX st) (BQ st) mg (G1 st)=st1 at g';refine AQ (Bj lb ?_);refine AQ (Dt C (L.gb.at lb) L.ga (g'.kind.trans kd) (yH la) (by lia) (Fw (Qk L.sa (yH la))) λk kn kt kf=>?_);dsimp only;have t1:∀i,ia<=i->i<ia+k->∀hi:i<a.size,rk a[i]<=rk b[ib]:=λi i1 i2 hi=>by
  have z:=kt (i-ia) (wa i2 i1);rw[Eu (yD i1 hi)] at z;have e:ia+(i-ia)=i:=vi i1;simp only[e] at z;refine J1.mp λy=>?_;rw[uE y] at z;cases z
 have t2:∀j,ia+k<=j->∀hj:j<a.size,rk b[ib]<=rk a[j]:=λi i1 hi=>by
  have z:=kf (i-ia) (wb i1) (yE hi i1);rw[Eu (yF i1 hi)] at z;have e:ia+(i-ia)=i:=wc i1;simp only[e] at z;have z':decide (rk b[ib]<rk a[i])=true:=by
   cases q:decide (rk b[ib]<rk a[i]) with
   | true=>rfl
   | false=>rw[q] at z;cases z
  exact FK (uG z')
 by_cases c2:k>0
 .rw[uD c2]
  have gL:=L.manyA (k:=k) mi λi i1 i2 hi j j1 hj=>ET (t1 i i1 i2 hi) (Fv L.sb j1 hj);by_cases c3:ia+k+1=a.size
  .rw[uD (by rw[c3];exact beq_self_eq_true _)]
   exact A8 ⟨g',.inl ⟨_,_,rfl,L.last gL c3⟩⟩
  .rw[uC (by intro z;exact c3 (beq_iff_eq.mp z))]
   by_cases c4:ia+k=a.size
   .rw[uD (by rw[c4];exact beq_self_eq_true _)]
    exact A8 ⟨g',.inl ⟨_,_,rfl,L.doneA gL (vb c4)⟩⟩
   .rw[uC (by intro z;exact c4 (beq_iff_eq.mp z))]
    exact Pr C L kd g' gL (by lia) lb t2 (wW hm)
 .rw[uC c2]
  have:k=0:=yG c2;subst this;exact Pr C L kd g' mi la lb t2 hm
def SQ(C:Cmp prog w A E s κ G rk)(L:Lo G rk a b)(kd:kindOf st=κ)(a1:1<=a.size)(b1:1<=b.size)(hf:∀j,∀hj:j<a.size,rk b[0]<=rk a[j]){Q:Array AH->BM->Prop}(h:∀r ah,Gx st ah->Mg rk a.toList b.toList r.toList->Q r ah):wpS (AN prog w) A E s (JB a b) Q st:=by
 rw[Sy];refine AQ (NL (IE ⟨rfl,?_⟩));refine AQ (Bj b1 ?_);have mi0:MI rk a.toList b.toList (#[]:Array AH).toList 0 0:=⟨LO _,LY,λx hx=>(by cases hx),λx hx=>(by cases hx)⟩;have mi:=L.stepB mi0 b1 λj _ hj=>hf j hj;by_cases c1:1=b.size
 .rw[uD (by rw[<- c1];rfl)]
  exact A8 (h _ _ (Gx.refl _) (L.done mi (vb c1)))
 rw[uC (by intro z;exact c1 (beq_iff_eq.mp z))];by_cases c2:0+1=a.size
 .rw[uD (by rw[<- c2];rfl)]
  exact A8 (h _ _ (Gx.refl _) (L.last mi c2))
 rw[uC (by intro z;exact c2 (beq_iff_eq.mp z))];refine AQ (KA ?_);refine AQ (EH (DV (I:=λx c ah=>Gx st ah/\∃out ia ib mg,c=(uB,out,ia,ib,mg)/\At rk a b out ia ib/\x+1<=ia+ib)
  (Q:=λc ah=>Gx st ah/\∃x y,c=(uA x,y)/\Mg rk a.toList b.toList x.toList) ?_ ?_ ⟨Gx.refl _,_,_,_,_,rfl,⟨mi,by lia,vK b1 c1⟩,vn⟩) ?_)
 .rintro x c ah _ xn ⟨g,out,ia,ib,mg,rfl,at_,xm⟩
  refine AQ (EH (DV (I:=λy c ah=>Y1 rk a b st (x+1+y) c ah) (Q:=E1 rk a b st (x+2)) ?_ ?_ ⟨g,_,_,_,_,_,rfl,at_,yI xm⟩) ?_)
  .rintro y c be _ yn ⟨g2,out2,ia2,ib2,ac,bc,rfl,at2,hm⟩
   refine EH (Zi C L kd g2 at2 hm) λr dk hr=>?_;cases r with
   | done c' =>
    obtain⟨g3,q⟩:=hr;refine⟨g3,q.imp id λ⟨o,i,j,k,l,e,a',b'⟩=>⟨o,i,j,k,l,e,a',by lia⟩⟩
   | yield c'=>exact hr
  .rintro c be ⟨g2,out2,ia2,ib2,ac,bc,rfl,at2,hm⟩
   exact⟨g2,.inr ⟨_,_,_,_,_,rfl,at2,by lia⟩⟩
  .rintro c be ⟨g2,⟨r,y,rfl,m⟩| ⟨out2,ia2,ib2,ac,bc,rfl,at2,hm⟩⟩
   .exact A8 ⟨g2,_,_,rfl,m⟩
   .refine AQ (NL (IE ⟨rfl,?_⟩))
    refine AQ (EH (DV (I:=λy c ah=>Y2 rk a b st (x+2) c ah) (Q:=E2 rk a b st (x+2)) ?_ ?_ ⟨g2,_,_,_,_,_,_,rfl,at2,hm⟩) ?_)
    .rintro y c dk _ yn ⟨g3,out3,ia3,ib3,mg3,ac3,bc3,rfl,at3,g9⟩
     split
     .exact EH (Ou C L kd g3 at3 g9) λr st4 hr=>by cases r<;>exact hr
     .exact EH (Ou C L kd g3 at3 g9) λr st4 hr=>by cases r<;>exact hr
    .rintro c dk ⟨g3,out3,ia3,ib3,mg3,ac3,bc3,rfl,at3,g9⟩
     exact⟨g3,.inr ⟨_,_,_,_,_,_,rfl,at3,g9⟩⟩
    .rintro c dk ⟨g3,⟨r,y,rfl,m⟩| ⟨out3,ia3,ib3,mg3,ac3,bc3,rfl,at3,g9⟩⟩
     .exact A8 ⟨g3,_,_,rfl,m⟩
     .refine AQ (setMin (A8 ⟨QS g3 _,_,_,_,_,rfl,at3,by lia⟩))
 .rintro c ah ⟨g,out,ia,ib,mg,rfl,⟨_,la,lb⟩,xm⟩
  lia
 .rintro c ah ⟨g,x,y,rfl,m⟩
  exact A8 (h _ _ g m)
end
variable{rk:AH->Int}{G:AH->Prop}
abbrev hiDone(a b out:Array AH)(na nb:Nat):Array AH:=a.extract 0 na++b.extract 0 nb++out.reverse
abbrev Ht(a b out:Array AH)(na nb:Nat):Array AH:=b.extract 0 nb++a.extract 0 na++out.reverse
abbrev T1:=Option (Array AH)×Nat×Nat×Array AH×Nat×Nat
abbrev T2:=Option (Array AH)×Nat×Nat×Array AH×Nat×Nat×Nat
abbrev T0:=Option (Array AH)×Nat×Nat×Array AH×Nat
noncomputable def hiOne(a b:Array AH)(mg:Nat)(r:T1):StateT BM Sem (ForInStep T1):=do
 let y <- D1 b (r.2.2.1-1)
 let x <- D1 a (r.2.1-1)
 let c <- lt' y x
 match c with
 | some aWins =>
  if aWins=true then do
   let x <- D1 a (r.2.1-1)
   if(r.2.1-1==0)=true then
    pure (BU (uA (hiDone a b (r.2.2.2.1.push x) (r.2.1-1) r.2.2.1),r.2.1-1,r.2.2.1,r.2.2.2.1.push x,r.2.2.2.2.1+1,0))
   else if r.2.2.2.2.1+1 >= mg then
    pure (BU (uB,r.2.1-1,r.2.2.1,r.2.2.2.1.push x,r.2.2.2.2.1+1,0))
   else pure (C6 (uB,r.2.1-1,r.2.2.1,r.2.2.2.1.push x,r.2.2.2.2.1+1,0))
  else do
   let y <- D1 b (r.2.2.1-1)
   if(r.2.2.1-1==1)=true then
    pure (BU (uA (Ht a b (r.2.2.2.1.push y) r.2.1 (r.2.2.1-1)),r.2.1,r.2.2.1-1,r.2.2.2.1.push y,0,r.2.2.2.2.2+1))
   else if r.2.2.2.2.2+1 >= mg then
    pure (BU (uB,r.2.1,r.2.2.1-1,r.2.2.2.1.push y,0,r.2.2.2.2.2+1))
   else pure (C6 (uB,r.2.1,r.2.2.1-1,r.2.2.2.1.push y,0,r.2.2.2.2.2+1))
 | _=>pure (BU (uA (hiDone a b r.2.2.2.1 r.2.1 r.2.2.1),r.2.1,r.2.2.1,r.2.2.2.1,r.2.2.2.2.1,r.2.2.2.2.2))
noncomputable def hiEnd(a b:Array AH)(mg ac bc:Nat)(out:Array AH)(na nb:Nat):StateT BM Sem (ForInStep T2):=do
 let x <- D1 a (na-1)
 if(na-1==0)=true then pure (BU (uA (hiDone a b (out.push x) (na-1) nb),na-1,nb,out.push x,mg,ac,bc))
 else if(decide (ac<7)&&decide (bc<7))=true then pure (BU (uB,na-1,nb,out.push x,mg,ac,bc))
 else pure (C6 (uB,na-1,nb,out.push x,mg,ac,bc))
noncomputable def hiMid(a b:Array AH)(mg k bc:Nat)(out:Array AH)(na nb:Nat):StateT BM Sem (ForInStep T2):=do
 let y <- D1 b (nb-1)
 if(nb-1==1)=true then pure (BU (uA (Ht a b (out.push y) na (nb-1)),na,nb-1,out.push y,mg,k,bc))
 else do
  let x <- D1 a (na-1)
  let r <- DW true x b 0 (nb-1) (nb-1-1)
  match r with
  | some t =>
   if nb-1-t>0 then
    if(t==1)=true then pure (BU (uA (Ht a b (out.push y++(b.extract t (nb-1)).reverse) na t),na,t,out.push y++(b.extract t (nb-1)).reverse,mg,k,nb-1-t))
    else if(t==0)=true then pure (BU (uA (hiDone a b (out.push y++(b.extract t (nb-1)).reverse) na t),na,t,out.push y++(b.extract t (nb-1)).reverse,mg,k,nb-1-t))
    else hiEnd a b mg k (nb-1-t) (out.push y++(b.extract t (nb-1)).reverse) na t
   else hiEnd a b mg k (nb-1-t) (out.push y) na (nb-1)
  | _=>pure (BU (uA (hiDone a b (out.push y) na (nb-1)),na,nb-1,out.push y,mg,k,bc))
noncomputable def hiGal(a b:Array AH)(mg ac bc:Nat)(out:Array AH)(na nb:Nat):StateT BM Sem (ForInStep T2):=do
 Ea mg
 let y <- D1 b (nb-1)
 let r <- DW false y a 0 na (na-1)
 match r with
 | some t =>
  if na-t>0 then
   if(t==0)=true then pure (BU (uA (hiDone a b (out++(a.extract t na).reverse) t nb),t,nb,out++(a.extract t na).reverse,mg,na-t,bc))
   else hiMid a b mg (na-t) bc (out++(a.extract t na).reverse) t nb
  else hiMid a b mg (na-t) bc out na nb
 | _=>pure (BU (uA (hiDone a b out na nb),na,nb,out,mg,ac,bc))
def Jd:Array AH->Array AH->StateT BM Sem (Array AH):=sortPriv% PySem.Builtin.mergeHi
def WW(a b:Array AH):Jd a b=(do
 rule "list.sort.merge-hi"
 let total:=a.size+b.size
 let done (out:Array AH) (na nb:Nat):=a.extract 0 na++b.extract 0 nb++out.reverse
 let firstOfB (out:Array AH) (na nb:Nat):=b.extract 0 nb++a.extract 0 na++out.reverse
 let mut na:=a.size-1
 let mut nb:=b.size
 let mut out:Array AH:=#[<- D1 a na]
 if na==0 then return done out na nb
 if nb==1 then return firstOfB out na nb
 let mut minGallop:=RE (<- get)
 for _ in [0:total] do
  let mut acount:=0
  let mut bcount:=0
  for _ in [0:total] do
   let uA aWins <- lt' (<- D1 b (nb-1)) (<- D1 a (na-1))| return done out na nb
   if aWins then
    na:=na-1;out:=out.push (<- D1 a na);acount:=acount+1;bcount:=0
    if na==0 then return done out na nb
    if acount >= minGallop then break
   else
    nb:=nb-1;out:=out.push (<- D1 b nb);bcount:=bcount+1;acount:=0
    if nb==1 then return firstOfB out na nb
    if bcount >= minGallop then break
  rule "list.sort.gallop"
  minGallop:=minGallop+1
  for _ in [0:total] do
   if minGallop>1 then minGallop:=minGallop-1
   Ea minGallop
   let uA at_ <- DW false (<- D1 b (nb-1)) a 0 na (na-1)| return done out na nb
   let k:=na-at_
   acount:=k
   if k>0 then
    out:=out++(a.extract at_ na).reverse;na:=at_
    if na==0 then return done out na nb
   nb:=nb-1;out:=out.push (<- D1 b nb)
   if nb==1 then return firstOfB out na nb
   let uA at_ <- DW true (<- D1 a (na-1)) b 0 nb (nb-1)| return done out na nb
   let k:=nb-at_
   bcount:=k
   if k>0 then
    out:=out++(b.extract at_ nb).reverse;nb:=at_
    if nb==1 then return firstOfB out na nb
    if nb==0 then return done out na nb
   na:=na-1;out:=out.push (<- D1 a na)
   if na==0 then return done out na nb
   if acount<7&&bcount<7 then break
  minGallop:=minGallop+1
  Ea minGallop
 unsupported "internal:list.sort.merge-bound"):=rfl
theorem Rz(a b:Array AH):Jd a b=(do
 liftM (rule "list.sort.merge-hi")
 let x <- D1 a (a.size-1)
 if(a.size-1==0)=true then pure (hiDone a b #[x] (a.size-1) b.size)
 else if(b.size==1)=true then pure (Ht a b #[x] (a.size-1) b.size)
 else do
  let g <- get
  let r <- forIn [0:a.size+b.size] ((uB,a.size-1,b.size,#[x],RE g):T0) λ_ r0=>do
   let r1 <- forIn [0:a.size+b.size] ((uB,r0.2.1,r0.2.2.1,r0.2.2.2.1,0,0):T1) λ_ r=>hiOne a b r0.2.2.2.2 r
   match r1.1 with
   | some x=>pure (BU ((uA x,r1.2.1,r1.2.2.1,r1.2.2.2.1,r0.2.2.2.2):T0))
   | none=>do
    liftM (rule "list.sort.gallop")
    let r2 <- forIn [0:a.size+b.size] ((uB,r1.2.1,r1.2.2.1,r1.2.2.2.1,r0.2.2.2.2+1,r1.2.2.2.2.1,r1.2.2.2.2.2):T2) λ_ r =>
     if r.2.2.2.2.1>1 then hiGal a b (r.2.2.2.2.1-1) r.2.2.2.2.2.1 r.2.2.2.2.2.2 r.2.2.2.1 r.2.1 r.2.2.1
     else hiGal a b r.2.2.2.2.1 r.2.2.2.2.2.1 r.2.2.2.2.2.2 r.2.2.2.1 r.2.1 r.2.2.1
    match r2.1 with
    | some x=>pure (BU ((uA x,r2.2.1,r2.2.2.1,r2.2.2.2.1,r2.2.2.2.2.1):T0))
    | none=>do
     Ea (r2.2.2.2.2.1+1)
     pure (C6 ((uB,r2.2.1,r2.2.2.1,r2.2.2.2.1,r2.2.2.2.2.1+1):T0))
  match r.1 with
  | some x=>pure x
  | none=>unsupported "internal:list.sort.merge-bound"):=by
 rw[WW];dsimp only
 congr 1
 funext _
 congr 1
 funext y
 refine ifc rfl (ifc rfl ?_)
 congr 1
 funext g
 congr 1
 .congr 1
  funext x r0
  congr 1
  funext r1
  obtain⟨o1,r1⟩:=r1;cases o1 with
  | some x=>rfl
  | none =>
   dsimp only
   congr 1
   funext u
   congr 1
   funext r2
   obtain⟨o2,r2⟩:=r2;cases o2<;>rfl
 .funext r
  obtain⟨o,r⟩:=r;cases o<;>rfl
variable{rk:AH->Int}{G:AH->Prop}
abbrev nk(rk:AH->Int):AH->Int:=λx=>- rk x
def Ww{a b l q:List AH}(m:Mg (nk rk) b.reverse a.reverse l)(e:q=l.reverse):Mg rk a b q:=by
 obtain⟨p,sr⟩:=m;subst e;refine⟨(OI l).trans (p.trans ?_),?_⟩
 .exact(((OI b).append (OI a))).trans Iq
 .exact MM.mpr (sr.imp λ{x y} h=>by
   have:- rk x<=- rk y:=h;lia)
def Ei{a:Array AH}(h:n<=a.size):a.toList.reverse.drop (a.size-n)=(a.toList.take n).reverse:=by
 rw[List.drop_reverse]
 congr 2
 simp;exact xF h
section
variable{a b:Array AH}
def HAt(rk:AH->Int)(a b out:Array AH)(na nb:Nat):Prop:=MI (nk rk) b.toList.reverse a.toList.reverse out.toList (b.size-nb) (a.size-na)/\na<=a.size/\nb<=b.size
structure Hi(G:AH->Prop)(rk:AH->Int)(a b:Array AH):Prop where
 ga:Al G a
 gb:Al G b
 sa:Srt rk a.toList
 sb:Srt rk b.toList
 hf:∀j,∀hj:j<a.size,∀h0:0<b.size,rk b[0]<=rk a[j]
def Ge{l:List AH}(h:Srt rk l):Srt (nk rk) l.reverse:=MM.mpr (h.imp λ{x y} h=>by show-rk y<=- rk x;exact wU h)
def Gb{a:Array AH}{z:AH}(hn:n<=a.size)(h:z∈a.toList.reverse.drop (a.size-n)):∃j,j<n/\∃hj:j<a.size,z=a[j]:=by
 rw[Ei hn] at h;have h':=HM.mp h;obtain⟨k,hk,e⟩:=C4.mp h';rw[B4] at hk;have:a.toList.length=a.size:=by simp
 refine⟨k,vW hk,by lia,?_⟩;rw[<- e,J8];simp
def rtake{a:Array AH}{t:Nat}(hn:n<=a.size)(ht:t<=n):(a.toList.reverse.drop (a.size-n)).take (n-t)=((a.toList.drop t).take (n-t)).reverse:=by
 rw[Ei hn,List.take_reverse]
 congr 1
 have:a.toList.length=a.size:=by simp
 rw[B4,show min n a.toList.length-(n-t)=t by lia,List.drop_take]
def Uc{a:Array AH}{t:Nat}(hn:n<=a.size)(ht:t<=n):(out++(a.extract t n).reverse).toList=out.toList++(a.toList.reverse.drop (a.size-n)).take (n-t):=by
 rw[rtake hn ht,DF,KU,G5]
def Pj{a:Array AH}(h1:1<=n)(hn:n<=a.size):(out.push (a[n-1]'(u5 h1 hn))).toList=out.toList++(a.toList.reverse.drop (a.size-n)).take 1:=by
 have:=rtake (a:=a) (n:=n) (t:=n-1) hn ve;rw[show n-(n-1)=1 from xF h1] at this;rw[this,Kb]
 congr 1
 have hl:n-1<a.toList.length:=by simp;exact u5 h1 hn
 rw[K9 hl,NC,Q3];simp
def Hi.stepA(L:Hi G rk a b)(m:HAt rk a b out na nb)(h1:1<=na)(h:∀j,j<nb->∀hj:j<b.size,rk b[j]<=rk (a[na-1]'(by have:=m.2.1;exact u5 h1 this))):HAt rk a b (out.push (a[na-1]'(by have:=m.2.1;exact u5 h1 this))) (na-1) nb:=by
 obtain⟨mi,ha,hb⟩:=m;refine⟨?_,wJ ha,hb⟩;rw[Pj h1 ha,show a.size-(na-1)=a.size-na+1 from yk ha h1];refine mi.takeB (Ge L.sa) 1 λy hy z hz=>?_;rw[show(1:Nat)=na-(na-1) from ym h1,rtake ha ve] at hy;obtain⟨j,j1,j2,hj,rfl⟩:=Ci (HM.mp hy);have:j=na-1:=yp j2 j1;subst this;obtain⟨i,i1,hi,rfl⟩:=Gb hb hz;have:=h i i1 hi;show-_<=- _;lia
def Hi.stepB(L:Hi G rk a b)(m:HAt rk a b out na nb)(h1:1<=nb)(h:∀j,j<na->∀hj:j<a.size,rk a[j]<=rk (b[nb-1]'(by have:=m.2.2;exact u5 h1 this))):HAt rk a b (out.push (b[nb-1]'(by have:=m.2.2;exact u5 h1 this))) na (nb-1):=by
 obtain⟨mi,ha,hb⟩:=m;refine⟨?_,ha,wJ hb⟩;rw[Pj h1 hb,show b.size-(nb-1)=b.size-nb+1 from yk hb h1];refine mi.takeA (Ge L.sb) 1 λy hy z hz=>?_;rw[show(1:Nat)=nb-(nb-1) from ym h1,rtake hb ve] at hy;obtain⟨j,j1,j2,hj,rfl⟩:=Ci (HM.mp hy);have:j=nb-1:=yp j2 j1;subst this;obtain⟨i,i1,hi,rfl⟩:=Gb ha hz;have:=h i i1 hi;show-_<=- _;lia
def Hi.manyA(L:Hi G rk a b){t:Nat}(m:HAt rk a b out na nb)(ht:t<=na)(h:∀i,t<=i->i<na->∀hi:i<a.size,∀j,j<nb->∀hj:j<b.size,rk b[j]<=rk a[i]):HAt rk a b (out++(a.extract t na).reverse) t nb:=by
 obtain⟨mi,ha,hb⟩:=m;refine⟨?_,vg ht ha,hb⟩;rw[Uc ha ht,show a.size-t=a.size-na+(na-t) from yq ht ha];refine mi.takeB (Ge L.sa) _ λy hy z hz=>?_;rw[rtake ha ht] at hy;obtain⟨i,i1,i2,hi,rfl⟩:=Ci (HM.mp hy);obtain⟨j,j1,hj,rfl⟩:=Gb hb hz;have:=h i i1 (yr i2 ht) hi j j1 hj;show-_<=- _;exact wU this
def Hi.manyB(L:Hi G rk a b){t:Nat}(m:HAt rk a b out na nb)(ht:t<=nb)(h:∀i,t<=i->i<nb->∀hi:i<b.size,∀j,j<na->∀hj:j<a.size,rk a[j]<=rk b[i]):HAt rk a b (out++(b.extract t nb).reverse) na t:=by
 obtain⟨mi,ha,hb⟩:=m;refine⟨?_,ha,vg ht hb⟩;rw[Uc hb ht,show b.size-t=b.size-nb+(nb-t) from yq ht hb];refine mi.takeA (Ge L.sb) _ λy hy z hz=>?_;rw[rtake hb ht] at hy;obtain⟨i,i1,i2,hi,rfl⟩:=Ci (HM.mp hy);obtain⟨j,j1,hj,rfl⟩:=Gb ha hz;have:=h i i1 (yr i2 ht) hi j j1 hj;show-_<=- _;exact wU this
def Hx(a:Array AH)(n:Nat):(a.extract 0 n).toList=a.toList.take n:=by
 rw[G5];simp[S3]
def Hi.doneA(L:Hi G rk a b)(m:HAt rk a b out na nb)(z:na=0):Mg rk a.toList b.toList (hiDone a b out na nb).toList:=by
 subst z;obtain⟨mi,ha,hb⟩:=m;refine Ww (mi.doneB (Ge L.sb) (by simp)) ?_;rw[Ei hb,Ei ha];unfold hiDone;rw[DF,DF,KU,Hx,Hx,HG,HG,G6,G6,C5]
def Hi.doneB(L:Hi G rk a b)(m:HAt rk a b out na nb)(z:nb=0):Mg rk a.toList b.toList (hiDone a b out na nb).toList:=by
 subst z;obtain⟨mi,ha,hb⟩:=m;refine Ww (mi.doneA (Ge L.sa) (by simp)) ?_;rw[Ei hb,Ei ha];unfold hiDone;rw[DF,DF,KU,Hx,Hx,HG,HG,G6,G6,C5]
def Hi.first(L:Hi G rk a b)(m:HAt rk a b out na nb)(z:nb=1):Mg rk a.toList b.toList (Ht a b out na nb).toList:=by
 subst z;obtain⟨mi,ha,hb⟩:=m;refine Ww (mi.last (Ge L.sa) (by simp;exact wN hb) λy hy z hz=>?_) ?_
 .obtain⟨j,j1,hj,rfl⟩:=Gb hb hz
  have:j=0:=by lia
  subst this;obtain⟨i,hi,rfl⟩:=C4.mp (HM.mp hy);have br:i<a.size:=by simpa using hi
  have:=L.hf i br hj;simp;exact this
 .rw[Ei hb,Ei ha]
  unfold Ht;rw[DF,DF,KU,Hx,Hx,HG,HG,G6,G6,C5]
def F1(rk:AH->Int)(a b:Array AH)(st:BM)(m:Nat)(r:T1)(ah:BM):Prop:=Gx st ah/\((∃x y,r=(uA x,y)/\Mg rk a.toList b.toList x.toList)\/∃out na nb ac bc,r=(uB,na,nb,out,ac,bc)/\HAt rk a b out na nb/\1<=na/\2<=nb/\na+nb+m<=a.size+b.size)
def F2(rk:AH->Int)(a b:Array AH)(st:BM)(m:Nat)(r:T2)(ah:BM):Prop:=Gx st ah/\((∃x y,r=(uA x,y)/\Mg rk a.toList b.toList x.toList)\/∃out na nb mg ac bc,r=(uB,na,nb,out,mg,ac,bc)/\HAt rk a b out na nb/\1<=na/\2<=nb/\na+nb+m<=a.size+b.size)
def Z1(rk:AH->Int)(a b:Array AH)(st:BM)(m:Nat)(r:T1)(ah:BM):Prop:=Gx st ah/\∃out na nb ac bc,r=(uB,na,nb,out,ac,bc)/\HAt rk a b out na nb/\1<=na/\2<=nb/\na+nb+m<=a.size+b.size
def Z2(rk:AH->Int)(a b:Array AH)(st:BM)(m:Nat)(r:T2)(ah:BM):Prop:=Gx st ah/\∃out na nb mg ac bc,r=(uB,na,nb,out,mg,ac,bc)/\HAt rk a b out na nb/\1<=na/\2<=nb/\na+nb+m<=a.size+b.size
def AAh(C:Cmp prog w A E s κ G rk)(L:Hi G rk a b){mg:Nat}(kd:kindOf bo=κ)(g:Gx bo st)(at_:HAt rk a b out na nb)(n1:1<=na)(n2:2<=nb)(hm:na+nb+m<=a.size+b.size) :
  wpS (AN prog w) A E s (hiOne a b mg (uB,na,nb,out,ac,bc)) (λr ah=>match r with| .done c'=>F1 rk a b bo (m+1) c' ah| .yield c'=>Z1 rk a b bo (m+1) c' ah) st:=by
 obtain⟨_,ha,hb⟩:=id at_;have la:na-1<a.size:=u5 n1 ha;have lb:nb-1<b.size:=v8 n2 hb;unfold hiOne;dsimp only;refine AQ (Bj lb (AQ (Bj la (AQ (C _ _ (L.gb.at lb) (L.ga.at la) st _ (g.kind.trans kd) ?_)))));by_cases c:rk b[nb-1]<rk a[na-1]
 .rw[uE c]
  dsimp only;rw[uD rfl];refine AQ (Bj la ?_);have bX:=L.stepA at_ n1 λj j1 hj=>ET (Fv L.sb (show j<=nb-1 from vo j1) lb) (FK c);by_cases c1:na-1=0
  .rw[uD (by rw[c1];rfl)]
   exact A8 ⟨g,.inl ⟨_,_,rfl,L.doneA bX c1⟩⟩
  .rw[uC (by intro z;exact c1 (beq_iff_eq.mp z))]
   by_cases c2:ac+1 >= mg
   .rw[uD c2]
    exact A8 ⟨g,.inr ⟨_,_,_,_,_,rfl,bX,vA c1,n2,yt hm n1⟩⟩
   .rw[uC c2]
    exact A8 ⟨g,_,_,_,_,_,rfl,bX,vA c1,n2,yt hm n1⟩
 .rw[uF c]
  dsimp only;rw[uC (by decide)];refine AQ (Bj lb ?_);have bX:=L.stepB at_ (vN n2) λj j1 hj=>ET (Fv L.sa (show j<=na-1 from vo j1) la) (J1.mp c);by_cases c1:nb-1=1
  .rw[uD (by rw[c1];rfl)]
   exact A8 ⟨g,.inl ⟨_,_,rfl,L.first bX c1⟩⟩
  .rw[uC (by intro z;exact c1 (beq_iff_eq.mp z))]
   by_cases c2:bc+1 >= mg
   .rw[uD c2]
    exact A8 ⟨g,.inr ⟨_,_,_,_,_,rfl,bX,n1,wV n2 c1,yu n2 hm⟩⟩
   .rw[uC c2]
    exact A8 ⟨g,_,_,_,_,_,rfl,bX,n1,wV n2 c1,yu n2 hm⟩
def Pk(L:Hi G rk a b){mg:Nat}(g:Gx bo st)(at_:HAt rk a b out na nb)(n1:1<=na)(n2:2<=nb)(h:∀j,j<nb->∀hj:j<b.size,rk b[j]<=rk (a[na-1]'(by have:=at_.2.1;exact u5 n1 this)))(hm:na+nb+m<=a.size+b.size) :
  wpS (AN prog w) A E s (hiEnd a b mg ac bc out na nb) (λr ah=>match r with| .done c'=>F2 rk a b bo m c' ah| .yield c'=>Z2 rk a b bo m c' ah) st:=by
 obtain⟨_,ha,hb⟩:=id at_;have la:na-1<a.size:=u5 n1 ha;unfold hiEnd;refine AQ (Bj la ?_);have bX:=L.stepA at_ n1 h;by_cases c1:na-1=0
 .rw[uD (by rw[c1];rfl)]
  exact A8 ⟨g,.inl ⟨_,_,rfl,L.doneA bX c1⟩⟩
 .rw[uC (by intro z;exact c1 (beq_iff_eq.mp z))]
  by_cases c2:(decide (ac<7)&&decide (bc<7))=true
  .rw[uD c2]
   exact A8 ⟨g,.inr ⟨_,_,_,_,_,_,rfl,bX,vA c1,n2,yv hm⟩⟩
  .rw[uC c2]
   exact A8 ⟨g,_,_,_,_,_,_,rfl,bX,vA c1,n2,yv hm⟩
def Ol(C:Cmp prog w A E s κ G rk)(L:Hi G rk a b){mg k:Nat}(kd:kindOf bo=κ)(g:Gx bo st)(at_:HAt rk a b out na nb)(n1:1<=na)(n2:2<=nb)(h:∀j,j<na->∀hj:j<a.size,rk a[j]<=rk (b[nb-1]'(by have:=at_.2.2;exact v8 n2 this)))(hm:na+nb+m<=a.size+b.size) :
  wpS (AN prog w) A E s (hiMid a b mg k bc out na nb) (λr ah=>match r with| .done c'=>F2 rk a b bo m c' ah| .yield c'=>Z2 rk a b bo m c' ah) st:=by
 obtain⟨_,ha,hb⟩:=id at_;have la:na-1<a.size:=u5 n1 ha;have lb:nb-1<b.size:=v8 n2 hb;unfold hiMid;refine AQ (Bj lb ?_);have bX:=L.stepB at_ (vN n2) h;by_cases c1:nb-1=1
 .rw[uD (by rw[c1];rfl)]
  exact A8 ⟨g,.inl ⟨_,_,rfl,L.first bX c1⟩⟩
 .rw[uC (by intro z;exact c1 (beq_iff_eq.mp z))]
  refine AQ (Bj la ?_);refine AQ (Dt C (L.ga.at la) L.gb (g.kind.trans kd) (yw lb) (by lia) (Fw (Qk L.sb (yw lb))) λt kn kt kf=>?_);dsimp only;have t1:∀i,i<t->∀hi:i<b.size,rk b[i]<rk a[na-1]:=λi i1 hi=>by
   have z:=kt i i1;rw[Fy (v9 hi)] at z;simp only[Lc] at z;exact uG z
  have t2:∀j,t<=j->j<nb-1->∀hj:j<b.size,rk a[na-1]<=rk b[j]:=λi i1 i2 hi=>by
   have z:=kf i i1 i2;rw[Fy (v9 hi)] at z;simp only[Lc] at z;exact J1.mp (of_decide_eq_false z)
  by_cases c2:nb-1-t>0
  .rw[uD c2]
   have gL:=L.manyB (t:=t) bX kn λi i1 i2 hi j j1 hj=>ET (Fv L.sa (show j<=na-1 from vo j1) la) (t2 i i1 i2 hi);by_cases c3:t=1
   .rw[uD (by rw[c3];rfl)]
    exact A8 ⟨g,.inl ⟨_,_,rfl,L.first gL c3⟩⟩
   .rw[uC (by intro z;exact c3 (beq_iff_eq.mp z))]
    by_cases c4:t=0
    .rw[uD (by rw[c4];rfl)]
     exact A8 ⟨g,.inl ⟨_,_,rfl,L.doneB gL c4⟩⟩
    .rw[uC (by intro z;exact c4 (beq_iff_eq.mp z))]
     exact Pk L g gL n1 (by lia) (λj j1 hj=>FK (t1 j j1 hj)) (by lia)
  .rw[uC c2]
   exact Pk L g bX n1 (wV n2 c1) (λj j1 hj=>FK (t1 j (yx j1 c2) hj)) (by lia)
def Ow(C:Cmp prog w A E s κ G rk)(L:Hi G rk a b){mg:Nat}(kd:kindOf bo=κ)(g:Gx bo st)(at_:HAt rk a b out na nb)(n1:1<=na)(n2:2<=nb)(hm:na+nb+m<=a.size+b.size) :
  wpS (AN prog w) A E s (hiGal a b mg ac bc out na nb) (λr ah=>match r with| .done c'=>F2 rk a b bo m c' ah| .yield c'=>Z2 rk a b bo m c' ah) st:=by
 obtain⟨_,ha,hb⟩:=id at_;have lb:nb-1<b.size:=v8 n2 hb;unfold hiGal;refine AQ (setMin ?_);have g':=QS g mg;generalize J2 (kindOf st) (AX st) (BQ st) mg (G1 st)=st1 at g';refine AQ (Bj lb ?_);refine AQ (Dt C (L.gb.at lb) L.ga (g'.kind.trans kd) (yy ha) (vR n1) (Fw (Qk L.sa (yy ha))) λt kn kt kf=>?_);dsimp only;have t1:∀i,i<t->∀hi:i<a.size,rk a[i]<=rk b[nb-1]:=λi i1 hi=>by
  have z:=kt i i1;rw[Eu (v9 hi)] at z;simp only[Lc] at z;refine J1.mp λy=>?_;rw[uE y] at z;cases z
 have t2:∀j,t<=j->j<na->∀hj:j<a.size,rk b[nb-1]<=rk a[j]:=λi i1 i2 hi=>by
  have z:=kf i i1 i2;rw[Eu (v9 hi)] at z;simp only[Lc] at z;have z':decide (rk b[nb-1]<rk a[i])=true:=by
   cases q:decide (rk b[nb-1]<rk a[i]) with
   | true=>rfl
   | false=>rw[q] at z;cases z
  exact FK (uG z')
 by_cases c2:na-t>0
 .rw[uD c2]
  have gL:=L.manyA (t:=t) at_ kn λi i1 i2 hi j j1 hj=>ET (Fv L.sb (show j<=nb-1 from vo j1) lb) (t2 i i1 i2 hi);by_cases c3:t=0
  .rw[uD (by rw[c3];rfl)]
   exact A8 ⟨g',.inl ⟨_,_,rfl,L.doneA gL c3⟩⟩
  .rw[uC (by intro z;exact c3 (beq_iff_eq.mp z))]
   exact Ol C L kd g' gL (vA c3) n2 (λj j1 hj=>t1 j j1 hj) (by lia)
 .rw[uC c2]
  exact Ol C L kd g' at_ n1 n2 (λj j1 hj=>t1 j (yx j1 c2) hj) hm
def Ui(C:Cmp prog w A E s κ G rk)(L:Hi G rk a b)(kd:kindOf st=κ)(a1:1<=a.size)(b1:1<=b.size)(hl:∀j,∀hj:j<b.size,rk b[j]<=rk (a[a.size-1]'(vR a1))){Q:Array AH->BM->Prop}(h:∀r ah,Gx st ah->Mg rk a.toList b.toList r.toList->Q r ah):wpS (AN prog w) A E s (Jd a b) Q st:=by
 rw[Rz];refine AQ (NL (IE ⟨rfl,?_⟩));refine AQ (Bj (vR a1) ?_);have mi0:HAt rk a b #[] a.size b.size:=⟨by
  rw[IQ,IQ];exact⟨Iq.trans Iq,LY,λx hx=>(by cases hx),λx hx=>(by cases hx)⟩,AF _,AF _⟩
 have mi:=L.stepA mi0 a1 λj _ hj=>hl j hj;by_cases c1:a.size-1=0
 .rw[uD (by rw[c1];rfl)]
  exact A8 (h _ _ (Gx.refl _) (L.doneA mi c1))
 rw[uC (by intro z;exact c1 (beq_iff_eq.mp z))];by_cases c2:b.size=1
 .rw[uD (by rw[c2];rfl)]
  exact A8 (h _ _ (Gx.refl _) (L.first mi c2))
 rw[uC (by intro z;exact c2 (beq_iff_eq.mp z))];refine AQ (KA ?_);refine AQ (EH (DV (I:=λx c ah=>Gx st ah/\∃out na nb mg,c=(uB,na,nb,out,mg)/\HAt rk a b out na nb/\1<=na/\2<=nb/\na+nb+(x+1)<=a.size+b.size)
  (Q:=λc ah=>Gx st ah/\∃x y,c=(uA x,y)/\Mg rk a.toList b.toList x.toList) ?_ ?_ ⟨Gx.refl _,_,_,_,_,rfl,mi,vA c1,by lia,by lia⟩) ?_)
 .rintro x c ah _ xn ⟨g,out,na,nb,mg,rfl,at_,n1,n2,xm⟩
  refine AQ (EH (DV (I:=λy c ah=>Z1 rk a b st (x+1+y) c ah) (Q:=F1 rk a b st (x+2)) ?_ ?_ ⟨g,_,_,_,_,_,rfl,at_,n1,n2,by lia⟩) ?_)
  .rintro y c be _ yn ⟨g2,out2,na2,nb2,ac,bc,rfl,at2,m1,m2,hm⟩
   refine EH (AAh C L kd g2 at2 m1 m2 hm) λr dk hr=>?_;cases r with
   | done c' =>
    obtain⟨g3,q⟩:=hr;refine⟨g3,q.imp id λ⟨o,i,j,k,l,e,a',b',c',d'⟩=>⟨o,i,j,k,l,e,a',b',c',by lia⟩⟩
   | yield c'=>exact hr
  .rintro c be ⟨g2,out2,na2,nb2,ac,bc,rfl,at2,m1,m2,hm⟩
   exact⟨g2,.inr ⟨_,_,_,_,_,rfl,at2,m1,m2,by lia⟩⟩
  .rintro c be ⟨g2,⟨r,y,rfl,m⟩| ⟨out2,na2,nb2,ac,bc,rfl,at2,m1,m2,hm⟩⟩
   .exact A8 ⟨g2,_,_,rfl,m⟩
   .refine AQ (NL (IE ⟨rfl,?_⟩))
    refine AQ (EH (DV (I:=λy c ah=>Z2 rk a b st (x+2) c ah) (Q:=F2 rk a b st (x+2)) ?_ ?_ ⟨g2,_,_,_,_,_,_,rfl,at2,m1,m2,hm⟩) ?_)
    .rintro y c dk _ yn ⟨g3,out3,na3,nb3,mg3,ac3,bc3,rfl,at3,k1,k2,g9⟩
     split
     .exact EH (Ow C L kd g3 at3 k1 k2 g9) λr st4 hr=>by cases r<;>exact hr
     .exact EH (Ow C L kd g3 at3 k1 k2 g9) λr st4 hr=>by cases r<;>exact hr
    .rintro c dk ⟨g3,out3,na3,nb3,mg3,ac3,bc3,rfl,at3,k1,k2,g9⟩
     exact⟨g3,.inr ⟨_,_,_,_,_,_,rfl,at3,k1,k2,g9⟩⟩
    .rintro c dk ⟨g3,⟨r,y,rfl,m⟩| ⟨out3,na3,nb3,mg3,ac3,bc3,rfl,at3,k1,k2,g9⟩⟩
     .exact A8 ⟨g3,_,_,rfl,m⟩
     .refine AQ (setMin (A8 ⟨QS g3 _,_,_,_,_,rfl,at3,k1,k2,by lia⟩))
 .rintro c ah ⟨g,out,na,nb,mg,rfl,at_,n1,n2,xm⟩
  lia
 .rintro c ah ⟨g,x,y,rfl,m⟩
  exact A8 (h _ _ g m)
end
variable{rk:AH->Int}{G:AH->Prop}
def lay(arr:Array AH)(sa:Nat)(r:Array AH):Array AH:=r.toList.zipIdx.foldl (λa (p,j)=>a.setIfInBounds (sa+j) p) arr
theorem Uw(sa:Nat):∀(l:List AH) (k:Nat) (arr:Array AH),sa+k+l.length<=arr.size->∀q:Nat,
  ((l.zipIdx k).foldl (λa (x:AH×Nat)=>a.setIfInBounds (sa+x.2) x.1) arr).size=arr.size/\((l.zipIdx k).foldl (λa (x:AH×Nat)=>a.setIfInBounds (sa+x.2) x.1) arr)[q]?=if sa+k<=q/\q<sa+k+l.length then l[q-(sa+k)]? else arr[q]?
 | [],k,arr,h,q=>by
  refine⟨rfl,?_⟩;rw[uC (by simp)];rfl
 | x::l,k,arr,h,q=>by
  rw[DS] at h;rw[List.zipIdx_cons,PF];have ih:=Uw sa l (k+1) (arr.setIfInBounds (sa+k) x) (by rw[IR];lia) q;refine⟨ih.1.trans IR,ih.2.trans ?_⟩;rw[DS];by_cases c:sa+k<=q/\q<sa+k+(l.length+1)
  .rw[uD c]
   by_cases d:q=sa+k
   .subst d
    rw[uC (by lia),Array.getElem?_setIfInBounds_self_of_lt (by lia)];simp
   .rw[uD (by lia),show q-(sa+k)=(q-(sa+(k+1)))+1 by lia,List.getElem?_cons_succ]
  .rw[uC c,uC (by lia),Array.getElem?_setIfInBounds_ne (by lia)]
def Rb{r:Array AH}(h:sa+r.size<=arr.size)(q:Nat):(lay arr sa r)[q]?=if sa<=q/\q<sa+r.size then r[q-sa]? else arr[q]?:=by
 have:=(Uw sa r.toList 0 arr (by simpa using h) q).2;unfold lay;simpa using this
def ABV{r:Array AH}{mid:Nat}(lm:lo<=mid)(mh:mid<=hi)(ha:hi<=arr.size)(p:r.toList.Perm ((arr.extract lo mid).toList++(arr.extract mid hi).toList)):(lay arr lo r).Perm arr:=by
 have rl:r.size=hi-lo:=by
  have:=p.length_eq;simp at this;lia
 have e:(lay arr lo r).toList=arr.toList.take lo++(r.toList++arr.toList.drop hi):=by
  apply Hc;intro q;rw[Cb,Rb (by lia)];by_cases c:q<lo
  .rw[uC (ya c),Be (by simp;lia),F9 c,Cb]
  .rw[CH (by simp;lia)]
   have e1:(arr.toList.take lo).length=lo:=by simp;lia
   rw[e1];by_cases d:q<hi
   .rw[uD (by lia),Be (by simp;lia),Cb]
   .rw[uC (by lia),CH (by simp;lia),N5,A1,rl,Cb]
    congr 1
    lia
 have e2:arr.toList=arr.toList.take lo++(((arr.extract lo mid).toList++(arr.extract mid hi).toList)++arr.toList.drop hi):=by
  have x1:(arr.extract lo mid).toList=(arr.toList.drop lo).take (mid-lo):=by rw[G5]
  have x2:(arr.extract mid hi).toList=(arr.toList.drop mid).take (hi-mid):=by rw[G5]
  rw[x1,x2,C5];have y2:(arr.toList.drop mid).take (hi-mid)++arr.toList.drop hi=arr.toList.drop mid:=by
   rw[show arr.toList.drop hi=(arr.toList.drop mid).drop (hi-mid) by rw[Q2];congr 1;exact zj mh];exact F4 ..
  rw[y2];have y1:(arr.toList.drop lo).take (mid-lo)++arr.toList.drop mid=arr.toList.drop lo:=by
   rw[show arr.toList.drop mid=(arr.toList.drop lo).drop (mid-lo) by rw[Q2];congr 1;exact zj lm];exact F4 ..
  rw[y1];exact(F4 ..).symm
 refine IA.mpr ?_;rw[e,e2];have e3:(We lo arr.toList++(((arr.extract lo mid).toList++(arr.extract mid hi).toList)++arr.toList.drop hi)).take lo=We lo arr.toList:=by rw[<- e2]
 have e4:(We lo arr.toList++(((arr.extract lo mid).toList++(arr.extract mid hi).toList)++arr.toList.drop hi)).drop hi=arr.toList.drop hi:=by rw[<- e2]
 first
  | exact Fc _ (Mo _ p)
  | (rw[e3,e4];exact Fc _ (Mo _ p))
def Gq(h:Al G arr)(i j:Nat):Al G (arr.extract i j):=λk x e=>by
 rw[Array.getElem?_extract] at e;split at e
 .exact h _ x e
 .cases e
def srt_extract(h:Up rk arr i j)(hj:j<=arr.size):Srt rk (arr.extract i j).toList:=by
 unfold Srt;rw[CL];intro p q hp hq pq;simp at hp hq;have:=h (i+p) (i+q) uO (by lia) (by lia);rw[Gj (zk hp),Gj (zk hq)] at this;simpa using this
def ABS{k:Nat}(h:k<(arr.extract i j).size):(arr.extract i j)[k]=arr[i+k]'(by simp at h;lia):=by simp
def Ch(rk:AH->Int)(arr:Array AH):List (Nat×Nat×Nat)->Nat->Nat->Prop
 | [],lo,hi=>lo=hi
 | (s,n,_)::ar,lo,hi=>s=lo/\1<=n/\Up rk arr lo (lo+n)/\Ch rk arr ar (lo+n) hi
theorem Ch.le:∀{l:List (Nat×Nat×Nat)}{lo hi:Nat},Ch rk arr l lo hi->lo+l.length<=hi
 | [],lo,hi,h=>by have h':lo=hi:=h;simp;exact vw h'
 | (s,n,_)::ar,lo,hi,⟨_,h1,_,h⟩=>by have:=Ch.le h;simp;lia
def Up.congr(h:Up rk arr lo hi)(e:∀i,lo<=i->i<hi->ky[i]?=arr[i]?):Up rk ky lo hi:=λi j li ij jh=>by
 rw[Fo (e i li (u3 ij jh)),Fo (e j (vg li ij) jh)];exact h i j li ij jh
theorem Ch.congr:∀{l:List (Nat×Nat×Nat)}{lo hi:Nat},Ch rk arr l lo hi->(∀i,lo<=i->i<hi->ky[i]?=arr[i]?)->Ch rk ky l lo hi
 | [],lo,hi,h,_=>h
 | (s,n,_)::ar,lo,hi,⟨e1,h1,u,h⟩,e=>by
  have le:=Ch.le h;exact⟨e1,h1,u.congr λi li il=>e i li (by lia),Ch.congr h λi li il=>e i (u8 li) il⟩
theorem Ch.cut:∀{l m:List (Nat×Nat×Nat)}{lo hi:Nat},Ch rk arr (l++m) lo hi↔∃mid,Ch rk arr l lo mid/\Ch rk arr m mid hi
 | [],m,lo,hi=>⟨λh=>⟨lo,rfl,h⟩,λ⟨mid,e,h⟩=>by have e':lo=mid:=e;rw[e'];exact h⟩
 | (s,n,x)::l,m,lo,hi=>⟨by
   rintro⟨e1,h1,u,h⟩;obtain⟨mid,a,b⟩:=Ch.cut.mp h;exact⟨mid,⟨e1,h1,u,a⟩,b⟩,by rintro⟨mid,⟨e1,h1,u,a⟩,b⟩;exact⟨e1,h1,u,Ch.cut.mpr ⟨mid,a,b⟩⟩⟩
variable{rk:AH->Int}{G:AH->Prop}
def Hg:Nat->StateT BM Sem Bool:=sortPriv% PySem.Builtin.mergeAt
noncomputable abbrev Ep(st:BM)(p:Array (Nat×Nat×Nat)):BM:=J2 (kindOf st) (AX st) p (RE st) (G1 st)
def UL(i:Nat):Hg i=(do
 let s <- get
 let (uA (sa,na,power),uA (sb,nb,_)):=((BQ s)[i]?,(BQ s)[i+1]?)| unsupported "internal:list.sort.pending"
 set (Ep s (((BQ s).setIfInBounds i (sa,na+nb,power)).eraseIdxIfInBounds (i+1)))
 let uA k <- DW false (<- D1 (AX s) sb) (AX s) sa na 0| return false
 let (sa,na):=(sa+k,na-k)
 if na==0 then return true
 let uA nb <- DW true (<- D1 (AX s) (sa+na-1)) (AX s) sb nb (nb-1)| return false
 if nb==0 then return true
 let x:=(AX s).extract sa sb
 let y:=(AX s).extract sb (sb+nb)
 let merged <- if na<=nb then JB x y else Jd x y
 modify λs=>VC s (lay (AX s) sa merged)
 return (G1 (<- get)).isNone):=rfl
def AFW{σ:Type}{M:WN}{x:σ}{Q:PUnit->σ->Prop}{st:σ}(h:Q ⟨⟩ x):wpS M A E s (set x:StateT σ Sem PUnit) Q st:=by
 unfold wpS;rw[StateT.run_set];exact AE ⟨rfl,h⟩
def Ug(C:Cmp prog w A E s κ G rk)(B:Ba G rk κ a₀ st){pa sb pb:Nat}(hp1:(BQ st)[i]?=uA (sa,na,pa))(kA:(BQ st)[i+1]?=uA (sb,nb,pb))(pM:sb=sa+na)(n1:1<=na)(n2:1<=nb)(hz:sb+nb<=a₀.size)(ua:Up rk (AX st) sa (sa+na))(ub:Up rk (AX st) sb (sb+nb)){Q:Bool->BM->Prop}
  (h:∀ah,Ba G rk κ a₀ ah->BQ ah=((BQ st).setIfInBounds i (sa,na+nb,pa)).eraseIdxIfInBounds (i+1)->(∀q,q<sa\/sb+nb<=q->(AX ah)[q]?=(AX st)[q]?)->Up rk (AX ah) sa (sb+nb)->Q true ah):wpS (AN prog w) A E s (Hg i) Q st:=by
 have sz:=B.size;have al:=B.all.perm B.perm;rw[UL];refine AQ (KA ?_);rw[hp1,kA];dsimp only;refine AQ (AFW ?_);have B1:Ba G rk κ a₀ (Ep st (((BQ st).setIfInBounds i (sa,na+nb,pa)).eraseIdxIfInBounds (i+1))):=⟨B.perm,B.kind,B.failed,B.all,B.di⟩;have hb:sb<(AX st).size:=by lia
 refine AQ (Bj hb ?_);refine AQ (Dt C (al.at hb) al B1.kind (xY hb pM) (by lia) (Fw ua) λk kn kt kf=>?_);dsimp only;have t1:∀q,sa<=q->q<sa+k->N rk (AX st) q<=N rk (AX st) sb:=λq q1 q2=>by
  have z:=kt (q-sa) (wa q2 q1);rw[Eu (by lia)] at z;have e:sa+(q-sa)=q:=vi q1;simp only[e] at z;rw[Gj (show q<(AX st).size by lia),Gj hb];refine J1.mp λy=>?_;rw[uE y] at z;cases z
 have t2:∀q,sa+k<=q->q<sa+na->N rk (AX st) sb<N rk (AX st) q:=λq q1 q2=>by
  have z:=kf (q-sa) (wb q1) (yK q2 q1);rw[Eu (by lia)] at z;have e:sa+(q-sa)=q:=wc q1;simp only[e] at z;rw[Gj (show q<(AX st).size from yL q2 hb pM),Gj hb];cases c:decide (rk (AX st)[sb]<rk ((AX st)[q]'(yL q2 hb pM))) with
  | true=>exact uG c
  | false=>rw[c] at z;cases z
 by_cases c1:na-k=0
 .rw[uD (by rw[c1];rfl)]
  refine A8 (h _ B1 rfl (λ_ _=>rfl) λp q sp pq qh=>?_);by_cases d:q<sa+na
  .exact ua p q sp pq d
  .by_cases d':p<sa+na
   .exact ET (t1 p sp (by lia)) (ub sb q (AF _) (wX pM d) qh)
   .exact ub p q (wX pM d') pq qh
 rw[uC (by intro z;exact c1 (beq_iff_eq.mp z))];have hl:sa+k+(na-k)-1<(AX st).size:=by lia
 refine AQ (Bj hl ?_);refine AQ (Dt C (al.at hl) al B1.kind (by lia) (vR n2) (Fw ub) λm mn mt mf=>?_);dsimp only;have el:sa+k+(na-k)-1=sb-1:=by lia
 have u1:∀q,sb<=q->q<sb+m->N rk (AX st) q<N rk (AX st) (sb-1):=λq q1 q2=>by
  have z:=mt (q-sb) (wa q2 q1);rw[Fy (by lia)] at z;have e:sb+(q-sb)=q:=vi q1;simp only[e,el] at z;rw[Gj (show q<(AX st).size by lia),Gj (show sb-1<(AX st).size from vZ hl el)];exact uG z
 have u2:∀q,sb+m<=q->q<sb+nb->N rk (AX st) (sb-1)<=N rk (AX st) q:=λq q1 q2=>by
  have z:=mf (q-sb) (wb q1) (yK q2 q1);rw[Fy (by lia)] at z;have e:sb+(q-sb)=q:=wc q1;simp only[e,el] at z;rw[Gj (show q<(AX st).size by lia),Gj (show sb-1<(AX st).size from vZ hl el)];exact J1.mp (of_decide_eq_false z)
 by_cases c2:m=0
 .rw[uD (by rw[c2];rfl)]
  refine A8 (h _ B1 rfl (λ_ _=>rfl) λp q sp pq qh=>?_);by_cases d:q<sa+na
  .exact ua p q sp pq d
  .by_cases d':p<sa+na
   .exact ET (ua p (sb-1) sp (by lia) (by lia)) (u2 q (by lia) qh)
   .exact ub p q (wX pM d') pq qh
 rw[uC (by intro z;exact c2 (beq_iff_eq.mp z))];have exs:((AX st).extract (sa+k) sb).size=sb-(sa+k):=by simp;lia
 have eys:((AX st).extract sb (sb+m)).size=m:=by simp;lia
 have sx:Srt rk ((AX st).extract (sa+k) sb).toList:=srt_extract (λp q a b c=>ua p q (u8 a) b (vF c pM)) (vO hb);have sy:Srt rk ((AX st).extract sb (sb+m)).toList:=srt_extract (λp q a b c=>ub p q a b (wY c mn)) (yM hz mn sz);have atx:∀j,∀hj:j<((AX st).extract (sa+k) sb).size,rk ((AX st).extract (sa+k) sb)[j]=N rk (AX st) (sa+k+j):=λj hj=>by
  rw[ABS hj,Gj (by lia)]
 have aty:∀j,∀hj:j<((AX st).extract sb (sb+m)).size,rk ((AX st).extract sb (sb+m))[j]=N rk (AX st) (sb+j):=λj hj=>by
  rw[ABS hj,Gj (by lia)]
 have first:∀j,∀hj:j<((AX st).extract (sa+k) sb).size,∀h0:0<((AX st).extract sb (sb+m)).size,rk (((AX st).extract sb (sb+m))[0]'h0)<=rk ((AX st).extract (sa+k) sb)[j]:=λj hj h0=>by
  rw[atx j hj,aty 0 h0,SW];exact FK (t2 _ uO (by lia))
 have oT:∀j,∀hj:j<((AX st).extract sb (sb+m)).size,rk ((AX st).extract sb (sb+m))[j]<=N rk (AX st) (sb-1):=λj hj=>by
  rw[aty j hj];exact FK (u1 _ uO (yN hj eys))
 have fin:∀(r:Array AH) (be:BM),Gx (Ep st (((BQ st).setIfInBounds i (sa,na+nb,pa)).eraseIdxIfInBounds (i+1))) be->Mg rk ((AX st).extract (sa+k) sb).toList ((AX st).extract sb (sb+m)).toList r.toList ->
   wpS (AN prog w) A E s (do modify λs=>VC s (lay (AX s) (sa+k) r);let g <- get;pure (G1 g).isNone) Q be:=by
  rintro r be g ⟨pm,sr⟩;have rs:r.size=sb+m-(sa+k):=by
   have:=pm.length_eq;simp at this;lia
  have ea:=g.arr;have hs:sa+k+r.size<=(AX st).size:=by lia
  refine AQ (IG ?_);refine AQ (KA ?_);have ef:=g.failed.trans B.failed;rw[ef];have lp:=ABV (arr:=AX st) (r:=r) (lo:=sa+k) (mid:=sb) (hi:=sb+m) (by lia) uO (yM hz mn sz) pm;have mem:∀j,∀hj:j<r.size,∃q,sa+k<=q/\q<sb+m/\rk r[j]=N rk (AX st) q:=λj hj=>by
   have:r[j]∈r.toList:=O6 hj;rcases Co.mp (pm.mem_iff.mp this) with z| z
   .obtain⟨q,hq,e⟩:=C4.mp z
    have ic:q<((AX st).extract (sa+k) sb).size:=by rw[<- A1];exact hq
    exact⟨sa+k+q,uO,by lia,by rw[<- e,<- atx q ic];simp⟩
   .obtain⟨q,hq,e⟩:=C4.mp z
    have ic:q<((AX st).extract sb (sb+m)).size:=by rw[<- A1];exact hq
    exact⟨sb+q,by lia,yN ic eys,by rw[<- e,<- aty q ic];simp⟩
  have laid:∀q,N rk (lay (AX st) (sa+k) r) q=if c:sa+k<=q/\q<sa+k+r.size then rk (r[q-(sa+k)]'(vL c)) else N rk (AX st) q:=λq=>by
   have e:=Rb (arr:=AX st) (r:=r) (sa:=sa+k) hs q;by_cases c:sa+k<=q/\q<sa+k+r.size
   .rw[dif_pos c]
    rw[uD c] at e;unfold N;rw[e,Bn (vL c)]
   .rw[dif_neg c]
    rw[uC c] at e;exact Fo e
  refine A8 (h _ ⟨?_,g.kind.trans B.kind,ef,B.all,B.di⟩ g.pend (λq hq=>?_) ?_)
  .rw[ea]
   exact lp.trans B.perm
  .rw[ea,Rb hs,uC (by lia)]
  .rw[ea]
   intro p q sp pq qh;rw[laid p,laid q];by_cases cp:sa+k<=p/\p<sa+k+r.size
   .rw[dif_pos cp]
    by_cases cq:sa+k<=q/\q<sa+k+r.size
    .rw[dif_pos cq]
     exact Fv sr (by lia) (vL cq)
    .rw[dif_neg cq]
     obtain⟨v,v1,v2,ev⟩:=mem (p-(sa+k)) (vL cp);rw[ev];by_cases d:v<sb
     .exact ET (ua v (sb-1) (u8 v1) (vo d) (by lia)) (u2 q (by lia) qh)
     .exact ub v q (uN d) (by lia) qh
   .rw[dif_neg cp]
    by_cases cq:sa+k<=q/\q<sa+k+r.size
    .rw[dif_pos cq]
     obtain⟨v,v1,v2,ev⟩:=mem (q-(sa+k)) (vL cq);rw[ev];by_cases d:v<sb
     .exact ua p v sp (by lia) (vF d pM)
     .exact ET (t1 p sp (by lia)) (ub sb v (AF _) (uN d) (wY v2 mn))
    .rw[dif_neg cq]
     by_cases d:q<sa+k
     .exact ua p q sp pq (wY d kn)
     .by_cases d2:p<sa+k
      .exact ET (t1 p sp d2) (ub sb q (AF _) (yO rs cq d) qh)
      .exact ub p q (yO rs cp d2) pq qh
 by_cases c3:na-k<=m
 .rw[uD c3]
  refine AQ (SQ C ⟨Gq al _ _,Gq al _ _,sx,sy,λy hy z hz=>?_⟩ B1.kind (by lia) (yP eys c2) (λj hj=>first j hj (by lia)) λr be g mg=>fin r be g mg);obtain⟨j,j1,hj,rfl⟩:=Ef hz;obtain⟨q,hq,e⟩:=C4.mp hy;have ic:q<((AX st).extract sb (sb+m)).size:=by rw[<- A1];exact hq
  have e':y=((AX st).extract sb (sb+m))[q]:=by rw[<- e];simp
  rw[e',atx j hj,show sa+k+j=sb-1 by lia];exact oT q ic
 .rw[uC c3]
  refine AQ (Ui C ⟨Gq al _ _,Gq al _ _,sx,sy,λj hj h0=>first j hj h0⟩ B1.kind (by lia) (yP eys c2) (λj hj=>?_) λr be g mg=>fin r be g mg);rw[atx _ (by lia),show sa+k+(((AX st).extract (sa+k) sb).size-1)=sb-1 by lia];exact oT j hj
variable{rk:AH->Int}{G:AH->Prop}
def QG:Nat->Nat->Nat->Nat:=sortPriv% PySem.Builtin.minRun
def powerT:Nat->Nat->Nat->Nat->Nat:=sortPriv% PySem.Builtin.power
def Ot:StateT BM Sem Unit:=sortPriv% PySem.Builtin.sortRuns
def Qu:Ot=(do
 let size:=(AX (<- get)).size
 let minrun:=QG size size 0
 let mut lo:=0
 for _ in [0:size] do
  if lo >= size then break
  let uA found <- Jp lo (size-lo)| return
  let mut n:=found
  if n<minrun then
   rule "list.sort.binary-insertion"
   let force:=min (size-lo) minrun
   if !(<- Mr lo force n) then return
   n:=force
  if let uA (s1,n1,_):=(BQ (<- get)).back? then
   let pw:=powerT size (2*s1+n1) (2*s1+n1+n1+n) size
   for _ in [0:size] do
    let p:=BQ (<- get)
    let uA (_,_,older):=(if p.size>1 then p[p.size-2]? else uB)| break
    if older<=pw then break
    if !(<- Hg (p.size-2)) then return
   modify λs=>Ep s ((BQ s).modify ((BQ s).size-1) λ(st,len,_)=>(st,len,pw))
  modify λs=>Ep s ((BQ s).push (lo,n,0))
  lo:=lo+n
 for _ in [0:size] do
  let p:=BQ (<- get)
  if p.size<=1 then break
  let i:=p.size-2
  let before:=if i>0 then p[i-1]?.map (·.2.1) else uB
  let i:=if before.any (· < (p[i+1]?.elim 0 (·.2.1))) then i-1 else i
  if !(<- Hg i) then return):=rfl
structure Rn(G:AH->Prop)(rk:AH->Int)(κ:ES)(a₀:Array AH)(lo:Nat)(st:BM):Prop where
 ba:Ba G rk κ a₀ st
 ch:Ch rk (AX st) (BQ st).toList 0 lo
theorem MK{α:Type}:∀{l:List α}{i:Nat}{x y:α},l[i]?=uA x->l[i+1]?=uA y->l=l.take i++x::y::l.drop (i+2)
 | a::b::l,0,x,y,h1,h2=>by
  simp at h1 h2;subst h1 h2;rfl
 | a::l,i+1,x,y,h1,h2=>by
  have:=MK (l:=l) (i:=i) (x:=x) (y:=y) (by simpa using h1) (by simpa using h2);rw[NC,O3]
  congr 1
def AAQ{p:Array (Nat×Nat×Nat)}{x y v:Nat×Nat×Nat}(h1:p[i]?=uA x)(h2:p[i+1]?=uA y):((p.setIfInBounds i v).eraseIdxIfInBounds (i+1)).toList=p.toList.take i++v::p.toList.drop (i+2):=by
 have hi:=(C8.mp h2).1;have e:=MK (l:=p.toList) (i:=i) (x:=x) (y:=y) (by rw[Cb];exact h1) (by rw[Cb];exact h2);have tl:(p.toList.take i).length=i:=by simp;lia
 have es:(p.setIfInBounds i v).toList=p.toList.take i++v::y::p.toList.drop (i+2):=by
  rw[Array.toList_setIfInBounds]
  conv=>lhs;rw[e]
  rw[List.set_append_right _ _ (vw tl),tl,IQ];rfl
 have hz:i+1<(p.setIfInBounds i v).size:=by rw[IR];exact hi
 rw[O7,dif_pos hz,Array.toList_eraseIdx,es,List.eraseIdx_append_of_length_le (by lia),tl]
 congr 1
 rw[show i+1-i=1 by lia];rfl
def QZ(C:Cmp prog w A E s κ G rk)(R:Rn G rk κ a₀ lo st)(hl:lo<=a₀.size)(hi:i+1<(BQ st).size){Q:Bool->BM->Prop}
  (h:∀ah,Rn G rk κ a₀ lo ah->(BQ ah).size+1=(BQ st).size->(∀q,lo<=q->(AX ah)[q]?=(AX st)[q]?)->Q true ah):wpS (AN prog w) A E s (Hg i) Q st:=by
 obtain⟨sa,na,pa,e1⟩:∃sa na pa,(BQ st)[i]?=uA (sa,na,pa):=⟨_,_,_,Bn (uR hi)⟩;obtain⟨sb,nb,pb,e2⟩:∃sb nb pb,(BQ st)[i+1]?=uA (sb,nb,pb):=⟨_,_,_,Bn hi⟩;have e:=MK (l:=(BQ st).toList) (i:=i) (by rw[Cb];exact e1) (by rw[Cb];exact e2);have ch:=R.ch;rw[e] at ch;obtain⟨mid,c1,rfl,n1,ua,rfl,n2,ub,c2⟩:=Ch.cut.mp ch;have le:=c2.le;have le1:=c1.le;have z2:sa+na+nb<=lo:=u8 le;refine Ug C R.ba e1 e2 rfl n1 n2 (vg z2 hl) ua ub λah B' pe low up=>?_;have pl:=AAQ (v:=(sa,na+nb,pa)) e1 e2;refine h ah ⟨B',?_⟩ ?_ λq hq=>low q (.inr (by lia))
 .rw[pe,pl]
  refine Ch.cut.mpr ⟨sa,c1.congr λq _ hq=>low q (.inl hq),rfl,u4 n1,?_,?_⟩
  .rw[show sa+(na+nb)=sa+na+nb from wP]
   exact up
  .rw[show sa+(na+nb)=sa+na+nb from wP]
   exact c2.congr λq hq _=>low q (.inr hq)
 .have:=congrArg FC pl
  rw[<- pe] at this;simp at this;lia
theorem Ch.mod{f:Nat×Nat×Nat->Nat×Nat×Nat}(hf:∀x,(f x).1=x.1/\(f x).2.1=x.2.1):∀{l:List (Nat×Nat×Nat)}{lo hi:Nat} (i:Nat),Ch rk arr l lo hi->Ch rk arr (l.modify i f) lo hi
 | [],lo,hi,i,h=>by rw[List.modify_nil];exact h
 | (a,n,p)::l,lo,hi,0,⟨e1,h1,u,h⟩=>by
  rw[List.modify_zero_cons];have:=hf (a,n,p);generalize f (a,n,p)=y at this;obtain⟨y1,y2,y3⟩:=y;obtain⟨z1,z2⟩:=this;subst z1 z2;exact⟨e1,h1,u,h⟩
 | (a,n,p)::l,lo,hi,i+1,⟨e1,h1,u,h⟩=>by
  rw[List.modify_succ_cons];exact⟨e1,h1,u,Ch.mod hf i h⟩
def AEr{c:Prop}{i:Decidable c}{a b:Nat}(h1:a<=m)(h2:b<=m):(@ite Nat c i a b)<=m:=by
 split
 .exact h1
 .exact h2
def Nr(C:Cmp prog w A E s κ G rk)(B:Ba G rk κ a₀ st)(hp:BQ st=#[]){Q:Unit->BM->Prop}
  (h:∀ah,Ba G rk κ a₀ ah->Up rk (AX ah) 0 a₀.size->Q () ah):wpS (AN prog w) A E s Ot Q st:=by
 rw[Qu];refine AQ (KA ?_);dsimp only;rw[B.size];refine AQ (EH (DV (I:=λx c ah=>∃lo,c=(uB,lo)/\x<=lo/\lo<=a₀.size/\Rn G rk κ a₀ lo ah) (Q:=λc ah=>c=(uB,a₀.size)/\Rn G rk κ a₀ a₀.size ah) ?_ ?_ ⟨0,rfl,AF _,By _,B,by rw[hp];rfl⟩) ?_)
 .rintro x c st1 _ xn ⟨lo,rfl,xl,ll,R⟩
  dsimp only;by_cases c1:lo >= a₀.size
  .rw[uD c1]
   have:lo=a₀.size:=wL ll c1;subst this;exact A8 ⟨rfl,R⟩
  rw[uC c1];refine AQ (Ng C R.ba (by lia) (by lia) λn be n1 nn nx up=>?_);dsimp only;have R2:Rn G rk κ a₀ lo be:=⟨R.ba.nx nx,by rw[nx.pend];exact R.ch.congr λi _ hi=>nx.low i hi⟩;by_cases c2:n<QG a₀.size a₀.size 0
  .rw[uD c2]
   refine AQ (NL (IE ⟨rfl,?_⟩));obtain⟨f,ef⟩:∃f,f=min (a₀.size-lo) (QG a₀.size a₀.size 0):=⟨_,rfl⟩;rw[<- ef];refine AQ (Qg C R2.ba (n:=f) (w6 ef c1) (by lia) up λdk nx3 up3=>?_);have R3:Rn G rk κ a₀ lo dk:=⟨R2.ba.nx nx3,by rw[nx3.pend];exact R2.ch.congr λi _ hi=>nx3.low i hi⟩;rw[uC (by decide)];refine AQ (KA ?_);have put:∀{st4:BM},Rn G rk κ a₀ lo st4->(∀q,lo<=q->(AX st4)[q]?=(AX dk)[q]?)->Rn G rk κ a₀ (lo+f) (Ep st4 ((BQ st4).push (lo,f,0))):=λ{st4} R4 e4=>⟨⟨R4.ba.perm,R4.ba.kind,R4.ba.failed,R4.ba.all,R4.ba.di⟩,by
    rw[Kb];exact Ch.cut.mpr ⟨lo,R4.ch,rfl,by lia,up3.congr λq hq _=>e4 q hq,rfl⟩⟩
   cases hb:(BQ dk).back? with
   | none =>
    dsimp only;exact AQ (IG (A8 ⟨lo+f,rfl,zd xl n1 nn c2 ef,w6 ef c1,put R3 λ_ _=>rfl⟩))
   | some v =>
    obtain⟨s1,m1,q1⟩:=v;dsimp only;refine AQ (EH (DV (I:=λ_ c st4=>c=(uB,())/\Rn G rk κ a₀ lo st4/\∀q,lo<=q->(AX st4)[q]?=(AX dk)[q]?) (Q:=λc st4=>c=(uB,())/\Rn G rk κ a₀ lo st4/\∀q,lo<=q->(AX st4)[q]?=(AX dk)[q]?) ?_ (λ_ _ h=>h) ⟨rfl,R3,λ_ _=>rfl⟩) ?_)
    .rintro y c st4 _ _ ⟨rfl,R4,e4⟩
     refine AQ (KA ?_);by_cases d1:(BQ st4).size>1
     .rw[uD d1,Bn (show(BQ st4).size-2<(BQ st4).size from ze d1)]
      dsimp only;split
      .exact A8 ⟨rfl,R4,e4⟩
      .refine AQ (QZ C R4 ll (zf d1) λqY R5 _ e5=>?_)
       rw[uC (by decide)];exact A8 ⟨rfl,R5,λq hq=>(e5 q hq).trans (e4 q hq)⟩
     .rw[uC d1]
      exact A8 ⟨rfl,R4,e4⟩
    .rintro c st4 ⟨rfl,R4,e4⟩
     dsimp only;refine AQ (IG (AQ (IG (A8 ⟨lo+f,rfl,zd xl n1 nn c2 ef,w6 ef c1,?_⟩))));refine put (st4:=Ep st4 ((BQ st4).modify ((BQ st4).size-1) _)) ⟨⟨R4.ba.perm,R4.ba.kind,R4.ba.failed,R4.ba.all,R4.ba.di⟩,?_⟩ e4;show Ch rk (AX st4) ((BQ st4).modify ((BQ st4).size-1) _).toList 0 lo;rw[Sc];refine Ch.mod (f:=_) ?_ _ R4.ch;exact λ_=>⟨rfl,rfl⟩
  .rw[uC c2]
   refine AQ (KA ?_);have put:∀{st4:BM},Rn G rk κ a₀ lo st4->(∀q,lo<=q->(AX st4)[q]?=(AX be)[q]?)->Rn G rk κ a₀ (lo+n) (Ep st4 ((BQ st4).push (lo,n,0))):=λ{st4} R4 e4=>⟨⟨R4.ba.perm,R4.ba.kind,R4.ba.failed,R4.ba.all,R4.ba.di⟩,by
    rw[Kb];exact Ch.cut.mpr ⟨lo,R4.ch,rfl,n1,up.congr λq hq _=>e4 q hq,rfl⟩⟩
   cases hb:(BQ be).back? with
   | none =>
    dsimp only;exact AQ (IG (A8 ⟨lo+n,rfl,zg xl n1,zh nn c1,put R2 λ_ _=>rfl⟩))
   | some v =>
    obtain⟨s1,m1,q1⟩:=v;dsimp only;refine AQ (EH (DV (I:=λ_ c st4=>c=(uB,())/\Rn G rk κ a₀ lo st4/\∀q,lo<=q->(AX st4)[q]?=(AX be)[q]?) (Q:=λc st4=>c=(uB,())/\Rn G rk κ a₀ lo st4/\∀q,lo<=q->(AX st4)[q]?=(AX be)[q]?) ?_ (λ_ _ h=>h) ⟨rfl,R2,λ_ _=>rfl⟩) ?_)
    .rintro y c st4 _ _ ⟨rfl,R4,e4⟩
     refine AQ (KA ?_);by_cases d1:(BQ st4).size>1
     .rw[uD d1,Bn (show(BQ st4).size-2<(BQ st4).size from ze d1)]
      dsimp only;split
      .exact A8 ⟨rfl,R4,e4⟩
      .refine AQ (QZ C R4 ll (zf d1) λqY R5 _ e5=>?_)
       rw[uC (by decide)];exact A8 ⟨rfl,R5,λq hq=>(e5 q hq).trans (e4 q hq)⟩
     .rw[uC d1]
      exact A8 ⟨rfl,R4,e4⟩
    .rintro c st4 ⟨rfl,R4,e4⟩
     dsimp only;refine AQ (IG (AQ (IG (A8 ⟨lo+n,rfl,zg xl n1,zh nn c1,?_⟩))));refine put (st4:=Ep st4 ((BQ st4).modify ((BQ st4).size-1) _)) ⟨⟨R4.ba.perm,R4.ba.kind,R4.ba.failed,R4.ba.all,R4.ba.di⟩,?_⟩ e4;show Ch rk (AX st4) ((BQ st4).modify ((BQ st4).size-1) _).toList 0 lo;rw[Sc];refine Ch.mod (f:=_) ?_ _ R4.ch;exact λ_=>⟨rfl,rfl⟩
 .rintro c ah ⟨lo,rfl,xl,ll,R⟩
  have:lo=a₀.size:=by lia
  subst this;exact⟨rfl,R⟩
 .rintro c ah ⟨rfl,R⟩
  dsimp only;refine AQ (EH (DV (I:=λx c be=>c=(uB,())/\Rn G rk κ a₀ a₀.size be/\((BQ be).size<=1\/(BQ be).size+x<=a₀.size)) (Q:=λc be=>c=(uB,())/\Rn G rk κ a₀ a₀.size be/\(BQ be).size<=1) ?_ ?_ ⟨rfl,R,.inr ?_⟩) ?_)
  .rintro x c be _ xn ⟨rfl,R2,sz⟩
   refine AQ (KA ?_);by_cases d1:(BQ be).size<=1
   .rw[uD d1]
    exact A8 ⟨rfl,R2,d1⟩
   .rw[uC d1]
    refine AQ (QZ C R2 (AF _) ?_ λdk R3 z3 _=>?_)
    .exact EV (MR (AEr (m:=(BQ be).size-2) ve vn) 1) (by lia)
    .rw[uC (by decide)]
     exact A8 ⟨rfl,R3,by lia⟩
  .rintro c be ⟨rfl,R2,sz⟩
   exact⟨rfl,R2,by lia⟩
  .have:=R.ch.le
   simp at this;exact yI this
  .rintro c be ⟨rfl,R2,sz⟩
   refine A8 (h be R2.ba ?_);have ch:=R2.ch;cases e:(BQ be).toList with
   | nil =>
    rw[e] at ch;have z:0=a₀.size:=ch;intro i j _ _ hj;lia
   | cons v l =>
    rw[e] at ch;obtain⟨v1,v2,v3⟩:=v;have ln:l=[]:=by
     have:=congrArg FC e;simp at this;exact CO.mp (by lia)
    subst ln;obtain⟨_,_,u,z⟩:=ch;have z':=z;rw[<- z'];exact u
end TM
namespace SB
open PySem PySem.W PyProof.Rows
theorem Vn:∀{x y:uI},HT.lexLt x y=true->HT.lexLt y x=false
 | [],[],h=>by cases h
 | [],_::_,_=>rfl
 | _::_,[],h=>by cases h
 | a::x,b::y,h=>by
  rw[HT.Cm] at h ⊢;by_cases c:a=b
  .rw[uD c] at h
   rw[uD c.symm];exact Vn h
  .rw[uC c] at h
   rw[uC (Bi c)];have:=uG h;exact uF (xK this)
theorem Wn:∀{x y:uI},x≠y->HT.lexLt x y=false->HT.lexLt y x=true
 | [],[],n,_=>uH rfl n
 | [],_::_,_,h=>by cases h
 | _::_,[],_,_=>rfl
 | a::x,b::y,n,h=>by
  rw[HT.Cm] at h ⊢;by_cases c:a=b
  .rw[uD c] at h
   rw[uD c.symm];exact Wn (λe=>n (by rw[c,e])) h
  .rw[uC c] at h
   rw[uC (Bi c)];have:=of_decide_eq_false h;exact uE (by lia)
theorem Wu:∀{x y z:uI},HT.lexLt x y=true->HT.lexLt y z=true->HT.lexLt x z=true
 | [],[],_,h,_=>by cases h
 | [],_::_,[],_,h=>by cases h
 | [],_::_,_::_,_,_=>rfl
 | _::_,[],_,h,_=>by cases h
 | _::_,_::_,[],_,h=>by cases h
 | a::x,b::y,c::z,h,k=>by
  rw[HT.Cm] at h k ⊢;by_cases ab:a=b
  .rw[uD ab] at h
   by_cases bc:b=c
   .rw[uD bc] at k
    rw[uD (ab.trans bc)];exact Wu h k
   .rw[uC bc] at k
    rw[uC (λe=>bc (by lia))];have:=uG k;exact uE (by lia)
  .rw[uC ab] at h
   have h':=uG h;by_cases bc:b=c
   .rw[uD bc] at k
    rw[uC (by lia)];exact uE (by lia)
   .rw[uC bc] at k
    have k':=uG k;rw[uC (by lia)];exact uE (by lia)
def ACh{b fin:Bool}{Q:Bool->AC->Prop}{x y:uI}(hx:ItemsAre (LL prog w) x vs):∀{y:uI}{us:List AA} (i:Nat),ItemsAre (LL prog w) y us->fin=decide (x.length<y.length)->Q (HT.lexLt x y) s->KatLex prog w A b fin Q (vs.zip us) i s:=by
 induction hx with
 | nil =>
  intro y us i hy hf q;cases hy with
  | nil=>rw[hf];exact q
  | cons h1 t=>rw[hf];exact q
 | @cons k v ks vs' hk ht ih =>
  intro y us i hy hf q;cases hy with
  | nil=>rw[hf];exact q
  | @cons k' v' b9 us' a6 m3 =>
   rw[HT.Cm] at q;refine kat_cons ((LL prog w).eqBool hk a6 ?_);by_cases c:k=k'
   .rw[uD c] at q
    rw[uE c];refine kat_yes (ih (i+1) m3 ?_ q);rw[hf];simp
   .rw[uC c] at q
    rw[uF c];refine kat_no ?_;obtain⟨t1,rfl⟩:=G8 hk;obtain⟨t2,rfl⟩:=G8 a6;cases (b&&i==0) with
    | true =>
     rw[<- V5];exact kat_lt_int q
    | false=>exact kat_one _ _ (lt_int q)
def AHI{b:Bool}{x y:uI}{c:Addr}{Q:Bool->AC->Prop}(hx:IK prog w s.heap x a)(hy:IK prog w s.heap y c)(q:Q (HT.lexLt x y) s):wpAny (AN prog w) A (VI (tuples' b) (.ref a) (.ref c)) Q E s:=by
 obtain⟨ox,xs,n,gx,cx,dx,ix⟩:=hx;obtain⟨oy,ys,k,gy,cy,dy,iy⟩:=hy;refine kat_lt gx dx gy dy (ACh (x:=x) (y:=y) (us:=ys.toList) ix 0 iy ?_ q);have l1:=ix.length;have l2:=iy.length;rw[l1,l2,A1,A1]
structure Row(prog:AM)(w:AS)(h:Heap)(vs:List AA)(ks:List (uI×Addr)):Prop where
 vals:vs=ks.map λx=>A9 x.2
 keys:∀x∈ks,IK prog w h x.1 x.2
 full:∀x∈ks,x.1≠[]
 nd:(ks.map (·.1)).Nodup
noncomputable def ltK(ks:List (uI×Addr))(i j:Nat):Bool:=HT.lexLt (ks.getD i ([],0)).1 (ks.getD j ([],0)).1
section
def Row.tups(R:Row prog w h vs ks):∃fs,KatTups h vs fs/\fs.length=vs.length/\∀v∈fs,∃n t,v=NR n t:=by
 obtain⟨e,hk,hf,hn⟩:=R;clear hn;subst e
 induction ks with
 | nil=>exact⟨[],trivial,rfl,λv hv=>by cases hv⟩
 | cons x r ih =>
  obtain⟨fs,t,l,q⟩:=ih (λy hy=>hk y (AK _ hy)) (λy hy=>hf y (AK _ hy));obtain⟨o,xs,n,gx,cx,dx,ix⟩:=hk x AJ;have hx:=hf x AJ;obtain⟨xk,xa⟩:=x;cases hxs:xs.toList with
  | nil =>
   rw[hxs] at ix;cases ix;exact uH rfl hx
  | cons f ar =>
   have hf0:xs[0]?=uA f:=by rw[<- Cb,hxs];rfl
   have hi:=RQ ix f (by rw[hxs];exact AJ);refine⟨f::fs,KatTups.cons gx cx dx hf0 t,by simp[l],λv hv=>?_⟩;rcases AW.mp hv with rfl| hv
   .exact hi
   .exact q v hv
def perm_back{f:α->β}{l m:List β}(p:l.Perm m):∀ks:List α,m=ks.map f->∃b9:List α,b9.Perm ks/\l=b9.map f:=by
 induction p with
 | nil =>
  intro ks e;cases ks with
  | nil=>exact⟨[],.refl _,rfl⟩
  | cons _ _=>cases e
 | @cons x l1 l2 _ ih =>
  intro ks e;cases ks with
  | nil=>cases e
  | cons k r =>
   rw[B8] at e;obtain⟨e1,e2⟩:=R6 e;obtain⟨r',p',e'⟩:=ih r e2;exact⟨k::r',p'.cons k,by rw[B8,e1,e']⟩
 | swap x y l1 =>
  intro ks e
  match ks,e with
  | [],e=>cases e
  | [_],e=>simp at e
  | a::b::r,e =>
   rw[B8,B8] at e;obtain⟨e1,e2⟩:=R6 e;obtain⟨e3,e4⟩:=R6 e2;exact⟨b::a::r,LP ..,by rw[B8,B8,e1,e3,e4]⟩
 | trans _ _ qH tD =>
  intro ks e;obtain⟨k2,p2,e2⟩:=tD ks e;obtain⟨k1,p1,e1⟩:=qH k2 e2;exact⟨k1,p1.trans p2,e1⟩
def QB{ks:uI}(h:ItemsAre (LL prog w) ks us):ks=us.map numOf:=by
 induction h with
 | nil=>rfl
 | cons h1 _ ih =>
  obtain⟨t,e⟩:=G8 h1;rw[B8,<- ih,e];rfl
def AHo{k k':uI}(x:IK prog w h k a)(y:IK prog w h k' a):k=k':=by
 obtain⟨o,items,n,ho,_,hd,hi⟩:=x;obtain⟨o',items',n',eh,_,cr,br⟩:=y;rw[ho] at eh;cases eh;rw[hd] at cr;cases cr;rw[QB hi,QB br]
set_option tactic.hygienic true in
theorem KQ{α:Type}{p q:α->Bool}:∀{l:List α}{x:α},(∀y∈l,p y=true->q y=true)->x∈l->p x=false->q x=true->(l.filter p).length<(l.filter q).length
 | [],x,_,h,_,_=>by cases h
 | a::l,x,hs,hx,px,qx=>by
  have le:∀{m:List α},(∀y∈m,p y=true->q y=true)->(m.filter p).length<=(m.filter q).length:=λ{m}=>by
   induction m with
   | nil=>exact λ_=>AF _
   | cons b m ih =>
    intro hm;have:=ih λy hy=>hm y (AK _ hy);rw[EF,EF];have hb:=hm b (AJ ..);split
    .rename_i pb
     rw[uD (hb pb)];simp;exact this
    .split
     .simp;exact u4 this
     .exact this
  have hl:=le λy hy=>hs y (AK _ hy);rw[EF,EF];rcases AW.mp hx with rfl| hx
  .rw[uC (by rw[px];decide),uD qx]
   simp;exact wI hl
  .have ih:=KQ (λy hy=>hs y (AK _ hy)) hx px qx
   have ha:=hs a (AJ ..);split
   .rename_i pa
    rw[uD (ha pa)];simp;exact ih
   .split
    .simp;exact uW ih
    .exact ih
noncomputable def cntK(ks:List (uI×Addr))(k:uI):Int:=((ks.filter λy=>HT.lexLt y.1 k).length:Int)
open Classical in
noncomputable def rkK(ks:List (uI×Addr))(x:AH):Int:=if h:∃i,i<ks.length/\x.1=A9 (ks.getD i ([],0)).2 then cntK ks (ks.getD (Fu h) ([],0)).1 else 0
noncomputable def itK(ks:List (uI×Addr))(i:Nat):AH:=(A9 (ks.getD i ([],0)).2,A9 (ks.getD i ([],0)).2)
def SX{a b:uI}(ha:a∈ks.map (·.1))(h:HT.lexLt a b=true):cntK ks a<cntK ks b:=by
 obtain⟨x,hx,rfl⟩:=A7.mp ha;unfold cntK;have:=KQ (p:=λy:uI×Addr=>HT.lexLt y.1 x.1) (q:=λy=>HT.lexLt y.1 b) (l:=ks) (x:=x) (λy _ e=>Wu e h) hx (by
  cases c:HT.lexLt x.1 x.1 with
  | false=>rfl
  | true=>have:=Vn c;rw[c] at this;cases this) h
 exact uz this
end
def QX{p:Array Nat}(P:PP n p):p.toList.Perm (AR n):=by
 refine SB.Hf ?_ (λx hx=>?_) (by rw[Cf,A1,P.size];exact AF _)
 .refine CL.mpr λi j hi hj iE e=>?_
  have br:i<n:=by rw[<- P.size];simpa using hi
  have bu:j<n:=by rw[<- P.size];simpa using hj
  have kK:i<p.size:=by simpa using hi
  have hj2:j<p.size:=by simpa using hj
  have:=P.inj i j br bu (by simpa [g,ED,kK,hj2] using e);exact vd iE this
 .obtain⟨i,hi,rfl⟩:=C4.mp hx
  have kK:i<p.size:=by simpa using hi
  have:=P.lt i (by rw[<- P.size];exact kK);refine AZ.mpr ?_;simpa [g,ED,kK] using this
section
variable{es:Array (Int×AA)}{t:Db}
def UJ{Q:List AA->AC->Prop}(hh:A.handled=uB)(ho:s.heap.get? S=uA o)(dS:o.ExactSet)(hd:o.data=.set es ep t)(T:Tab t)(hl:es.size=t.place.size)(hp:t.plain=true)(cf:t.led=ledOf w)(l8:es.size<=301)
  (q:∀(h':Heap) (tk:Nat) (acc:Array AA),(∀b ob,s.heap.get? b=uA ob->h'.get? b=uA ob)->s.heap.objs.size<=h'.objs.size->acc.toList.map (λv=>v)=(ord w S ep es).toList.map (·.2)->Q acc.toList {s with heap:=h',toks:=tk}) :
  wpAny (AN prog w) A (QI (.ref S)) Q E s:=by
 unfold QI;refine Au (NH (EA N2 ?_));rw[EB N3 _];refine Au (DU ?_);refine AE ⟨JJ IY _,EA Po ?_⟩;rw[EB IY _];have gD:(s.heap.push {cls:=.type "list",data:=.seq ([]:List AA).toArray}).get? s.heap.objs.size=uA {cls:=.type "list",data:=.seq #[] 0}:=A2 _ rfl;have i6:∀(h':Heap) (tk:Nat) (ay:Array AA) (c':Nat),(∀b ob,b≠s.heap.objs.size->(s.heap.push {cls:=.type "list",data:=.seq ([]:List AA).toArray}).get? b=uA ob->h'.get? b=uA ob)->h'.get? s.heap.objs.size=uA {cls:=.type "list",dict:=uB,data:=.seq ay c',slots:=#[]} ->
   ItemsOf (λi v=>∃e,(ord w S ep es)[i]?=uA e/\v=e.2) ay es.size->wpAny (AN prog w) A (match A9 s.heap.objs.size with
   | A9 a=>do
    match (<- load a).data with
     | UE xs _=>pure xs.toList
     | _=>unsupported "internal:collect"
   | _=>unsupported "internal:collect") Q E {s with heap:=h',toks:=tk}:=λh' tk ay c' hk dC aE=>by
  refine Au (Q6 dC ?_);refine AE ?_;refine q h' tk ay (λb ob e=>hk b ob (BY (BH e)) (AL _ e)) (C1 (BH dC)) ?_;rw[X5];apply Hc;intro i;rw[AU,Cb,Cb];by_cases c:i<es.size
  .have c1:i<ay.size:=by rw[aE.1];exact c
   obtain⟨e,ge,ev⟩:=aE.2 i _ (Bn c1);rw[Bn c1,ge,ev];rfl
  .rw[E3 (by rw[aE.1];exact uN c),E3 (by rw[Mx];exact uN c)]
   rfl
 refine EI (Ve (A:=A) (R:=λr s'=>∃h' tk ay c',r=.ok (.ret (.ref s.heap.objs.size))/\s'={s with heap:=h',toks:=tk}/\(∀b ob,b≠s.heap.objs.size->(s.heap.push {cls:=.type "list",data:=.seq ([]:List AA).toArray}).get? b=uA ob->h'.get? b=uA ob)/\h'.get? s.heap.objs.size=uA {cls:=.type "list",dict:=uB,data:=.seq ay c',slots:=#[]}/\ItemsOf (λi v=>∃e,(ord w S ep es)[i]?=uA e/\v=e.2) ay es.size)
  (s:={s with heap:=s.heap.push {cls:=.type "list",data:=.seq ([]:List AA).toArray}}) hh (AL _ ho) dS hd T hl hp cf l8 s.heap.objs.size (.ref s.heap.objs.size) 0 gD λh' tk ay c' hk dC aE=>⟨h',tk,ay,c',rfl,rfl,hk,dC,aE⟩) (λfin s' h=>?_) (λe s' h=>?_)
 .cases fin with
  | done f =>
   obtain⟨h',tk,ay,c',e,rfl,hk,dC,aE⟩:=h;cases e;exact i6 h' tk ay c' hk dC aE
  | again c'=>exact⟨h.1,FM h.2 λr tT hr=>by obtain⟨h',tk,ay,c',rfl,rfl,hk,dC,aE⟩:=hr;exact i6 h' tk ay c' hk dC aE⟩
 .obtain⟨_,_,_,_,e,_⟩:=h
  cases e
end
end SB
namespace SB
open PySem PySem.SetTable
section
set_option tactic.hygienic true in
theorem AAo{R:UT->AC->Prop}{G:Array T4->Array T4->Prop}{P:Nat->AA->Prop}{St:Nat->AC->Prop}
  (W:WalksS prog w A.in1 I fp wr G n P St) (S:Addr) (hSf:S∉fp) (vals:Nat->uI×Addr) (hP:∀i v,P i v->v=.ref (vals i).2) (hn:∀ks:List (uI×Addr),(∀x∈ks,∃j,j<n/\x=vals j)->(ks.map (·.1)).Nodup->ks.length<=300) (rD:∀i,i<n->(vals i).2∉S::wr) (hu:A.in1.units<C2)
  (hR:∀s' bn t' b9,TS prog w s'.heap S bn t' b9->Of vals n b9->Moved (S::wr) G s s'->R (.ok (.ret .none)) s') :
  ∀(k i:Nat) (s₁:AC) (es:Array (Int×AA)) (t:Db) (ks:List (uI×Addr)),n-i=k->i<=n->St i s₁->TS prog w s₁.heap S es t ks->(∀j,j<n->IK prog w s₁.heap (vals j).1 (vals j).2)->Of vals i ks->Moved (S::wr) G s s₁ ->
   codeAny (AN prog w) A (.builtin "set.update.loop" ⟨[.ref S,.ref I],[]⟩) R s₁:=by
 have nSw:S∉wr:=λh=>hSf (W.sub _ h);have inS:∀b∈wr,b∈S::wr:=λb hb=>AK _ hb;intro k
 induction k with
 | zero =>
  intro i s₁ es t ks hk hi dE X hK O mv;obtain rfl:i=n:=xr hi hk;refine EA LJ ?_;rw[EB HV _];show wpAny _ A.in1 (L8 (.ref I) >>= _) _ _ s₁;refine Au (W.done s₁ _ _ dE λs₂ m2=>?_);show wpAny _ A.in1 (ret DE) _ _ s₂;exact AE (hR s₂ es t ks (Ym X λo e=>m2.heap S o nSw e) O (YE W.gtrans mv (m2.mono inS)))
 | succ k ih =>
  intro i s₁ es t ks hk hi dE X hK O mv;have lt:i<n:=xp hk;refine EA LJ ?_;rw[EB HV _];show wpAny _ A.in1 (L8 (.ref I) >>= _) _ _ s₁;refine Au (W.item i s₁ _ _ lt dE λv s₂ pv be m2=>?_);obtain rfl:=hP i v pv;have X2:TS prog w s₂.heap S es t ks:=Ym X λo e=>m2.heap S o nSw e;have hK2:∀j,j<n->IK prog w s₂.heap (vals j).1 (vals j).2:=λj hj=>IV (hK j hj) λo e=>m2.heap _ o (λz=>rD j hj (inS _ z)) e;show wpAny _ A.in1 (NE [A9 (vals i).2] (setAdd S (.ref (vals i).2)) >>= _) _ _ s₂;refine Au (Ee (AGU X2 (λx hx=>?_) (hK2 i lt) hu (hn ks (λx hx=>let ⟨j,hj,e⟩:=O.sub x hx;⟨j,uP hj lt,e⟩) X2.nd) λb h' bn t' b9 sb X' ad=>?_))
  .obtain⟨j,hj,rfl⟩:=O.sub x hx
   exact hK2 j (uP hj lt)
  .refine AE ⟨JJ HV _,ih (i+1) _ bn t' b9 (xq hk) lt (W.frame _ s₂ _ _ be (HI _ _) λb hb o e=>?_) X' (λj hj=>IV (hK2 j hj) λo e=>?_) (O.next ad) ?_⟩
   .rw[sb.2 b (λ(z:b=S)=>hSf (by rw[<- z];exact hb))]
    exact e
   .rw[sb.2 _ (λ(z:(vals j).2=S)=>rD j hj (by rw[z];exact AJ))]
    exact e
   .refine YE W.gtrans mv ((m2.mono inS).then_heap (HI _ _) λb o hb e=>?_)
    rw[sb.2 b (λ(z:b=S)=>hb (by rw[z];exact AJ))];exact e
end
def AEH(hh:A.handled=uB)(hu:A.units+6<C2)(hl:s.heap.IsList l items)(hv:∀(i:Nat) (v:AA),items[i]?=uA v->v=A9 (vals i).2)
  (hK:∀j,j<items.size->IK prog w s.heap (vals j).1 (vals j).2) (l8:∀ks:List (uI×Addr),(∀x∈ks,∃j,j<items.size/\x=vals j)->(ks.map (·.1)).Nodup->ks.length<=300)
  (q:∀h' tk es t ks,TS prog w h' s.heap.objs.size es t ks->Of vals items.size ks->(∀b o,s.heap.get? b=uA o->h'.get? b=uA o)->Q (.ref s.heap.objs.size) {s with heap:=h',toks:=tk}) :
  wpAny (AN prog w) A (call (.type "set") [.ref l]) Q E s:=by
 obtain⟨c,tl,hmro⟩:=IS.mro;have made:=IS.made;have ssub:=IS.sub;have nt:=IS.notType;have cc:=IS.canCreate;have tc:=F.typeCall_set_1 (.ref l);refine UU (U6 ?_);show wpAny _ _ (callAny (.type "set") _) _ _ _;refine AE ⟨SG _ (by decide+kernel),EA F.entry_type_call ?_⟩;rw[Around.under_plain (weight_type_call_type "set" [.ref l] []) rfl]
 repeat (any_goals (first| assumption| wp_step))
 refine FM (ACP (.ref l) (E:=E) (Q₁:=λobj s₁=>∃led:Bool,led=ledOf w/\obj=.ref s.heap.objs.size/\s₁={s with heap:=s.heap.push {cls:=.type "set",dict:=uB,data:=.set #[] 0 (.fresh 0 0 led)}}) ⟨_,rfl,rfl,rfl⟩) λr s₁ hr=>?_;cases r with
 | error e=>exact hr
 | ok fl =>
  cases fl with
  | ret obj =>
   obtain⟨led,cf,rfl,rfl⟩:=hr;have gS:(s.heap.push {cls:=.type "set",dict:=uB,data:=.set #[] 0 (.fresh 0 0 led)}).get? s.heap.objs.size=uA {cls:=.type "set",dict:=uB,data:=.set #[] 0 (.fresh 0 0 led)}:=A2 _ rfl;have tS:WG {s with heap:=s.heap.push {cls:=.type "set",dict:=uB,data:=.set #[] 0 (.fresh 0 0 led)}} (.ref s.heap.objs.size) "set":=⟨_,gS,rfl⟩;have il:=IS.init.lookup;have ib:=IS.init.bind (.ref s.heap.objs.size)
   repeat (any_goals (first| assumption| wp_step))
   refine FM (codeAny_call_builtin (R:=wants (λr s₂=>r=.none/\∃h' tk es t ks,s₂={s with heap:=h',toks:=tk}/\TS prog w h' s.heap.objs.size es t ks/\Of vals items.size ks/\(∀b o,s.heap.get? b=uA o->h'.get? b=uA o)) E) IS.init.plain F.entry_set_init (check_set_init_1 tS ?_)) λr₂ s₂ hr₂=>?_
   .obtain⟨⟨ocls,tK,odata,qB⟩,iL,ir,nl,qP⟩:=id hl
    simp only at ir qP;subst ir qP;have hol2:(s.heap.push {cls:=.type "set",dict:=uB,data:=.set #[] 0 (.fresh 0 0 led)}).get? l=uA {cls:=.type "list",dict:=tK,data:=.seq items nl,slots:=qB}:=AL _ iL;have s1:=F.sub_list_set;have s2:=F.sub_list_frozenset;have s3:(C3 "list" == C3 "dict")=false:=by decide
    have du:(s.heap.push {cls:=.type "set",dict:=uB,data:=.set #[] 0 (.fresh 0 0 led)}).IsList l items:=⟨_,hol2,rfl,nl,rfl⟩;unfold Builtin.«set.__init__» noKeywords V6;generalize hPI:QA=PI
    wp_walk
    subst hPI;refine OB du ?_;refine Au (NH ?_);have ll:l<s.heap.objs.size:=BH iL;have h3:A.in1.in1.in1.handled=uB:=by simp[hh]
    have nI:l≠(s.heap.push {cls:=.type "set",dict:=uB,data:=.set #[] 0 (.fresh 0 0 led)}).objs.size:=by
     rw[FY];exact BY (Ki ll)
    have nS:s.heap.objs.size∉[(s.heap.push {cls:=.type "set",dict:=uB,data:=.set #[] 0 (.fresh 0 0 led)}).objs.size,l]:=by
     rw[FY];simp only[AW,B2,Da,or_false,not_or];exact⟨BY (Fk _),W8 ll⟩
    have lows:∀j,j<items.size->(vals j).2<s.heap.objs.size:=λj hj=>by
     obtain⟨o,_,_,ho,_⟩:=hK j hj;exact BH ho
    have kC:∀(x:Obj) b o,s.heap.get? b=uA o->((s.heap.push {cls:=.type "set",dict:=uB,data:=.set #[] 0 (.fresh 0 0 led)}).push x).get? b=uA o:=λx b o e=>AL _ (AL _ e);refine AAo (s:=_) ((YV h3 _ l nI items).toS) s.heap.objs.size nS vals hv l8 (λj hj z=>?_) ?_ (λs' bn t' b9 X' O' mv=>?_) (items.size-0) 0 _ #[] (.fresh 0 0 led) [] (by lia) (By _)
     ⟨⟨_,A2 _ rfl,rfl,rfl⟩,(du.push _)⟩ (ACX cf (AL _ gS)) (λj hj=>IV (hK j hj) λo e=>kC _ _ _ e) ⟨λx hx=>(by cases hx),λj hj=>uH hj u7,AF _⟩ (Moved.refl λ_=>rfl)
    .have:=lows j hj
     rw[FY] at z;simp only[AW,B2,Da,or_false] at z;rcases z with z| z
     .exact uH z (BY this)
     .exact uH z (BY (Ki this))
    .show A.units+1+1+1<C2
     lia
    .obtain⟨h',g',d',tk',os'⟩:=s'
     have eg:g'=s.gens:=mv.gens;have ed:d'=s.drawn:=mv.drawn;have eo:os'=s.os:=mv.os;subst eg ed eo;show wpAny _ _ _ _ _ _;refine AE ?_;show wpAny _ _ (ret DE) _ _ _;refine AE ⟨rfl,h',tk',bn,t',b9,rfl,X',O',λb o e=>?_⟩;have hb:=BH e;refine mv.heap b o ?_ (kC _ b o e);rw[FY];simp only[AW,B2,Da,or_false,not_or];exact⟨BY hb,BY (Ki hb)⟩
   .cases r₂ with
    | error e=>exact hr₂
    | ok fl₂ =>
     cases fl₂ with
     | ret r =>
      obtain⟨rfl,h',tk,es,t,ks,rfl,X',O',kp⟩:=hr₂
      repeat (any_goals (first| assumption| wp_step))
      exact q _ _ _ _ _ X' O' kp
     | _=>exact hr₂.elim
  | _=>exact hr.elim
end SB
namespace L2
open PySem PySem.Spec PyProof.Rows
def ik_ofB(I:Inv X aa σ H s)(h:SqT X.K H b (ns.map V.int)):SB.IK X.prog X.w s.heap ns b:=by
 obtain⟨ag,r,⟨o,ho,hc,n,hd⟩,_⟩:=I.tuple h;exact⟨o,ag.toArray,n,ho,hc,hd,by simpa using Tn r⟩
end L2
namespace SB
open PySem PySem.W PyProof.Rows
structure RowE(prog:AM)(w:AS)(h:Heap)(vs:List AA)(ks:List (uI×Addr)):Prop where
 vals:vs=ks.map λx=>A9 x.2
 keys:∀x∈ks,IK prog w h x.1 x.2
 nd:(ks.map (·.1)).Nodup
def RowE.tot(R:RowE prog w h vs ks):Tot ks.length (ltK ks):=by
 have ne:∀i j,i<ks.length->j<ks.length->i≠j->(ks.getD i ([],0)).1≠(ks.getD j ([],0)).1:=λi j hi hj iE e=>by
  have r:=CL.mp R.nd;have g1:(ks.getD i ([],0)).1=(ks.map (·.1))[i]'(by simpa using hi):=by simp[AD,hi]
  have g2:(ks.getD j ([],0)).1=(ks.map (·.1))[j]'(by simpa using hj):=by simp[AD,hj]
  rw[g1,g2] at e;rcases Nat.lt_or_gt_of_ne iE with c| c
  .exact r i j _ _ c e
  .exact r j i _ _ c e.symm
 exact⟨λi j hi hj iE e=>Wn (ne i j hi hj iE) e,λi j _ _ e=>Vn e,λi j k _ _ _ e1 e2=>Wu e1 e2⟩
def ACn(h:ItemsAre (LL prog w) ns vs):F0 vs ns:=by
 induction h with
 | nil=>exact .nil
 | cons h1 _ ih =>
  obtain⟨t,rfl⟩:=G8 h1;exact .cons _ t ih
def Qw{x:uI}(hx:IK prog w s.heap x a):∃items:Array AA,S7 s.heap a items/\F0 items.toList x:=by
 obtain⟨o,xs,n,g,c,d,i⟩:=hx;exact⟨xs,⟨o,g,c,n,d⟩,ACn i⟩
def La(x y:AA):VI UI x y=oneLt' false x y:=rfl
def AGH{x y:uI}{c:Addr}{Q:Bool->AC->Prop}(hu:A.units<C2)(hx:IK prog w s.heap x a)(hy:IK prog w s.heap y c)(q:Q (HT.lexLt x y) s):wpAny (AN prog w) A (VI UI (.ref a) (.ref c)) Q E s:=by
 obtain⟨i1,t1,j1⟩:=Qw hx;obtain⟨i2,t2,j2⟩:=Qw hy;rw[La];exact kat_one _ _ (HT.Wj t1 t2 j1 j2 hu q)
def AGZ{x y:uI}{c:Addr}{Q:Bool->AC->Prop}(hu:A.units<C2)(hx:IK prog w s.heap x a)(hy:IK prog w s.heap y c)(q:Q (HT.lexLt x y) s):wpAny (AN prog w) A (VI oneType' (.ref a) (.ref c)) Q E s:=by
 obtain⟨i1,t1,j1⟩:=Qw hx;obtain⟨i2,t2,j2⟩:=Qw hy;obtain⟨⟨cls,dd,data,sl⟩,ho,hc,n,hd⟩:=id t1;obtain⟨⟨l7,h9,W4,iq⟩,fe,ft,n2,dP⟩:=id t2;simp only at hc hd ft dP;subst hc hd ft dP;rw[V5,oneLt'_eq];refine Au (wpAny_cRoomFor hu ?_);refine Au (wpAny_callSpecialIfBound?_slot (T:="tuple") ⟨_,ho,rfl⟩ ME ?_);exact OL ME ⟨_,ho,rfl⟩ P5 (Pf _ _) (HT.Ig a c i1 i2 n n2 dd h9 sl iq x y j1 j2) ⟨ho,fe,G9 q⟩
theorem Pq:∀(ks:List (uI×Addr)) {Q:List (Option AA)->AC->Prop},(∀x∈ks,IK prog w s.heap x.1 x.2)->(∀fs:List (Option AA),fs.map (·.isSome)=ks.map (λx=>!x.1.isEmpty)->Q fs s)->wpAny (AN prog w) A ((ks.map λx=>A9 x.2).mapM firstOfTuple') Q E s
 | [],_,_,h=>by rw[Lv,List.mapM_nil];exact AE (h [] rfl)
 | x::ks,Q,hk,h=>by
  obtain⟨o,xs,n,ho,hc,hd,hi⟩:=hk x AJ;rw[B8,List.mapM_cons];refine Au ?_;rw[kas_first_eq];refine Au (YY ((ZB ho).andThen .now) ?_);rw[hc,uC (by first| decide| simp)];refine Au (O2 ho hd (AE ?_));refine Au (Pq ks (Q:=λbs s'=>wpAny (AN prog w) A (pure (xs[0]?::bs)) Q E s') (λy hy=>hk y (AK _ hy)) λfs qX=>AE (h _ ?_));rw[B8,B8,qX]
  congr 1
  have l:=hi.length;rw[A1] at l;by_cases e:x.1=[]
  .rw[e] at l ⊢
   rw[E3 (by simp at l;exact vb l)];rfl
  .have:0<xs.size:=by
    have:=IX.mpr e;exact vF this l
   rw[Bn this];cases hx:x.1 with
   | nil=>exact uH hx e
   | cons a b=>rfl
def ADp{Q:ES->AC->Prop}(hk:∀x∈ks,IK prog w s.heap x.1 x.2)(he:∃x∈ks,x.1=[])(q1:Q UI s)(q2:Q oneType' s):wpAny (AN prog w) A (keyKind' (ks.map λx=>A9 x.2).toArray) Q E s:=by
 rw[kat_kind_eq,Tx,map_eq_pure_bind];refine Au (Au (Pq ks hk λfs qX=>AE ?_));have bp:¬ ((fs.toArray.all λx=>x.isSome)=true):=λh=>by
  obtain⟨x,hx,ex⟩:=he;obtain⟨i,hi,gx⟩:=Se hx;have l:fs.length=ks.length:=by simpa using congrArg FC qX
  have z:(fs.map (·.isSome))[i]?=(ks.map (λx=>!x.1.isEmpty))[i]?:=by rw[qX]
  have kK:i<fs.length:=dl hi l;rw[AU,AU,AI hi,AI kK,gx] at z;have z':fs[i].isSome=false:=by simpa [ex] using z
  have:=EW.mp (by simpa using h) fs[i] (FA kK);rw[z'] at this;exact uH this (by decide)
 rw[uC bp];refine wpAny_ite ?_;split
 .exact AE q1
 .rw[oneTypeOnly'_eq,Tx,map_eq_pure_bind]
  refine Au (Au (Au (kas_mapM (r:=C3 "tuple") _ (λv hv Q' hq=>?_) (AE ?_))))
  .obtain⟨x,hx,rfl⟩:=A7.mp hv
   obtain⟨o,xs,n,ho,hc,hd,hi⟩:=hk x hx;refine YY ((ZB ho).andThen .now) ?_;rw[hc];exact hq
  .have tu:∀T:AA,(T==T)=true->((List.map (λ_=>T) (ks.map λx=>A9 x.2)).toArray.all λx=>x==T)=true:=λT hT=>by
    simp only[List.all_toArray,S4,EW];intro _ _;exact hT
   have h0:(List.map (λ_=>C3 "tuple") (ks.map λx=>A9 x.2)).toArray[0]?=uA (C3 "tuple"):=by
    obtain⟨x,hx,_⟩:=he;cases ks with
    | nil=>cases hx
    | cons a b=>simp
   rw[h0];simp only[tu (C3 "tuple") (by decide),if_true];exact AE (AE q2)
def KOk(prog:AM)(w:AS)(κ:ES):Prop:=∀(A:B0) (E:AA->AC->Prop) (s:AC) (x y:uI) (a c:Addr) (Q:Bool->AC->Prop),A.units<C2->IK prog w s.heap x a->IK prog w s.heap y c->Q (HT.lexLt x y) s ->
 wpAny (AN prog w) A (VI κ (.ref a) (.ref c)) Q E s
def kind_any{Q:ES->AC->Prop}(R:RowE prog w s.heap vs ks)(h2:2<=ks.length)(q:∀κ,KOk prog w κ->Q κ s):wpAny (AN prog w) A (keyKind' vs.toArray) Q E s:=by
 by_cases c:∃x∈ks,x.1=[]
 .rw[R.vals]
  exact ADp R.keys c (q _ λA E s x y a c Q hu hx hy h=>AGH hu hx hy h) (q _ λA E s x y a c Q hu hx hy h=>AGZ hu hx hy h)
 .have R':Row prog w s.heap vs ks:=⟨R.vals,R.keys,λx hx e=>c ⟨x,hx,e⟩,R.nd⟩
  obtain⟨fs,kt,lf,qX⟩:=R'.tups;have lk:ks.length=vs.length:=by rw[R.vals,AB]
  exact kat_kind (T:=.type "int") kt (by lia) (λv hv=>by obtain⟨n,t,rfl⟩:=qX v hv;exact Looks.of_pure rfl) (by decide) (q _ λA E s x y a c Q hu hx hy h=>AHI hx hy h)
def Zw(R:RowE prog w h vs ks)(e:∀x∈ks,∀o,h.get? x.2=uA o->h'.get? x.2=uA o):RowE prog w h' vs ks:=⟨R.vals,λx hx=>IV (R.keys x hx) λo=>e x hx o,R.nd⟩
def RowE.key(R:RowE prog w h vs ks)(hi:i<ks.length):IK prog w h (ks.getD i ([],0)).1 (ks.getD i ([],0)).2:=by
 have e:ks.getD i ([],0)=ks[i]:=by simp[AD,hi]
 rw[e];exact R.keys _ (FA hi)
def RowE.rk(R:RowE prog w h vs ks)(hi:i<ks.length):rkK ks (itK ks i)=cntK ks (ks.getD i ([],0)).1:=by
 have ex:∃j,j<ks.length/\(itK ks i).1=A9 (ks.getD j ([],0)).2:=⟨i,hi,rfl⟩;unfold rkK;rw[dif_pos ex];obtain⟨hj,ej⟩:=F3 ex;have ea:(ks.getD i ([],0)).2=(ks.getD (Fu ex) ([],0)).2:=by
  have:A9 (ks.getD i ([],0)).2=A9 (ks.getD (Fu ex) ([],0)).2:=ej;injection this
 have k1:=R.key hi;have k2:=R.key hj;rw[<- ea] at k2;rw[AHo k1 k2]
def RowE.rk_lt(R:RowE prog w h vs ks)(hi:i<ks.length)(hj:j<ks.length):decide (rkK ks (itK ks i)<rkK ks (itK ks j))=ltK ks i j:=by
 rw[R.rk hi,R.rk hj];have mk:∀{i:Nat},i<ks.length->(ks.getD i ([],0)).1∈ks.map (·.1):=λ{i} hi=>Hm (by
  have e:ks.getD i ([],0)=ks[i]:=by simp[AD,hi]
  rw[e];exact FA hi)
 unfold ltK;cases c:HT.lexLt (ks.getD i ([],0)).1 (ks.getD j ([],0)).1 with
 | true=>exact uE (SX (mk hi) c)
 | false =>
  refine uF ?_;by_cases e:(ks.getD i ([],0)).1=(ks.getD j ([],0)).1
  .rw[e];exact R7 _
  .have:=SX (ks:=ks) (mk hj) (Wn e c)
   exact xK this
def AAP(hκ:KOk prog w κ)(hu:A.units<C2)(R:RowE prog w s.heap vs ks) :
  wpAny (AN prog w) A (sortRuns'.run (J2 κ (vs.toArray.zip vs.toArray) #[] 7 uB)) (λr s'=>s'=s/\∃p:Array Nat,PP ks.length p/\Up (ltK ks) p ks.length/\AX r.2=p.map (X6 (vs.toArray.zip vs.toArray))/\G1 r.2=uB) E s:=by
 have lk:ks.length=vs.length:=by rw[R.vals,AB]
 have T:=R.tot;have gi:∀i,i<ks.length->X6 (vs.toArray.zip vs.toArray) i=itK ks i:=λi hi=>by
  rw[kat_item rfl];unfold itK;rw[R.vals];simp[AD,hi]
 have e0:(vs.toArray.zip vs.toArray).toList=(AR ks.length).map (itK ks):=by
  have:=congrArg Su (kas_range (vs.toArray.zip vs.toArray));rw[<- this,O8,show(vs.toArray.zip vs.toArray).size=ks.length by rw[lk];simp];exact Hn λi hi=>gi i (AZ.mp hi)
 have C:TM.Cmp prog w A E s κ (λx=>∃i,i<ks.length/\x=itK ks i) (rkK ks):=by
  rintro x y ⟨i,hi,ex⟩ ⟨j,hj,ey⟩ st Q kd q;subst ex ey;rw[lt'_eq];refine AQ (KA ?_);rw[kd];refine AQ (NL (Op (hκ _ _ _ _ _ _ _ _ hu (R.key hi) (R.key hj) ⟨rfl,?_⟩)));rw[R.rk_lt hi hj] at q;exact A8 q
 have al:TM.Al (λx=>∃i,i<ks.length/\x=itK ks i) (vs.toArray.zip vs.toArray):=λi x e=>by
  rw[<- Cb,e0,AU] at e;cases g:(AR ks.length)[i]? with
  | none=>rw[g] at e;cases e
  | some k =>
   rw[g] at e;have hk:=AZ.mp (AT g);exact⟨k,hk,(AO e).symm⟩
 have di:TM.Di (rkK ks) (vs.toArray.zip vs.toArray):=by
  unfold TM.Di;rw[e0,G0];unfold LN;rw[C0];refine EQ (λ{i j} hi hj ij e=>?_) HL;have br:=AZ.mp hi;have bu:=AZ.mp hj;have e':rkK ks (itK ks i)=rkK ks (itK ks j):=e;have z1:=R.rk_lt br bu;have z2:=R.rk_lt bu br;rw[e',uF (R7 _)] at z1;rw[e',uF (R7 _)] at z2;have:=T.or i j br bu ij z1.symm;rw[<- z2] at this;cases this
 have W:=TM.Nr C (st:=J2 κ (vs.toArray.zip vs.toArray) #[] 7 uB) (a₀:=vs.toArray.zip vs.toArray) ⟨VA _,rfl,rfl,al,di⟩ rfl
  (Q:=λ_ ah=>∃p:Array Nat,PP ks.length p/\Up (ltK ks) p ks.length/\AX ah=p.map (X6 (vs.toArray.zip vs.toArray))/\G1 ah=uB) λah B up=>by
  have pm:=IA.mp B.perm;rw[e0] at pm;obtain⟨l,pl,el⟩:=perm_back pm (AR ks.length) rfl;have ll:l.length=ks.length:=by rw[pl.length_eq,Cf]
  have lt:∀{k:Nat},k<ks.length->g l.toArray k<ks.length/\l[k]?=uA (g l.toArray k):=λ{k} hk=>by
   have a6:k<l.length:=dl hk ll;have e:g l.toArray k=l[k]:=by unfold g;simp[ED,a6]
   rw[e];exact⟨AZ.mp (pl.mem_iff.mp (FA a6)),AI a6⟩
  have nd:=pl.nodup_iff.mpr HL;have at_:∀{k:Nat},k<ks.length->TM.N (rkK ks) (AX ah) k=rkK ks (itK ks (g l.toArray k)):=λ{k} hk=>by
   unfold TM.N;rw[<- Cb,el,AU,(lt hk).2];rfl
  have sz:(vs.toArray.zip vs.toArray).size=ks.length:=by rw[lk];simp
  refine⟨l.toArray,⟨by simpa using ll,λk hk=>(lt hk).1,λk k' hk a6 e=>?_⟩,λx y xy hy=>?_,?_,B.failed⟩
  .have a1:=(lt hk).2
   have a2:=(lt a6).2;rw[<- e] at a2;exact(J9 (dl hk ll) nd).mp (a1.trans a2.symm)
  .have hx:x<ks.length:=uP xy hy
   have u:=up x y (By _) (vO xy) (by rw[sz];exact hy);rw[at_ hx,at_ hy] at u;cases c:ltK ks (g l.toArray x) (g l.toArray y) with
   | true=>rfl
   | false =>
    have ne:g l.toArray x≠g l.toArray y:=λe=>by
     have a1:=(lt hx).2;have a2:=(lt hy).2;rw[<- e] at a2;have:=(J9 (dl hx ll) nd).mp (a1.trans a2.symm);exact vd xy this
    have z:=T.or _ _ (lt hx).1 (lt hy).1 ne c;rw[<- R.rk_lt (lt hy).1 (lt hx).1] at z;have:=uG z;lia
  .apply UK.mp
   rw[el,O8];refine Hn λi hi=>(gi i ?_).symm;exact AZ.mp (pl.mem_iff.mp (by simpa using hi))
 exact EI W (λr s' h=>h) λ_ _ e=>e
def Xg{P:PySem.Fin->AC->Prop}(ho:s.heap.get? a=uA (E9 "list" vs.toArray n))(R:RowE prog w s.heap vs ks)(hz:vs.length<=100000)(hu:A.units<C2)
  (h:∀p:Array Nat,PP ks.length p->Up (ltK ks) p ks.length->P (.done (.ret .none)) {s with heap:=sortedHeap s.heap a vs (LI (p.toList.map λi=>vs.getD i DE))}) :
  wpAny (AN prog w) A (Builtin.«list.sort» ⟨[.ref a],[]⟩) P E s:=by
 have la:=BH ho;have lk:ks.length=vs.length:=by rw[R.vals,AB]
 rw[list_sort_plain];refine Au (O2 ho rfl ?_);refine Au (On ho rfl ?_);obtain⟨e1,ho1⟩:∃e1,(s.heap.update a (DZ λ_=>#[])).get? a=uA (E9 "list" #[] e1):=⟨_,get?_update_seq ho (λ_=>#[])⟩;refine Au (TR ho1 rfl ?_);refine Au (wpAny_newTuple ?_);refine Au (N9 ?_);refine Ee ?_;have hoa:(((s.heap.update a (DZ λ_=>#[])).push (E9 "tuple" vs.toArray 0)).push (E9 "list" #[] 0)).get? a=uA (E9 "list" #[] e1):=AL _ (AL _ ho1);dsimp only;have vz:vs.toArray.size=vs.length:=by simp
 by_cases h2:vs.toArray.size<2
 .rw[uD h2,uD h2]
  refine Au (AE ?_);rw[StateT.run_pure];refine Au (AE ?_);have out:((vs.toArray.zip vs.toArray).map (·.2))=LI ((LI (AR ks.length)).toList.map λi=>vs.getD i DE):=by
   apply UK.mp;rw[O8,Array.toList_zip,List.map_snd_zip (by simp),lk];apply Hc;intro i;by_cases c:i<vs.length
   .simp[c]
   .simp[c]
  refine Au (TR hoa rfl ?_);refine Au (On hoa rfl ?_ (hsz2:=by rw[Array.size_map,Array.size_zip,vz,F6];lia));simp only[bne_self_eq_false,B7,if_false];refine AE ?_;rw[show(AX (J2 UI (vs.toArray.zip vs.toArray) #[] 7 uB)).map (·.2)=_ from out];exact h _ (ACv _) λx y hxy hy=>uH hxy (by lia)
 .rw[uC h2,uC h2]
  have R1:RowE prog w (((s.heap.update a (DZ λ_=>#[])).push (E9 "tuple" vs.toArray 0)).push (E9 "list" #[] 0)) vs ks:=Zw R λx hx o gx=>by
   have ne:x.2≠a:=λe=>by
    obtain⟨o',_,_,go',co',_⟩:=R.keys x hx;rw[e,ho] at go';cases go';have z:C3 "list" = C3 "tuple":=co';exact uH z (by decide)
   exact AL _ (AL _ ((EZ _ _ (Bi ne)).trans gx))
  refine Au (kind_any (s:={s with heap:=((s.heap.update a (DZ λ_=>#[])).push (E9 "tuple" vs.toArray 0)).push (E9 "list" #[] 0)}) R1 (by lia) λκ hκ=>?_);refine Au (EI (AAP hκ hu (s:={s with heap:=((s.heap.update a (DZ λ_=>#[])).push (E9 "tuple" vs.toArray 0)).push (E9 "list" #[] 0)}) R1) ?_ λ_ _ e=>e)
  .rintro⟨⟨⟩,ah⟩ s' ⟨rfl,p,P1,P2,har,hf⟩
   have hout:=kat_snds (ks:=vs) (vs:=vs) rfl har;rw[hout];refine Au (TR hoa rfl ?_);refine Au (On hoa rfl ?_ (hsz2:=by rw[AV,AB,A1,P1.size,F6];lia));rw[hf];simp only[bne_self_eq_false,B7,if_false];exact AE (h p P1 P2)
section
variable{es:Array (Int×AA)}{t:Db}
def TQ(hu:A.units+2<C2)(hh:A.handled=uB)(X:TS prog w s.heap S es t ks)(hK:∀x∈ks,IK prog w s.heap x.1 x.2)(l8:ks.length<=301)
  (q:∀(h':Heap) (tk:Nat) (D:Addr) (ko:List (uI×Addr)) (e:Nat),(∀b ob,s.heap.get? b=uA ob->h'.get? b=uA ob)->s.heap.objs.size<=D->h'.get? D=uA (E9 "list" (ko.map λx=>A9 x.2).toArray e)->ko.Perm ks->(ko.map (·.1)).Pairwise (λa b=>HT.lexLt a b=true)->Q (.ref D) {s with heap:=h',toks:=tk}) :
  wpAny (AN prog w) A (call (.builtin "sorted") [.ref S]) Q E s:=by
 obtain⟨o,ep,ho,dS,hd⟩:=X.obj;have lks:ks.length=es.size:=by
  have:=congrArg FC X.els;rw[AB,A1] at this;exact this.symm
 refine K5 kind_sorted plain_sorted entry_sorted (args_sorted1 _) ?_;unfold UB;refine Au (m:=checkCount "sorted" 1 1 _) (AE ?_);refine Au (UJ (A:=A.in1) (by simp[hh]) ho dS hd X.tab X.len X.pl X.ld (uT lks l8) λh1 tk1 acc kp hsz aE=>?_);have op:=VG w S ep es;rw[X.els] at op;obtain⟨k1,p1,e1⟩:=perm_back op ks rfl;rw[e1,X5,G0] at aE;have hvs:=aE;generalize hv:acc.toList=vs at hvs;have lvs:vs.length=ks.length:=by rw[hvs,AB,p1.length_eq]
 refine Au (N9 ?_ (by rw[F6];lia));have og:(h1.push (E9 "list" vs.toArray 0)).get? h1.objs.size=uA (E9 "list" vs.toArray 0):=A2 _ rfl;have kp2:∀b ob,s.heap.get? b=uA ob->(h1.push (E9 "list" vs.toArray 0)).get? b=uA ob:=λb ob e=>AL _ (kp b ob e);have R:RowE prog w (h1.push (E9 "list" vs.toArray 0)) vs k1:=⟨hvs,λx hx=>IV (hK x (p1.mem_iff.mp hx)) λob e=>kp2 _ ob e,(NB (p1.map (·.1))).mpr X.nd⟩;refine Au (Ee (D5 V0 ⟨_,og,rfl⟩ UZ (Xg (s:={s with heap:=h1.push (E9 "list" vs.toArray 0),toks:=tk1}) og R (by lia) (vS hu) λp P1 P2=>⟨_,rfl,?_⟩) (V1 _)));refine AE ⟨_,rfl,?_⟩;obtain⟨e,he⟩:=sortedHeap_at (out:=LI (p.toList.map λi=>vs.getD i DE)) og;have lk1:=p1.length_eq;have eo:(p.toList.map λi=>vs.getD i DE)=(p.toList.map λi=>k1.getD i ([],0)).map λx=>A9 x.2:=by
  rw[G0];refine Hn λi hi=>?_;have br:=AZ.mp ((QX P1).mem_iff.mp hi);rw[hvs];simp[AD,br]
 rw[eo] at he ⊢;have pk:(p.toList.map λi=>k1.getD i ([],0)).Perm k1:=by
  have z:=SB.Jk (l:=k1) (QX P1);rw[SB.JD ([],0) λi hi=>AZ.mp ((QX P1).mem_iff.mp hi)] at z;exact z
 refine q _ tk1 h1.objs.size _ e (λb ob eb=>?_) hsz he (pk.trans p1) ?_
 .have hb:=BH (kp b ob eb)
  rw[sortedHeap_old (BY hb) (by rw[FY];exact Ki hb)];exact kp2 b ob eb
 .rw[G0]
  refine CL.mpr λi j hi hj iE=>?_;have br:i<p.size:=by simpa using hi
  have bu:j<p.size:=by simpa using hj
  have z:=P2 i j iE (by rw[<- P1.size];exact bu);unfold ltK g at z;simpa [ED,br,bu] using z
end
end SB
namespace L2
open PySem PySem.Spec PyProof.Rows
def AAc(K:As)(te:TE):TE:=λσ H Q=>te σ H λv H1=>∃a xs rs,v=.ref a/\SqL K H1 a xs/\BN (rPair K H1) rs xs/\(∀ms:uJ,ms.Nodup->(∀m∈ms,m∈rs)->ms.length<=300) /\
 ∀l ys ms,H1 l=none->ms.Pairwise (λa b=>HT.lexLt a b=true)->(∀r,r∈ms↔r∈rs)->BN (rPair K H1) ms ys->BN (λm y=>∃i:Nat,rs[i]?=uA m/\xs[i]?=uA y) ms ys->Q (.ref l) (upd H1 l (.lst ys))
def Tt(hc:X.calm=true)(hu:X.A.units+7<C2)(hg:Gl X "sorted")(hm:X.mg "sorted" = uB)(pE:Gl X "set")(hm2:X.mg "set" = uB)(he:PE X e te)
  (hv:IL "sorted" = uA (.builtin "sorted"):=by exact LH) (hv2:IL "set" = uA (.type "set"):=by decide+kernel)
  (s1:autoParam (CC [e] X.env=(false,eval e X.env)::CC [] X.env) zA0._auto_1)
  (s2:autoParam (CC [.Call (.Name "set" p2) [e] [] ma] X.env=(false,eval (.Call (.Name "set" p2) [e] [] ma) X.env)::CC [] X.env) zA0._auto_1) :
  PE X (.Call (.Name "sorted" p1) [.Call (.Name "set" p2) [e] [] ma] [] pos) (AAc X.K te):=by
 intro aa s σ H Q I h;refine HQ (FJ I hg hm hv ?_ (by decide) (by decide));refine MX ?_ s2 rfl;rw[s2];refine JP ?_;refine HQ (FJ I pE hm2 hv2 ?_ (by decide) (by decide));refine DJ ?_ s1 rfl;rw[s1];refine JP (thn (he aa s σ H _ I h) λu s1 hq=>?_);obtain⟨x,H1,I1,r1,q1⟩:=hq;refine LW ?_;obtain⟨a,xs,rs,rfl,ha,pr,l8,q⟩:=q1;cases r1;obtain⟨ag,r,pl,_⟩:=I1.list ha;have lx:=r.length;have lr:=AY pr;have hl:=pl.isList;have at_:∀i:Nat,i<ag.length->∃b ns,ag[i]?=uA (.ref b)/\xs[i]?=uA (.ref b)/\rs[i]?=uA ns/\rPair X.K H1 ns (.ref b):=λi hi=>by
  have hx:i<xs.length:=dl hi lx;obtain⟨ns,f',rp⟩:=Paired.get pr (AI hx);obtain⟨b,eb,hb⟩:=CG rp;obtain⟨u,kx,ru⟩:=r.get (AI hx);rw[eb] at ru rp;cases ru;exact⟨b,ns,kx,by rw[AI hx,eb],f',rp⟩
 have pick:∃vals:Nat->uI×Addr,∀i:Nat,i<ag.length->ag[i]?=uA (.ref (vals i).2)/\rs[i]?=uA (vals i).1/\rPair X.K H1 (vals i).1 (.ref (vals i).2)/\xs[i]?=uA (.ref (vals i).2):=by
  refine⟨λi=>if h:i<ag.length then(Fu (F3 (at_ i h)),Fu (at_ i h)) else([],0),λi hi=>?_⟩;have z:=F3 (F3 (at_ i hi));dsimp only;rw[dif_pos hi];exact⟨z.1,z.2.2.1,z.2.2.2,z.2.1⟩
 obtain⟨vals,b7⟩:=pick;have hsz:ag.toArray.size=ag.length:=by simp
 have few:∀ks:List (uI×Addr),(∀x∈ks,∃j,j<ag.length/\x=vals j)->(ks.map (·.1)).Nodup->ks.length<=300:=λks hs hn=>by
  have:=l8 (ks.map (·.1)) hn λm hm=>by
   obtain⟨x,hx,rfl⟩:=A7.mp hm;obtain⟨j,hj,rfl⟩:=hs x hx;exact AT (b7 j hj).2.1
  rwa [AB] at this
 refine SB.AEH (items:=ag.toArray) (vals:=vals) (I1.ok.hd hc) (by lia) hl (λi v hv=>?_) (λj hj=>?_) (by rw[hsz];exact few) λh' tk es t ks T O kp=>?_
 .have hi:i<ag.length:=by
   have:=(C8.mp hv).1;rw[hsz] at this;exact this
  have z:=(b7 i hi).1;have i7:ag[i]?=uA v:=by simpa using hv
  rw[i7] at z;exact AO z
 .rw[hsz] at hj
  obtain⟨b,eb,hb⟩:=CG (b7 j hj).2.2.1;cases eb;exact ik_ofB I1 hb
 refine LW ?_;rw[hsz] at O;have hK:∀x∈ks,SB.IK X.prog X.w h' x.1 x.2:=λx hx=>by
  obtain⟨j,hj,rfl⟩:=O.sub x hx;obtain⟨b,eb,hb⟩:=CG (b7 j hj).2.2.1;cases eb;exact SB.IV (ik_ofB I1 hb) λo e=>kp _ o e
 have inrs:∀j,j<ag.length->(vals j).1∈rs:=λj hj=>AT (b7 j hj).2.1;have hSz:s1.heap.objs.size<=h'.objs.size:=by
  obtain⟨o,_,ho,_⟩:=T.obj;exact C1 (BH ho)
 refine SB.TQ (s:={s1 with heap:=h',toks:=tk}) (by lia) (I1.ok.hd hc) T hK (OK (few ks O.sub T.nd)) λh2 tk2 D ko e kp2 hD he pk so=>?_;have hD':=BV hSz hD;have hn:=I1.hok.fresh hD';have lko:ko.length<=301:=by rw[pk.length_eq];exact OK (few ks O.sub T.nd)
 have kov:∀x∈ko,∃j,j<ag.length/\x=vals j:=λx hx=>O.sub x (pk.mem_iff.mp hx);have vl:∀l:List (uI×Addr),Vals (l.map λx=>V.ref x.2) (l.map λx=>A9 x.2):=λl=>by
  induction l with
  | nil=>exact .nil
  | cons x r ih=>exact .cons rfl ih
 have pv:∀l:List (uI×Addr),(∀x∈l,∃j,j<ag.length/\x=vals j)->BN (rPair X.K H1) (l.map (·.1)) (l.map λx=>V.ref x.2):=λl=>by
  induction l with
  | nil=>exact λ_=>.nil
  | cons x r ih =>
   intro hh;obtain⟨j,hj,rfl⟩:=hh x AJ;exact .cons (b7 j hj).2.2.1 (ih λy hy=>hh y (AK _ hy))
 have pw:∀l:List (uI×Addr),(∀x∈l,∃j,j<ag.length/\x=vals j)->BN (λm y=>∃i:Nat,rs[i]?=uA m/\xs[i]?=uA y) (l.map (·.1)) (l.map λx=>V.ref x.2):=λl=>by
  induction l with
  | nil=>exact λ_=>.nil
  | cons x r ih =>
   intro hh;obtain⟨j,hj,rfl⟩:=hh x AJ;exact .cons ⟨j,(b7 j hj).2.1,(b7 j hj).2.2.2⟩ (ih λy hy=>hh y (AK _ hy))
 refine⟨.ref D,_,I1.laid (o:=.lst (ko.map λx=>V.ref x.2)) (a:=D) (t':=tk2) (λb o eb=>kp2 b o (kp b o eb)) hD' ⟨?_,ko.map (λx=>A9 x.2),e,vl ko,he⟩,rfl,q D _ (ko.map (·.1)) hn so (λrr=>?_) (pv ko kov) (pw ko kov)⟩
 .rw[AB]
  exact small (by lia)
 .constructor
  .intro hr
   obtain⟨x,hx,rfl⟩:=A7.mp hr;obtain⟨j,hj,rfl⟩:=kov x hx;exact inrs j hj
  .intro hr
   obtain⟨j,hj⟩:=DD.mp hr;have hjl:j<ag.length:=by
    have:=(AG.mp hj).1;lia
   have z:=(b7 j hjl).2.1;rw[hj] at z;cases z;exact(pk.map (·.1)).mem_iff.mpr (O.sup j hjl)
end L2
namespace K31s
open PySem L2 G
def YQ(K:As)(C:Addr):Sp:=λvs H Q _=>∃(l:Addr) (n top:Nat) (rows:List Row),vs=[.int n,.ref l,.int top]/\RowsAt K H l rows/\Ok n rows/\n<=12/\rows.length<=4100/\FewB rows top/\Knot rows top /\
 ∀(p:Addr) (ae:List Row) (hd:Nat) (H':Hp),Same H H'->SvAt K C H' p n ae hd->Canon n ae hd->(∀s,led ae hd s=led rows top s)->(ae.length<=4000/\ae.length<=rows.length/\∀t,(ae.filter λr=>decide (r.1=t)).length<=300)->Q (.ref p) H'
noncomputable def pl01:List (Key×V):=mergeK [] [(FX (0:Int),V.int 0),(FX (1:Int),V.int 1)]
def ABw:PlD pl01 λk=>if k=0 then uA 0 else if k=1 then uA 1 else uB:=by
 intro k;show valV (putK (putK ([]:List (Key×V)) (FX (0:Int)) (V.int 0)) (FX (1:Int)) (V.int 1)) (FX (k:Int))=_;rw[FT,FT];by_cases k1:k=1
 .subst k1;rfl
 by_cases k0:k=0
 .subst k0;rfl
 rw[uC (λz=>k1 (by injection z with z;exact wj z)),uC (λz=>k0 (by injection z with z;lia))];dsimp only;rw[uC k0,uC k1];rfl
def AHF:pl01.length<=2+4100*0:=by
 show(putK (putK ([]:List (Key×V)) (FX (0:Int)) (V.int 0)) (FX (1:Int)) (V.int 1)).length<=2+4100*0;exact BV (Ce _ _ _) (Nat.succ_le_succ (Ce _ _ _))
def LayR(rows:List Row)(pl:Nat->uX)(H:Hp)(k:Nat)(v:V):Prop:=∃q b,v=.ref q/\H q=uA (.tup [.int k,.ref b])/\H b=uA (.tup (r3 (rowIn rows pl k)))
def LayR.keeps{rows:List Row}{k:Nat}(e:∀a xs,H a=uA (.tup xs)->H' a=uA (.tup xs))(h:LayR rows pl H k v):LayR rows pl H' k v :=
 by obtain⟨q,b,h1,h2,h3⟩:=h;exact⟨q,b,h1,e _ _ h2,e _ _ h3⟩
def RowR(H:Hp)(r:Row)(v:V):Prop:=∃b,v=.ref b/\H b=uA (.tup (r3 r))
def RowR.keeps{r:Row}(e:∀a xs,H a=uA (.tup xs)->H' a=uA (.tup xs))(h:RowR H r v):RowR H' r v :=
 by obtain⟨b,h1,h2⟩:=h;exact⟨b,h1,e _ _ h2⟩
noncomputable def sel(rows:List Row)(pl:Nat->uX)(ly:uL)(j:Nat):List Row:=((ly.take j).map (rowIn rows pl)).filter λr=>decide (r.2.2≠0)
def Ul{rows:List Row}{k:Nat}(h:ly[j]?=uA k):sel rows pl ly (j+1)=sel rows pl ly j++if(rowIn rows pl k).2.2≠0 then [rowIn rows pl k] else []:=by
 unfold sel;rw[D9,h,BG,CM];by_cases c:(rowIn rows pl k).2.2≠0
 .simp[c]
 .simp[c]
def YZ(rows:List Row)(pl:Nat->uX)(ly:uL)(j:Nat):(sel rows pl ly j).length<=ly.length:=by
 unfold sel;refine BV (CS _ _) ?_;rw[AB,B4];lia
def Gk{rows:List Row}{r:Row}:r∈sel rows pl ly ly.length↔∃k∈ly,r=rowIn rows pl k/\r.2.2≠0:=by
 unfold sel;rw[CU,BO,A7];constructor
 .rintro⟨⟨k,hk,rfl⟩,h⟩
  exact⟨k,hk,rfl,uG h⟩
 .rintro⟨k,hk,rfl,h⟩
  exact⟨⟨k,hk,rfl⟩,uE h⟩
noncomputable def placeOf(rows:List Row)(pl:Nat->uX)(ae:List Row)(k:Nat):Nat:=(numOf 2 ae (rowIn rows pl k)).getD (rowIn rows pl k).2.1
def WY{γ:Type}{F:β->γ->Prop}{f:α->β}:∀{l:List α}{m:List γ},BN (λa b=>F (f a) b) l m->BN F (l.map f) m:=by
 intro l m h
 induction h with
 | nil=>exact .nil
 | cons h t ih=>exact .cons h ih
def AFS{rows new:List Row}{t:Nat}(h:(new.map r3i).Pairwise (λa b=>HT.lexLt a b=true))(hw:∀r,r∈new->∃k,k∈rc/\tieOf rows k=t/\r=rowIn rows pl k/\r.2.2≠0):new.Pairwise RowLt:=by
 have h2:new.Pairwise (λa b=>HT.lexLt (r3i a) (r3i b)=true):=C0.mp h;have tie:∀r∈new,r.1=t:=λr hr=>by
  obtain⟨k,_,h,e,_⟩:=hw r hr;rw[e];exact h
 refine EQ (λ{a b} ha hb z=>?_) h2;have ea:=tie a ha;have eb:=tie b hb;obtain⟨a1,a2,a3⟩:=a;obtain⟨b1,b2,b3⟩:=b;dsimp only at ea eb;subst ea;subst eb;unfold r3i at z;dsimp only at z;rw[HT.Cm,uD rfl,HT.Cm] at z;refine .inr ⟨rfl,?_⟩;dsimp only;by_cases c:(a2:Int)=b2
 .rw[uD c,HT.Cm] at z
  by_cases d:(a3:Int)=b3
  .rw[uD d] at z
   cases z
  .rw[uC d] at z
   have:=uG z;exact .inr ⟨uy c,wx this⟩
 .rw[uC c] at z
  have:=uG z;exact .inl (wx this)
def Es:FnScope ["n","rows","top","reached","numbers","places","tie","layer","row","knot"] zl23 (Ae LR):=fscp (by decide+kernel)
def ACR(F:Fun K "least_graph" "least_graph" LR f fd)(T:Txt K mg C)(M:Mk K C fS)
  (GR:Cal P w K mg base 1 fR lT "reached_knots" zl22 (YJ K))
  (GI:Cal P w K mg base 1 fI kR "row_in_places" zl7 (AHV K))
  (GS:FnOk P w K mg base CX0 1 fS df zl6 (Jv K C)) (bS:Binds K df zl6 []) :
  FnOk P w K mg base CX0 3 f fd zl23 (YQ K C):=by
 refine F.ok Es (λvs H Q E h=>?_) (λa7 A outer s H vs Q E hr h=>?_)
 .obtain⟨l,n,top,rows,rfl,_⟩:=h
  rfl
 obtain⟨l,n,top,rows,rfl,hL,ok,l9,r72,fw,kt,q⟩:=h;have bb:Room 1 _:=hr.mono (by decide);refine⟨_,Ad (Ak (i:=3) Es.nd (BL GR bb rfl (Aa (pv 1) (Aa (pv 2) Ac))))
  (Ad (Ak (i:=4) Es.nd ABm)
  (Ad (Ak (i:=5) Es.nd (Xw (Nb Af Af (Nb Af Af Xv)) rfl rfl (by intro z;cases z) (by decide)))
  (Ad (Cv CY rfl (Pu rfl T.range (Aa (Ar Em (pv 0) Af) (Aa (Yk Qa Af) (Aa (Yk Qa Af) Ac)))) (BP (i:=6) Es.nd)
   (Ad (Jh (i:=7) (Ae LR) ["knot"] ["places","rows","tie"] [5,1,6] Es.nd rfl (KW rfl) rfl rfl (by decide+kernel) ⟨⟨rfl,by decide+kernel⟩,⟨rfl,by decide+kernel⟩,⟨rfl,by decide+kernel⟩,trivial⟩ (CQ (pv 3))
    (λ_ _ _=>BJ (i:=0))
    (λ_ _ _=>Br (Am Cp (Ay (Rg (K:=K) rfl) (Ay (Rg (K:=K) rfl) (pv 2) (Ar Em (pv 0) Af)) Af) (pv 3)))
    (λ_ _ _=>Cr (Aa (pv 0) (Aa (BL GI bb rfl (Aa (pv 1) (Aa (Ay (Rg (K:=K) rfl) (pv 2) (Ar Em (pv 0) Af)) Ac))) Ac))))
   (Ad (Cv CY rfl (CQ (Tt rfl (CN hr) rfl T.sorted rfl T.set
     (Bp (Ae LR) ["knot","row"] [] [] rfl rfl (by decide+kernel) trivial (CQ (pv 7))
      (λ_ _ _=>Gh (K:=K) (n:=2) rfl rfl (BW (BJ (i:=0)) (BW (BJ (i:=1)) DK)))
      (λ_ _ _=>Br (Am Jf (Ay (Yx (K:=K) rfl) (pv 1) Af) Af))
      (λ_ _ _=>pv 1)))) (BP (i:=8) Es.nd)
    (Ag (Kh (CN hr) (pv 4) (pv 8) (Ar Bv (Ax Uu rfl T.len CI (Aa (pv 4) Ac)) Af) rfl)))
   (Ag (Cv CY rfl (CQ (pv 7)) (Gh (K:=K) (n:=2) rfl rfl (BW (BP (i:=9) Es.nd) (BW (BP (i:=8) Es.nd) DK)))
    (Ag (Kh (CN hr) (pv 5) (pv 9) (ABY (CN hr) (pv 4) (pv 8) (Ay Bc (pv 8) Af) ⟨rfl,rfl,rfl,rfl⟩) rfl)))))))
  (Ag (Ao (Gg M GS hr rfl T.mgC bS .nil pass0 (Aa (pv 0) (Aa (BX (Rq rfl) rfl T.list EG (Aa (pv 4) Ac)) (Aa (Qe (CN hr) (pv 5) (pv 2) (λ_ _=>rfl)) Ac))))))))),?_⟩
 refine⟨_,rfl,_,rfl,l,n,top,rows,rfl,hL,ok,r72,kt,λR rc H1 s1 nR eR cl tr rl0 par=>?_⟩;have rl:∀t j,(lay rows t rc j).length<=4100:=λt j=>BV (rl0 t j) (BV (CS ..) r72);refine λN hN=>?_;have nN:H N=uB:=s1.free hN;have s2:=s1.trans (uw hN (.dT []));refine λD hD=>⟨Ab,[(.inl (0:Int),.int 0),(.inl (1:Int),.int 1)],rfl,(by show 2<=15;decide),?_⟩;have nD:H D=uB:=s2.free hD;have RN:R≠N:=Ai eR hN;have RD:R≠D:=Ai (show(upd H1 N (.dT [])) R=uA (.lst (iN rc)) by rw[Ah RN];exact eR) hD;have ND:N≠D:=Ai (show(upd H1 N (.dT [])) N=uA (.dT []) from Ab) hD;refine⟨_,rfl,_,_,rfl,rfl,1,rfl,1,rfl,(n:Int)-1,-1,rfl,⟨by lia,by lia,by lia,by lia⟩,?_⟩;refine Tr (lo:=(n:Int)-1) (n:=((n:Int)-1 - -1).toNat) (λi σ H2=>∃(ae:List Row) (af:List (Key×V)) (pl:Nat->uX) (o6 o7 o8 o9:Option V),σ=[uA (.int n),uA (.ref l),uA (.int top),uA (.ref R),uA (.ref N),uA (.ref D),o6,o7,o8,o9]/\Same H H2 /\
   H2 R=uA (.lst (iN rc))/\H2 N=uA (.dT (numKV 2 ae))/\H2 D=uA (.dK af)/\PlD af pl/\Kept2 n (n-i) rows rc ae pl/\ae.length<=300*i/\af.length<=2+4100*i/\∀t,(ae.filter λr=>decide (r.1=t)).length<=300)
  ⟨[],_,λk=>if k=0 then uA 0 else if k=1 then uA 1 else uB,uB,uB,uB,uB,rfl,λb o e=>?_,?_,?_,Ab,?_,?_,by simp,?_,λt=>By _⟩ ?_ ?_
 .rw[Ah (Ai e nD),Ah (Ai e nD)]
  exact s2 b o e
 .rw[Ah RD,Ah RD,Ah RN]
  exact eR
 .rw[Ah ND,Ah ND,Ab]
  rfl
 .exact ABw
 .exact Ws λk hk=>(cl.low ok hk).1
 .exact AHF
 .rintro i σ H2 hi ⟨ae,af,pl,o6,o7,o8,o9,rfl,sm,qo,eN2,kU,pd,kp,nl,kl,cn⟩
  obtain⟨t,et,tn,tn',tlt⟩:∃t:Nat,(n:Int)-1-i=t/\n-i=t+1/\n-(i+1)=t/\t<n:=⟨n-1-i,by lia,by lia,vV,by lia⟩;rw[et];rw[tn] at kp;have hL2:=hL.same sm;refine⟨_,rfl,R,rfl,⟨_,uj qo⟩,λY hY=>?_⟩;have nY:H Y=uB:=sm.free hY;refine Cj (K:=K) (a:=R) (xs:=iN rc) (λj τ H3=>∃(kv:Option V) (ys:List V),τ=[kv,uA (.ref D),uA (.ref l),uA (.int t)]/\Same H2 H3/\H3 Y=uA (.lst ys)/\BN (LayR rows pl H3) (lay rows t rc j) ys)
   ⟨uB,[],rfl,uw hY _,Ab,.nil⟩ (by rintro j τ H3 _ ⟨_,_,_,s3,_⟩;exact s3.seq (uj qo)) ?_ ?_
  .rintro j x τ H3 hx ⟨kv,ys,rfl,s3,eY,py⟩
   obtain⟨k,hk,rfl⟩:∃k:Nat,rc[j]?=uA k/\x=.int (k:Int):=by
    unfold iN at hx;rw[AU] at hx;cases g:rc[j]? with
    | none=>rw[g] at hx;cases hx
    | some k=>rw[g] at hx;cases hx;exact⟨k,rfl,rfl⟩
   have km:=AT hk;obtain⟨xs,p,hS,ha,hp⟩:=Qf (hL2.same s3) (cl.knot k km) (cl.two k km);refine⟨_,rfl,_,rfl,_,_,rfl,rfl,ixA hS ha (ixA hp at0 ⟨_,rfl,rfl,_,rfl,?_⟩)⟩;refine ite2 (λc=>?_) (λc=>?_)
   .have c':tieOf rows k=t:=by
     have:=uG c;injection this with this
     exact MA this
    obtain⟨a,b,pa,pb,re,_⟩:=kp.base.row cl ok tlt km c';have iO:valV af (FX (((rows.getD (k-2) (0,0,0)).2.1:Nat):Int))=uA (.int (a:Int)):=by
     have:=pd (outOf rows k);rw[pa] at this;exact this
    have hy':valV af (FX (((rows.getD (k-2) (0,0,0)).2.2:Nat):Int))=uA (.int (b:Int)):=by
     have:=pd (intoOf rows k);rw[pb] at this;exact this
    refine⟨_,rfl,_,rfl,_,rfl,_,rfl,_,_,rfl,rfl,ixA hS ha ⟨D,p,rows.getD (k-2) (0,0,0),a,b,af,rfl,s3 _ _ kU,⟨p,rfl,hp⟩,iO,hy',λu hu=>?_⟩⟩;refine⟨(by show 2<=sizeLine;decide),λv hv=>?_⟩;have er:[V.int ((rows.getD (k-2) (0,0,0)).1:Nat),V.int (a:Int),V.int (b:Int)]=r3 (rowIn rows pl k):=by
     rw[re,<- c'];rfl
    rw[er];rw[er] at hv;have su:=uw hu (.tup (r3 (rowIn rows pl k)));have sv:=uw hv (.tup [.int (k:Int),.ref u]);have eY2:=sv _ _ (su _ _ eY);have ll:=rl t j;have ly:ys.length<=4100:=by rw[<- AY py];exact ll
    have kt:∀a xs,(upd (upd H3 u (.tup (r3 (rowIn rows pl k)))) v (.tup [.int (k:Int),.ref u])) a=uA (.tup xs)->(upd (upd (upd H3 u (.tup (r3 (rowIn rows pl k)))) v (.tup [.int (k:Int),.ref u])) Y (.lst (ys++[.ref v]))) a=uA (.tup xs):=λa xs e=>by
     rw[Ah (DP e eY2 (by intro z;cases z))];exact e
    refine⟨_,eY2,smallN (wG ly),_,_,rfl,((s3.trans su).trans sv).put hY _,Ab,?_⟩
    .rw[Sh hk,uD c']
     refine uo (ut (λa b r=>(r.keeps λa xs e=>sv _ _ (su _ _ e)).keeps kt) py) (uq ⟨v,u,rfl,kt _ _ Ab,kt _ _ (sv _ _ Ab)⟩)
   .have c':¬ tieOf rows k=t:=λe=>c (uE (by show V.int ((tieOf rows k:Nat):Int)=V.int (t:Int);rw[e]))
    refine⟨_,_,rfl,s3,eY,?_⟩;rw[Sh hk,uC c',Cc];exact py
  .rintro τ H3 ⟨kv,ys,rfl,s3,eY,py⟩
   have rcl:(iN rc).length=rc.length:=AB ..;rw[rcl] at py;have ll:=rl t rc.length;have ly:ys.length<=4100:=by rw[<- AY py];exact ll
   refine⟨_,rfl,Y,rfl,⟨_,uj eY⟩,λZ hZ=>?_⟩;refine Cj (K:=K) (a:=Y) (xs:=ys) (λj τ H4=>∃(o1 o2:Option V) (zs:List V),τ=[o1,o2]/\Same H3 H4/\H4 Z=uA (.lst zs)/\BN (RowR H4) (sel rows pl (lay rows t rc rc.length) j) zs)
    ⟨uB,uB,[],rfl,uw hZ _,Ab,.nil⟩ (by rintro j τ H4 _ ⟨_,_,_,_,s4,_⟩;exact s4.seq (uj eY)) ?_ ?_
   .rintro j x τ H4 hx ⟨o1,o2,zs,rfl,s4,eZ,pz⟩
    obtain⟨k,hk,u,b,rfl,hu,hb⟩:=Paired.get py hx;have hu4:=s4 _ _ hu;have hb4:=s4 _ _ hb;refine⟨u,_,rfl,uk hu4,rfl,_,_,rfl,_,_,rfl,rfl,?_⟩;refine⟨_,rfl,b,_,_,_,rfl,rfl,uk hb4,at2,rfl,_,rfl,?_⟩;have zl:zs.length<=4100:=by rw[<- AY pz];exact BV (YZ _ _ _ _) ll
    refine ite2 (λc=>?_) (λc=>?_)
    .have c':(rowIn rows pl k).2.2≠0:=λe=>by
      rw[e] at c;exact uH c (by decide)
     refine⟨_,rfl,_,eZ,smallN (wG zl),_,_,_,rfl,s4.put hZ _,Ab,?_⟩
     .rw[Ul hk,uD c']
      have kz:∀a xs,H4 a=uA (.tup xs)->(upd H4 Z (.lst (zs++[.ref b]))) a=uA (.tup xs):=λa xs e=>by rw[Ah (DP e eZ (by intro z;cases z))];exact e
      exact uo (ut (λa b r=>r.keeps kz) pz) (uq ⟨b,rfl,kz _ _ hb4⟩)
    .have c':(rowIn rows pl k).2.2=0:=by
      rcases SV (rowIn rows pl k).2.2 with e| e
      .exact e
      .exact uH (by rw[uF (λz=>by injection z with z;lia)];rfl) c
     refine⟨_,_,_,rfl,s4,eZ,?_⟩;rw[Ul hk,uC (λz=>z c'),Cc];exact pz
   .rintro τ H4 ⟨o1,o2,zs,rfl,s4,eZ,pz⟩
    rw[<- AY py] at pz;have zl:(sel rows pl (lay rows t rc rc.length) (lay rows t rc rc.length).length).length<=4100:=BV (YZ _ _ _ _) ll;refine⟨Z,zs,(sel rows pl (lay rows t rc rc.length) (lay rows t rc rc.length).length).map r3i,rfl,uj eZ,WY (ut (λr v ⟨b,e,hb⟩=>by rw[e];exact GZ (ns:=r3i r) hb) pz),λms nd hm=>?_,λS qW ms hS so mem pr pw=>?_⟩
    .obtain⟨new,rfl⟩:=Jy ms λm cw=>by
      obtain⟨r',_,e⟩:=A7.mp (hm m cw);exact⟨r',e.symm⟩
     rw[AB];refine fw.sel kp cl ok tlt par new ((C0.mp nd).imp λh e=>h (by rw[e])) λr hr=>?_;obtain⟨r',h1,h2⟩:=A7.mp (hm _ (Hm hr));rw[Kc h2] at h1;obtain⟨k,h1,h2,h3⟩:=Gk.mp h1;obtain⟨h4,h5⟩:=JZ.mp h1;exact⟨k,h4,h5,h2,h3⟩
    obtain⟨new,rfl⟩:=Jy ms λm hm=>by
     obtain⟨r',_,e⟩:=A7.mp ((mem m).mp hm);exact⟨r',e.symm⟩
    have nd:=Zn so;have tF:∀r∈new,r∈sel rows pl (lay rows t rc rc.length) (lay rows t rc rc.length).length:=λr hr=>by
     obtain⟨r',h1,h2⟩:=A7.mp ((mem (r3i r)).mp (Hm hr));rw[<- Kc h2];exact h1
    have hw:∀r,r∈new->∃k,k∈rc/\tieOf rows k=t/\r=rowIn rows pl k/\r.2.2≠0:=λr hr=>by
     obtain⟨k,h1,h2,h3⟩:=Gk.mp (tF r hr);obtain⟨h4,h5⟩:=JZ.mp h1;exact⟨k,h4,h5,h2,h3⟩
    have hw2:∀k∈rc,tieOf rows k=t->(rowIn rows pl k).2.2≠0->rowIn rows pl k∈new:=λk hk hkt w0=>by
     have h0:r3i (rowIn rows pl k)∈new.map r3i:=(mem _).mpr (Hm (Gk.mpr ⟨k,JZ.mpr ⟨hk,hkt⟩,rfl,w0⟩));obtain⟨r',h1,h2⟩:=A7.mp h0;rw[<- Kc h2];exact h1
    have newl:new.length<=300:=fw.sel kp cl ok tlt par new nd hw;have ly':qW.length=new.length:=by rw[<- AY pr,AB]
    have sS:=uw hS (.lst qW);have qk:=sS _ _ (s4 _ _ (s3 _ _ eN2));have sL:=sS _ _ (s4 _ _ (s3 _ _ kU));have kg:=sS _ _ (s4 _ _ (s3 _ _ qo));have eY4:=sS _ _ (s4 _ _ eY);have SN:S≠N:=DP (show(upd H4 S (.lst qW)) S=uA (.lst qW) from Ab) qk (by intro z;cases z);refine⟨S,rfl,⟨_,uj Ab⟩,?_⟩;refine Ej (K:=K) (a:=S) (xs:=qW) (λj σ H5=>∃o8:Option V,σ=[uA (.int n),uA (.ref l),uA (.int top),uA (.ref R),uA (.ref N),uA (.ref D),uA (.int t),uA (.ref Y),o8,o9]/\(∀b o,b≠N->(upd H4 S (.lst qW)) b=uA o->H5 b=uA o) /\
      H5 N=uA (.dT (numKV 2 (ae++new.take j)))) ⟨o8,rfl,λb o _ e=>e,by rw[Q3,Cc];exact qk⟩ (by rintro j σ H5 _ ⟨_,_,k5,_⟩;exact uj (k5 _ _ SN Ab)) ?_ ?_
    .rintro j x σ H5 hx ⟨o8,rfl,k5,eN5⟩
     obtain⟨m,hm,i',hi1,kK⟩:=Paired.get pw hx;obtain⟨r,hr,rfl⟩:∃r,new[j]?=uA r/\m=r3i r:=by
      rw[AU] at hm;cases g:new[j]? with
      | none=>rw[g] at hm;cases hm
      | some r=>rw[g] at hm;cases hm;exact⟨r,rfl,rfl⟩
     obtain⟨r',hr',b,rfl,hb⟩:=Paired.get pz kK;have er:r'=r:=by
      rw[AU,hr'] at hi1;exact Kc (AO hi1)
     subst er;have bN:b≠N:=DP (sS _ _ hb) qk (by intro z;cases z);have hb5:=k5 _ _ bN (sS _ _ hb);have rn:r'∉ae++new.take j:=λhm=>by
      rcases Co.mp hm with hm| hm
      .have:=kp.base.ge r' hm
       obtain⟨k,_,h5,h2,_⟩:=hw r' (AT hr);rw[h2] at this;have e:(rowIn rows pl k).1=tieOf rows k:=rfl;lia
      .obtain⟨j',bu⟩:=DD.mp hm
       rw[List.getElem?_take] at bu;split at bu
       .have:=(J9 (AG.mp bu).1 nd).mp (bu.trans hr.symm)
        lia
       .cases bu
     have nl2:(ae++new.take j).length<=300*13:=by
      rw[BF,B4];lia
     refine⟨_,rfl,N,_,rfl,eN5,_,_,rfl,rfl,_,rfl,_,rfl,N,_,rfl,.inr ⟨_,ik3 r',b,eN5,rfl,hb5,by rw[Jx];exact smallN (by lia),rfl⟩,?_⟩;refine⟨_,rfl,λb o hb e=>by rw[Ah hb];exact k5 b o hb e,?_⟩;rw[Ab,AAr rn,D9,hr];rw[C5];rfl
    .rintro σ H5 ⟨o8,rfl,k5,eN5⟩
     rw[ly',CU] at eN5;have DN:D≠N:=DP sL qk (by intro z;cases z);have RN4:R≠N:=DP kg qk (by intro z;cases z);have YN:Y≠N:=DP eY4 qk (by intro z;cases z);have ke:=k5 _ _ DN sL;have io:=k5 _ _ RN4 kg;have eY5:=k5 _ _ YN eY4;have YD:Y≠D:=DP eY5 ke (by intro z;cases z);refine⟨_,rfl,Y,rfl,⟨_,uj eY5⟩,?_⟩;refine Ej (K:=K) (a:=Y) (xs:=ys) (λj σ H6=>∃(o8 o9:Option V) (bj:List (Key×V)),σ=[uA (.int n),uA (.ref l),uA (.int top),uA (.ref R),uA (.ref N),uA (.ref D),uA (.int t),uA (.ref Y),o8,o9]/\(∀b o,b≠D->H5 b=uA o->H6 b=uA o) /\
       H6 D=uA (.dK bj)/\PlD bj (plOf pl (placeOf rows pl (ae++new)) ((lay rows t rc rc.length).take j))/\bj.length<=af.length+j) ⟨o8,o9,af,rfl,λb o _ e=>e,ke,?_,uO⟩ (by rintro j σ H6 _ ⟨_,_,_,_,k6,_⟩;exact uj (k6 _ _ YD eY5)) ?_ ?_
     .intro k
      rw[pd k];unfold plOf;rw[uC (by simp)]
     .rintro j x σ H6 hx ⟨o8,o9,bj,rfl,k6,m4,pd6,kl6⟩
      obtain⟨k,hk,u,b,rfl,hu,hb⟩:=Paired.get py hx;have up:∀a xs,H3 a=uA (.tup xs)->H6 a=uA (.tup xs):=λa xs e=>by
       have e4:=sS _ _ (s4 _ _ e);have e5:=k5 _ _ (DP e4 qk (by intro z;cases z)) e4;exact k6 _ _ (DP e5 ke (by intro z;cases z)) e5
      have eN6:=k6 _ _ (Bi DN) eN5;have jl:j<ys.length:=(AG.mp hx).1;refine⟨u,_,rfl,uk (up _ _ hu),rfl,_,_,rfl,_,_,rfl,rfl,?_⟩;refine⟨_,rfl,N,rfl,.inr ⟨_,.inl eN6⟩,_,rfl,_,rfl,b,_,_,_,rfl,rfl,uk (up _ _ hb),at1,_,uh (k:=ik3 (rowIn rows pl k)) eN6 (up _ _ hb),?_⟩;refine⟨_,rfl,_,rfl,D,_,rfl,.inl ⟨bj,FX (k:Int),m4,rfl,smallN (by lia),rfl⟩,?_⟩;have ev:(valV (numKV 2 (ae++new)) (ik3 (rowIn rows pl k))).getD (V.int ((rowIn rows pl k).2.1:Nat))=V.int ((placeOf rows pl (ae++new) k:Nat):Int):=by
       rw[Jo];unfold placeOf;cases numOf 2 (ae++new) (rowIn rows pl k)<;>rfl
      rw[ev];refine⟨_,_,_,rfl,λb o hb e=>by rw[Ah hb];exact k6 b o hb e,Ab,?_,by have:=Ce bj (FX (k:Int)) (V.int ((placeOf rows pl (ae++new) k:Nat):Int));lia⟩;rw[D9,hk];exact PlD.put pd6
     .rintro σ H6 ⟨o8,o9,bj,rfl,k6,m4,pd6,kl6⟩
      rw[<- AY py,CU] at pd6;refine⟨ae++new,bj,_,_,_,_,_,rfl,λb o e=>?_,k6 _ _ (DP io ke (by intro z;cases z)) io,k6 _ _ (Bi DN) eN5,m4,pd6,?_,by rw[BF];lia,by lia,λt1=>?_⟩
      .have e4:=sS _ _ (s4 _ _ (s3 _ _ (sm b o e)))
       exact k6 _ _ (Ai e nD) (k5 _ _ (Ai e nN) e4)
      .rw[tn']
       refine kp.step cl ok tlt hw nd hw2 (AFS so hw) (λk hk=>?_) (λk hk ht=>?_)
       .unfold plOf
        rw[uC (λz=>by
         obtain⟨z1,z2⟩:=JZ.mp z;rcases hk with hk| hk
         .exact hk z1
         .exact hk z2)]
       .refine⟨placeOf rows pl (ae++new) k,by unfold plOf;rw[uD (JZ.mpr ⟨hk,ht⟩)],?_⟩
        unfold placeOf;cases g:numOf 2 (ae++new) (rowIn rows pl k) with
        | some m =>
         obtain⟨j,h1,h2⟩:=Ml _ _ _ _ g;exact .inl ⟨j,h1,by show m=j+2;lia⟩
        | none=>exact .inr ⟨Lr _ _ _ g,rfl⟩
      .rw[CM,BF]
       by_cases c:t1=t
       .rw[Mm.mpr λr hr z=>by
         have:=kp.base.ge r hr;have:=uG z;lia]
        have:=CS (λr:Row=>decide (r.1=t1)) new;simp only[JS];lia
       .rw[Mm (l:=new)|>.mpr λr hr z=>by
         obtain⟨k,_,h5,h2,_⟩:=hw r hr;have:=uG z;rw[h2] at this;have e:(rowIn rows pl k).1=tieOf rows k:=rfl;lia]
        exact cn t1
 .rintro σ H2 ⟨ae,af,pl,o6,o7,o8,o9,rfl,sm,qo,eN2,kU,pd,kp,nl,kl,cn⟩
  have e0:n-((n:Int)-1 - -1).toNat=0:=by lia
  rw[e0] at kp;have ht:∃p:Nat,pl top=uA p:=by
   rcases tr with h| h
   .have:top=0\/top=1:=v5 h
    rcases this with rfl| rfl
    .exact⟨0,kp.base.z⟩
    .exact⟨1,kp.base.o⟩
   .obtain⟨p,hp,_⟩:=kp.base.has top h (By _)
    exact⟨p,hp⟩
  obtain⟨hd,ehd⟩:=ht;refine⟨_,rfl,_,rfl,N,_,rfl,eN2,λA0 ys hA kL=>?_⟩;have sA:=uw hA (.lst ys);refine⟨_,rfl,_,rfl,D,.int hd,rfl,?_,?_⟩
  .have:=DGet.k (k:=.inl (top:Int)) (sA _ _ kU)
   rw[pd top,ehd] at this;exact this
  .intro x dx hx hdx ne
   have hx2:(upd (upd H2 A0 (.lst ys)) dx (.own x)) x=uB:=by rw[Ah (Bi ne)];exact hx
   have s4:=(uw hdx (.own x)).trans (uw hx2 (.ins C dx []));refine⟨x,dx,A0,n,hd,ys,ae,rfl,Ab,s4.seq (uj Ab),ut (λa b r=>Cy _ _ _ _ s4.ts (Cy _ _ _ _ sA.ts r)) (AAV kL),λH' hs sv=>⟨rfl,q x ae hd H' (λb o e=>?_) sv (kp.canon cl ok tr ehd par).1 (kp.canon cl ok tr ehd par).2 ⟨by lia,ZK kp cl,cn⟩⟩⟩;have e1:=s4 _ _ (sA _ _ (sm b o e));refine hs b o e1 λz=>?_;rw[z] at e;have:=sA _ _ (sm _ o e);rw[hx] at this;cases this
def tsX(e:∀b o,b≠R->H b=uA o->H' b=uA o)(hR:H R=uA (.lst xs)):TSm H H':=λb u hb t=>e b u (λz=>by
 subst z;rw[hR] at hb;cases hb;obtain⟨ys,e| ⟨o,e⟩⟩:=t
 .cases e
 .cases e) hb
def take_snoc{l:List α}{x:α}(h:l[i]?=uA x):l.take (i+1)=l.take i++[x]:=by rw[D9,h];rfl
theorem Dj:∀ns:uI,(ns.map V.int).all flatV=true
 | []=>rfl
 | _::r=>Dj r
def Yw(z:Int)(j:Addr)(h:Int){m:Str}(h1:¬ m = "head")(h2:¬ m = "rows")(h3:¬ m = "amount"):(flds z j h).lookup m=uB:=by
 unfold flds;rw[Aj,uC h1,Aj,uC h2,Aj,uC h3]
 all_goals rfl
def ADe(hK:X.K=K):OpR X (HK .Add) (rAddT K):=by subst hK;exact ADt
def AEm{rows:List Row}(o:Ok n rows)(j:Nat):Ok n (rows.take j):=λi q e=>by
 have il:=(AG.mp e).1;have ij:i<j:=by rw[B4] at il;exact vW il
 obtain⟨h1,h2,h3⟩:=o i q (by rw[F9 ij] at e;exact e);have low:∀l,Low rows q.1 (i+2) l->Low (rows.take j) q.1 (i+2) l:=λl ⟨a,b⟩=>⟨a,b.imp id λ⟨u,e,z⟩=>⟨u,by rw[F9 (by lia)];exact e,z⟩⟩;exact⟨h1,low _ h2,low _ h3⟩
def Xo{rows:List Row}{k:Nat}(I:InOrder n rows k L):L.length<=2 ^ n:=by
 have h:(L.map (num n)).Pairwise (· < ·):=by rw[C0];exact I.ord
 have z:=ST.Bw (l₁:=L.map (num n)) (l₂:=AR (2 ^ n)) (h.imp λ{a b} h=>BY h) λx hx=>by
  obtain⟨s,hs,rfl⟩:=A7.mp hx;obtain⟨w1,w2⟩:=I.way s hs;have:=Qc (n:=n) (t:=0) w1 λx hx=>⟨By _,(w2 x hx).2⟩;exact AZ.mpr this
 rw[AB,Cf] at z;exact z
def JM{s:uL}(h:s.Pairwise (· < ·))(hs:∀x∈s,x<n):s.length<=n:=by
 have z:=ST.Bw (l₁:=s) (l₂:=AR n) (h.imp λ{a b} h=>BY h) λx hx=>AZ.mpr (hs x hx);rw[Cf] at z;exact z
def pow12(h:n<=12):2 ^ n<=4096:=KM (by decide) h
def rTies(K:As)(H:Hp)(s:uL)(v:V):Prop:=∃p,v=.ref p/\H p=uA (.tup ((up s).map V.int))
def Ia(t:TSm H H')(h:BN (rTies K H) ss ys):BN (rTies K H') ss ys:=ut (by rintro _ _ ⟨p,e,hp⟩;exact⟨p,e,t p _ hp ⟨_,.inl rfl⟩⟩) h
def rSets(K:As)(H0:Hp)(S:Addr)(H:Hp)(ss:List uL)(v:V):Prop:=∃p ys,v=.ref p/\H0 p=uB/\p≠S/\H p=uA (.lst ys)/\BN (rTies K H) ss ys
def Py{H0:Hp}(e:∀b o,b≠S->H b=uA o->H' b=uA o)(hS:H S=uA (.lst xs))(h:rSets K H0 S H ss v):rSets K H0 S H' ss v:=by
 obtain⟨p,ys,rfl,h0,ne,hp,pr⟩:=h;exact⟨p,ys,rfl,h0,ne,e _ _ ne hp,Ia (tsX e hS) pr⟩
def Qt(K:As)(C:Addr):Sp:=λvs H Q _=>∃(p:Addr) (n hd:Nat) (rows:List Row),vs=[.ref p]/\SvAt K C H p n rows hd/\Ok n rows/\Knot rows hd/\n<=12/\rows.length<=4000 /\
 ∀(L:Addr) (ys:List V) (H':Hp),Same H H'->H L=none->H' L=uA (.lst ys)->BN (rTies K H') (setsOf rows hd) ys->Q (.ref L) H'
def Tj:∀{rows:List Row}{xs:List V},BN (rRow K H) rows xs->BN (rPair K H) (rows.map r3i) xs:=by
 intro l m h
 induction h with
 | nil=>exact .nil
 | cons h t ih=>obtain⟨p,e,h⟩:=h;exact .cons ⟨p,_,e,h,paired_ints (r3i _)⟩ ih
def Vs:FnScope ["sieve","sets","row"] zl24 (Ae YM):=fscp (by decide+kernel)
def AEw(F:Fun K "sets_of" "sets_of" YM f fd)(T:Txt K mg C)
  (GK:FnOk P w K mg base CX0 1 fK kF zl3 (Kr K C)) (bK:Binds K kF zl3 []) (mK:Meth K C "knots" fK)
  (GT:FnOk P w K mg base CX0 1 fT cm zl3 (ADL K C)) (bT:Binds K cm zl3 []) (mT:Meth K C "top" fT) :
  FnOk P w K mg base CX0 2 f fd zl24 (Qt K C):=by
 refine F.ok Vs (λvs H Q E h=>?_) (λa7 A outer s H vs Q E hr h=>?_)
 .obtain⟨p,n,hd,rows,rfl,_⟩:=h
  rfl
 obtain⟨p,n,hd,rows,rfl,hV,ok,kn,l9,r9,q⟩:=h;have bb:Room 1 _:=hr.mono (by decide);refine⟨_,Ad (Ak (i:=1) Vs.nd (Cu (Aa (Cu Ac) (Aa (Cu (Aa (Cr Ac) Ac)) Ac))))
  (Ad (Cv CY rfl (CQ (Bt (pv 0) T.cl mK GK bb bK .nil pass0)) (BP (i:=2) Vs.nd)
   (Ag (Ck (Ih Do EN EO Dd (pv 1) (Aa (Ar RW (Ay Bm (pv 1) (Ay Bc (pv 2) Af))
    (Bp (Ae YM) ["some"] ["row"] [2] rfl rfl (by decide+kernel) ⟨⟨rfl,by decide+kernel⟩,trivial⟩ (CQ (Ay Bm (pv 1) (Ay Bc (pv 2) Af)))
     (λ_ _ _=>BJ (i:=0)) (λ_ _ _=>Dl)
     (λ_ _ _=>Ar (ADe (K:=K) rfl) (Cr (Aa (Ay (Yx (K:=K) rfl) (pv 1) Af) Ac)) (pv 0)))) Ac)))))
  (Ag (Ao (Ay Bm (pv 1) (Bt (pv 0) T.cl mT GT bb bT .nil pass0))))),?_⟩
 obtain⟨dx,jj,hp,_⟩:=id hV;refine⟨By _,λL0 lP=>⟨By _,λT0 hT0=>⟨(by show 1<=sizeLine;decide),λL1 qt=>⟨(by show 2<=sizeLine;decide),λS hS=>?_⟩⟩⟩⟩;have sA:=uw lP (.lst []);have sB:=uw hT0 (.tup []);have sC:=uw qt (.lst [.ref T0]);have sD:=uw hS (.lst [.ref L0,.ref L1]);have s0:=sA.trans (sB.trans (sC.trans sD));have hSn:H S=uB:=by
  rcases h:H S with _| o
  .rfl
  .rw[(sA.trans (sB.trans sC)) _ _ h] at hS
   cases hS
 have n1:H L1=uB:=by
  rcases h:H L1 with _| o
  .rfl
  .rw[(sA.trans sB) _ _ h] at qt
   cases qt
 have e0:=(sB.trans (sC.trans sD)) _ _ (Ab (H:=H) (a:=L0) (o:=.lst []));have eT:=(sC.trans sD) _ _ (Ab (H:=upd H L0 (.lst [])) (a:=T0) (o:=.tup []));have e1:=sD _ _ (Ab (H:=upd (upd H L0 (.lst [])) T0 (.tup [])) (a:=L1) (o:=.lst [.ref T0]));have eS:(upd (upd (upd (upd H L0 (.lst [])) T0 (.tup [])) L1 (.lst [.ref T0])) S (.lst [.ref L0,.ref L1])) S=uA (.lst [.ref L0,.ref L1]):=Ab;have neS0:=Ai ((sB.trans sC) _ _ (Ab (H:=H) (a:=L0) (o:=.lst []))) hS;have neS1:=Ai (Ab (H:=upd (upd H L0 (.lst [])) T0 (.tup [])) (a:=L1) (o:=.lst [.ref T0])) hS;generalize upd (upd (upd (upd H L0 (.lst [])) T0 (.tup [])) L1 (.lst [.ref T0])) S (.lst [.ref L0,.ref L1])=H1 at s0 e0 eT e1 eS;refine⟨_,rfl,p,dx,_,rfl,s0 _ _ hp,rfl,p,n,hd,rows,rfl,hV.same s0,λl ys H2 s2 hl el px=>?_⟩;have lS:l≠S:=λe=>by
  rw[e,eS] at hl;cases hl
 have lx:=AY px;refine⟨l,rfl,⟨_,uj el⟩,?_⟩;refine Ej (K:=K) (a:=l) (xs:=ys) (λi σ H3=>∃(o:Option V) (xs:List V),σ=[uA (.ref p),uA (.ref S),o]/\(∀b u,b≠S->H2 b=uA u->H3 b=uA u)/\H3 S=uA (.lst xs)/\BN (rSets K H S H3) (setsUp (rows.take i)) xs)
  ⟨uB,_,rfl,λb u _ e=>e,s2 _ _ eS,?_⟩ (by rintro i σ H3 _ ⟨_,_,_,sm,_,_⟩;exact uj (sm _ _ lS el)) ?_ ?_
 .exact .cons ⟨L0,[],rfl,lP,neS0,s2 _ _ e0,.nil⟩ (.cons ⟨L1,[.ref T0],rfl,n1,neS1,s2 _ _ e1,uq ⟨T0,rfl,s2 _ _ eT⟩⟩ .nil)
 .rintro i x σ H3 hx ⟨o,xs,rfl,sm,kX,pS⟩
  have il:i<rows.length:=by rw[lx];exact(AG.mp hx).1
  obtain⟨r,hr',b,rfl,hb⟩:=Paired.get px hx;have qT:=(tsX sm (s2 _ _ eS)).seq hb;have okt:=AEm ok i;have lt:(rows.take i).length=i:=by rw[B4];exact xU il
  obtain⟨t1,lo1,lo2⟩:=ok i r hr';have kno:Knot (rows.take i) r.2.1:=by
   have:=lo1.1;show r.2.1<_;rw[lt];exact this
  have kni:Knot (rows.take i) r.2.2:=by
   have:=lo2.1;show r.2.2<_;rw[lt];exact this
  have IO:=GQ _ _ rfl okt _ kno;have II:=GQ _ _ rfl okt _ kni;have lO:=Xo IO;have lI:=Xo II;have p12:=pow12 l9;have lxs:=AY pS;rw[Dw,lt] at lxs;have at_:∀k,Knot (rows.take i) k->∃v,xs[k]?=uA v/\rSets K H S H3 (setsOf (rows.take i) k) v:=λk hk=>by
   have kl:k<(setsUp (rows.take i)).length:=by rw[Dw];exact hk
   obtain⟨v,h1,h2⟩:=ug pS (AI kl);refine⟨v,h1,?_⟩;unfold setsOf;rw[AD,AI kl];exact h2
  obtain⟨_,hvo,Lo,yo,rfl,o0,oS,eo,po⟩:=at_ _ kno;obtain⟨_,sP,Li,yi,rfl,i0,iS,ei,pi_⟩:=at_ _ kni;have lyo:=AY po;have lyi:=AY pi_;refine⟨_,rfl,.inl ⟨rfl,_,uj kX⟩,_,rfl,_,rfl,b,_,_,_,rfl,rfl,qT,at1,S,_,_,_,rfl,rfl,uj kX,Bk hvo,?_⟩;refine⟨_,rfl,_,rfl,b,_,_,_,rfl,rfl,qT,at2,S,_,_,_,rfl,rfl,uj kX,Bk sP,Li,rfl,⟨_,uj ei⟩,λD hD=>?_⟩;refine Cj (K:=K) (a:=Li) (xs:=yi) (λj τ H4=>∃(o:Option V) (zs:List V),τ=[o,uA (.ref b)]/\Same H3 H4/\H4 D=uA (.lst zs)/\BN (rTies K H4) (((setsOf (rows.take i) r.2.2).take j).map (r.1::·)) zs) ⟨uB,[],rfl,uw hD _,Ab,.nil⟩ (by rintro j τ H4 _ ⟨_,_,_,s3,_⟩;exact s3.seq (uj ei)) ?_ ?_
  .rintro j y τ H4 hy ⟨o,zs,rfl,s4,eD,pz⟩
   obtain⟨u,hu,ru⟩:=Paired.get pi_ hy;have jl:=(AG.mp hu).1;obtain⟨w1,w2⟩:=II.way u (AT hu);have ul:=JM w1 λx hx=>(w2 x hx).2;obtain⟨c,rfl,hc0⟩:=ru;have hc:SqT K H4 c ((up u).map V.int):=uk (s4 _ _ hc0);have hb4:=s4.ts.seq qT;have lz:=AY pz;rw[AB,B4] at lz;refine⟨_,rfl,b,_,_,_,rfl,rfl,hb4,at0,(by show 1<=sizeLine;decide),λT1 dL=>?_⟩;have s5:=uw dL (.tup [.int (r.1:Int)]);have hc5:=s5.ts.seq hc;have eT1:(upd H4 T1 (.tup [.int (r.1:Int)])) T1=uA (.tup [.int (r.1:Int)]):=Ab;have fin:∀(c2:Addr) (H6:Hp),Same H4 H6->H6 c2=uA (.tup ((up (r.1::u)).map V.int))->∃ys,H6 D=uA (.lst ys)/\ys.length<sizeLine/\∃(o:Option V) (zs:List V),[uA (V.ref c),uA (V.ref b)]=[o,uA (V.ref b)]/\Same H3 (upd H6 D (.lst (ys++[.ref c2])))/\(upd H6 D (.lst (ys++[.ref c2]))) D=uA (.lst zs)/\BN (rTies K (upd H6 D (.lst (ys++[.ref c2])))) (((setsOf (rows.take i) r.2.2).take (j+1)).map (r.1::·)) zs:=λc2 H6 s6 h6=>by
    have m4:=s6 _ _ eD;have tl:=ur (o:=.lst (zs++[.ref c2])) m4;refine⟨zs,m4,EV (show zs.length<=4096 by lia) (by decide),_,_,rfl,λb' o' e'=>?_,Ab,?_⟩
    .rw[Ah (Ai e' hD)]
     exact s6 _ _ (s4 b' o' e')
    .rw[take_snoc hu,BG]
     exact uo (Ia tl (Ia s6.ts pz)) (uq (⟨c2,rfl,tl _ _ h6 ⟨_,.inl rfl⟩⟩))
   refine⟨_,rfl,T1,c,_,_,rfl,rfl,uk eT1,hc5,BV (show _<=100000 by rw[AB];unfold up;rw[AB];show 1+_<=100000;lia) (by decide),λz=>(by cases z),λ_ z=>?_,λ_ z T2 hT2=>?_⟩
   .have u0:u=[]:=by
     cases u with
     | nil=>rfl
     | cons a t=>cases z
    subst u0;exact fin T1 _ s5 eT1
   .exact fin T2 _ (s5.trans (uw hT2 _)) Ab
  .rintro τ H4 ⟨o,zs,rfl,s4,eD,pz⟩
   have lz:=AY pz;rw[<- lyi,CU] at pz lz;rw[AB] at lz;refine⟨Lo,D,_,_,rfl,rfl,uj (s4 _ _ eo),uj eD,BV (show _<=8192 by lia) (by decide),λN hN=>?_⟩;have s5:=uw hN (.lst (yo++zs));have s6:=s4.trans s5;have eS6:=s6 _ _ kX;have neN:N≠S:=λe=>by
    rw[e,s4 _ _ kX] at hN;cases hN
   have hN0:H N=uB:=by
    rcases h:H N with _| u
    .rfl
    .have h2:=s2 _ _ (s0 _ _ h)
     rw[s4 _ _ (sm _ _ neN h2)] at hN;cases hN
   refine⟨S,xs,_,rfl,rfl,eS6,EV (show xs.length<=100000 by lia) (by decide),?_⟩;have k7:∀b u,b≠S->upd H4 N (.lst (yo++zs)) b=uA u->upd (upd H4 N (.lst (yo++zs))) S (.lst (xs++[.ref N])) b=uA u:=λb u ne e=>by rw[Ah ne];exact e
   refine⟨_,_,rfl,λb u ne e=>k7 _ _ ne (s6 _ _ (sm b u ne e)),Ab,?_⟩;rw[take_snoc hr',Ho];unfold addRow;refine uo (ut (λa v h=>Py k7 eS6 (Py (λb u _ e=>s6 b u e) kX h)) pS) (uq ⟨N,_,rfl,hN0,neN,k7 _ _ neN Ab,?_⟩);have t7:=tsX k7 eS6;exact Ia t7 (Ia s5.ts (uo (Ia s4.ts po) pz))
 .rintro σ H3 ⟨o,xs,rfl,sm,kX,pS⟩
  have tr:rows.take ys.length=rows:=by rw[<- lx,CU]
  rw[tr] at pS;have hV3:SvAt K C H3 p n rows hd:=by
   refine SvAt.same hV λb u e=>sm b u (Ai e hSn) (s2 _ _ (s0 b u e))
  have sH:Same H H3:=λb u e=>sm b u (Ai e hSn) (s2 _ _ (s0 b u e));refine⟨_,rfl,_,rfl,p,dx,_,rfl,sH _ _ hp,rfl,p,n,hd,rows,rfl,hV3,?_⟩;have kl:hd<(setsUp rows).length:=by rw[Dw];exact kn
  obtain⟨v,h1,L,zs,rfl,L0',LS,eL,pL⟩:=ug pS (AI kl);refine⟨S,_,_,_,rfl,rfl,uj kX,Bk h1,q L zs H3 sH L0' eL ?_⟩;unfold setsOf;rw[AD,AI kl];exact pL
end K31s
namespace G
abbrev Fs:=Nat->uX
def SymF(f:Fs):Prop:=∀x y,f x=uA y->f y=uA x
def stayF(f:Fs)(p:Nat):Prop:=f p=uB\/f p=uA p
noncomputable def tieF(f:Fs)(a b i j:Nat):Fs:=λx=>if x=j then uA i else if x=i then uA j else if x=a\/x=b then uB else f x
def acc(z:Nat):Fs->List (Nat×Nat)->Prop
 | _,[]=>False
 | f,e::E=>∃i j,f e.1=uA i/\f e.2=uA j/\((i=e.2/\E=[]/\∀p,p<z->p≠e.1->p≠e.2->stayF f p)\/(i≠e.2/\acc z (tieF f e.1 e.2 i j) E))
section
variable{f:Fs}{a b c d k l:Nat}
def SymF.tie(h:SymF f)(ha:f a=uA i)(hb:f b=uA j)(ab:a≠b)(ib:i≠b):SymF (tieF f a b i j):=by
 intro x y e;have h1:=h _ _ ha;have h2:=h _ _ hb;have h3:=h x y;unfold tieF at *
 grind (splits:=60)
def VR(h:SymF f)(ha:f a=uA i)(hb:f b=uA j)(ab:a≠b)(ib:i≠b)(hc:tieF f a b i j c=uA k):∃k',f c=uA k':=by
 have h1:=h _ _ ha;have h2:=h _ _ hb;unfold tieF at hc
 grind (splits:=60)
def VP(h:SymF f)(ha:f a=uA i)(hb:f b=uA j)(hc:f c=uA k)(ab:a≠b)(h1:tieF f a b i j c=uA k') :
  (c=i/\k=a/\k'=j)\/(c=j/\k=b/\k'=i)\/(c≠i/\c≠j/\c≠a/\c≠b/\k'=k/\k≠i/\k≠j/\k≠a/\k≠b):=by
 have e1:=h _ _ ha;have e2:=h _ _ hb;have e3:=h _ _ hc;unfold tieF at h1;by_cases c1:c=j
 .rw[uD c1] at h1
  rw[c1,e2] at hc;exact .inr (.inl ⟨c1,(AO hc).symm,(AO h1).symm⟩)
 rw[uC c1] at h1;by_cases c2:c=i
 .rw[uD c2] at h1
  rw[c2,e1] at hc;exact .inl ⟨c2,(AO hc).symm,(AO h1).symm⟩
 rw[uC c2] at h1;by_cases c3:c=a\/c=b
 .rw[uD c3] at h1;cases h1
 rw[uC c3,hc] at h1;have inj:∀{x y:Nat},f x=uA y->k=y->c=x:=λ{x y} e q=>by
  rw[q,h _ _ e] at e3;exact(AO e3).symm
 exact .inr (.inr ⟨c2,c1,λe=>c3 (.inl e),λe=>c3 (.inr e),(AO h1).symm,λe=>c3 (.inl (inj ha e)),λe=>c3 (.inr (inj hb e)),λe=>c2 (inj e1 e),λe=>c1 (inj e2 e)⟩)
def ABx(h:SymF f)(ha:f a=uA i)(hb:f b=uA j)(hc:f c=uA k)(hd:f d=uA l)(ab:a≠b)(cd:c≠d)(ib:i≠b)(kd:k≠d){j':Nat}
  (h1:tieF f a b i j c=uA k') (h2:tieF f a b i j d=uA l') (h3:tieF f c d k l a=uA i') (h4:tieF f c d k l b=uA j') :
  (k'=d↔i'=b)/\(k'≠d->tieF (tieF f a b i j) c d k' l'=tieF (tieF f c d k l) a b i' j'):=by
 have aj:a≠j:=λe=>ib (by have:=h _ _ hb;rw[<- e,ha] at this;exact AO this);have q1:=VP h ha hb hc ab h1;have q2:=VP h ha hb hd ab h2;clear h h1 h2 hc hd;unfold tieF at h3 h4;rcases q1 with⟨rfl,rfl,rfl⟩| ⟨rfl,rfl,rfl⟩| ⟨c1,c2,c3,c4,rfl,c5,c6,c7,c8⟩
 all_goals rcases q2 with⟨rfl,rfl,rfl⟩| ⟨rfl,rfl,rfl⟩| ⟨d1,d2,d3,d4,rfl,d5,d6,d7,d8⟩
 .exact uH rfl cd
 .rw[uC ab,uD rfl] at h3
  cases h3;exact⟨⟨λ_=>rfl,λ_=>rfl⟩,λn=>uH rfl n⟩
 .rw[uC (Bi d7),uD rfl] at h3
  rw[uC (Bi d8),uC (Bi ab),uC (λe=>e.elim (Bi ib) (Bi d4)),hb] at h4;cases h3;cases h4;refine⟨⟨λe=>uH e.symm d2,λe=>uH e d8⟩,λn=>funext λx=>?_⟩;clear ha hb;unfold tieF
  grind
 .rw[uD rfl] at h3
  cases h3;exact⟨⟨λ_=>rfl,λ_=>rfl⟩,λn=>uH rfl n⟩
 .exact uH rfl cd
 .rw[uC (Bi d7),uC ab,uC (λe=>e.elim aj (Bi d3)),ha] at h3
  rw[uC (Bi d8),uD rfl] at h4;cases h3;cases h4;refine⟨⟨λe=>uH e.symm d1,λe=>uH e ib⟩,λn=>funext λx=>?_⟩;clear ha hb;unfold tieF
  grind
 .rw[uD rfl] at h3
  rw[uC (Bi ab),uC (Bi c8),uC (λe=>e.elim (Bi c4) (Bi ib)),hb] at h4;cases h3;cases h4;refine⟨⟨λe=>uH e kd,λe=>uH e c8⟩,λn=>funext λx=>?_⟩;clear ha hb;unfold tieF
  grind
 .rw[uC ab,uC (Bi c7),uC (λe=>e.elim (Bi c3) aj),ha] at h3
  rw[uD rfl] at h4;cases h3;cases h4;refine⟨⟨λe=>uH e kd,λe=>uH e ib⟩,λn=>funext λx=>?_⟩;clear ha hb;unfold tieF
  grind
 .rw[uC (Bi d7),uC (Bi c7),uC (λe=>e.elim (Bi c3) (Bi d3)),ha] at h3
  rw[uC (Bi d8),uC (Bi c8),uC (λe=>e.elim (Bi c4) (Bi d4)),hb] at h4;cases h3;cases h4;refine⟨⟨λe=>uH e kd,λe=>uH e ib⟩,λn=>funext λx=>?_⟩;clear ha hb;unfold tieF
  grind
def AAy(h:SymF f)(ha:f a=uA i)(hb:f b=uA j)(hc:f c=uA k)(hd:f d=uA l)(ab:a≠b)(cd:c≠d)(ib:i≠b)(kd:k≠d)
  (h1:tieF f a b i j c=uA k') (h2:tieF f a b i j d=uA l'):∃i' j',tieF f c d k l a=uA i'/\tieF f c d k l b=uA j':=by
 have e1:=h _ _ ha;have e2:=h _ _ hb;have e3:=h _ _ hc;have e4:=h _ _ hd;unfold tieF at *
 grind (splits:=60)
def ABv(h:SymF f)(ha:f a=uA i)(hb:f b=uA j)(hc:f c=uA d)(ab:a≠b)(cd:c≠d)(ib:i≠b)
  (h1:tieF f a b i j c=uA k') (h2:tieF f a b i j d=uA l'):k'=d/\i≠c/\i≠d/\¬ stayF (tieF f a b i j) i:=by
 have e1:=h _ _ ha;have e2:=h _ _ hb;have e3:=h _ _ hc;unfold stayF tieF at *
 grind (splits:=60)
def ACi(h:SymF f)(ha:f a=uA i)(hb:f b=uA j)(hc:f c=uA k)(hd:f d=uA l)(ab:a≠b)(cd:c≠d)(ib:i≠b)(kd:k≠d)
  (h1:tieF f a b i j c=uA d) (h2:tieF f a b i j d=uA l') (h3:tieF f c d k l a=uA b) (h4:tieF f c d k l b=uA i') {p:Nat} (pa:p≠a) (pb:p≠b)
  (hs:p≠c->p≠d->stayF (tieF f a b i j) p):stayF (tieF f c d k l) p:=by
 have e1:=h _ _ ha;have e2:=h _ _ hb;have e3:=h _ _ hc;have e4:=h _ _ hd;unfold stayF tieF at *
 grind (splits:=60)
def RngF(z:Nat)(f:Fs):Prop:=∀x y,f x=uA y->x<z
def RngF.tie(r:RngF z f)(h:SymF f)(ha:f a=uA i)(hb:f b=uA j):RngF z (tieF f a b i j):=by
 intro x y e;have h1:=r _ _ (h _ _ ha);have h2:=r _ _ (h _ _ hb);have h3:=r x y;unfold tieF at *
 grind
def acc_swap(h:SymF f)(r:RngF z f)(ab:a≠b)(cd:c≠d){E:List (Nat×Nat)}:acc z f ((a,b)::(c,d)::E)->acc z f ((c,d)::(a,b)::E):=by
 rintro⟨i,j,ha,hb,⟨_,e,_⟩| ⟨ib,k',l',h1,h2,hh⟩⟩
 .cases e
 obtain⟨k,hc⟩:=VR h ha hb ab ib h1;obtain⟨l,hd⟩:=VR h ha hb ab ib h2;have kd:k≠d:=by
  intro e;subst e;obtain⟨e1,n1,n2,n3⟩:=ABv h ha hb hc ab cd ib h1 h2;rcases hh with⟨_,_,hs⟩| ⟨ne,_⟩
  .exact n3 (hs i (r _ _ (h _ _ ha)) n1 n2)
  .exact ne e1
 obtain⟨i',j',h3,h4⟩:=AAy h ha hb hc hd ab cd ib kd h1 h2;obtain⟨sU,eq1⟩:=ABx h ha hb hc hd ab cd ib kd h1 h2 h3 h4;refine⟨k,l,hc,hd,.inr ⟨kd,i',j',h3,h4,?_⟩⟩;rcases hh with⟨e,eE,hs⟩| ⟨ne,ac⟩
 .have e':=sU.mp e
  refine .inl ⟨e',eE,λp pz pa pb=>?_⟩;rw[show k'=d from e] at h1;rw[show i'=b from e'] at h3;exact ACi h ha hb hc hd ab cd ib kd h1 h2 h3 h4 pa pb λpc pd=>hs p pz pc pd
 .refine .inr ⟨λe=>ne (sU.mpr e),?_⟩
  rw[<- eq1 ne];exact ac
def JK{E:List (Nat×Nat)}(p:E.Perm E'):∀{f:Fs},SymF f->RngF z f->(∀e∈E,e.1≠e.2)->acc z f E->acc z f E':=by
 induction p with
 | nil=>intro f _ _ _ h;exact h
 | cons x p ih =>
  rintro f h r ne ⟨i,j,ha,hb,⟨e1,e2,hs⟩| ⟨n1,ac⟩⟩
  .refine⟨i,j,ha,hb,.inl ⟨e1,?_,hs⟩⟩
   subst e2;exact List.nil_perm.mp p
  .have nx:=ne x (AJ ..)
   exact⟨i,j,ha,hb,.inr ⟨n1,ih (h.tie ha hb nx n1) (r.tie h ha hb) (λe he=>ne e (AK _ he)) ac⟩⟩
 | swap x y l =>
  intro f h r ne;exact acc_swap h r (ne y (AJ ..)) (ne x (AK _ (AJ ..)))
 | trans p q qH tD =>
  intro f h r ne ac;exact tD h r (λe he=>ne e (p.mem_iff.mpr he)) (qH h r ne ac)
def GJ(h:SymF f)(ab:a≠b){E:List (Nat×Nat)}(ac:acc z f ((a,b)::E)):acc z f ((b,a)::E):=by
 obtain⟨i,j,ha,hb,⟨e1,e2,hs⟩| ⟨n1,ac⟩⟩:=ac
 .have e:j=a:=by
   have:=h _ _ ha;rw[show i=b from e1,hb] at this;exact AO this
  exact⟨j,i,hb,ha,.inl ⟨e,e2,λp pz pa pb=>hs p pz pb pa⟩⟩
 .refine⟨j,i,hb,ha,.inr ⟨λe=>n1 ?_,?_⟩⟩
  .have:=h _ _ hb
   rw[show j=a from e,ha] at this;exact AO this
  .have e:tieF f b a j i=tieF f a b i j:=by
    have e1:=h _ _ ha;have e2:=h _ _ hb
    funext x
    unfold tieF
    grind (splits:=60)
   rw[e];exact ac
theorem acc_open:∀{E:List (Nat×Nat)}{f:Fs},SymF f->RngF z f->(∀e∈E,e.1≠e.2)->∀{p:Nat},(∀e∈E,e.1≠p/\e.2≠p)->¬ stayF f p->¬ acc z f E
 | [],_,_,_,_,_,_,_=>id
 | e::E,f,h,r,ne,p,np,op=>by
  rintro⟨i,j,ha,hb,⟨e1,e2,hs⟩| ⟨n1,ac⟩⟩
  .obtain⟨n1,n2⟩:=np e (AJ ..)
   have pz:p<z:=by
    unfold stayF at op;cases hp:f p with
    | none=>exact uH (.inl hp) op
    | some q=>exact r _ _ hp
   exact op (hs p pz (Bi n1) (Bi n2))
  .have nx:=ne e (AJ ..)
   obtain⟨n3,n4⟩:=np e (AJ ..);refine acc_open (h.tie ha hb nx n1) (r.tie h ha hb) (λx hx=>ne x (AK _ hx)) (λx hx=>np x (AK _ hx)) ?_ ac;have e1:=h _ _ ha;have e2:=h _ _ hb;unfold stayF tieF at *
   grind (splits:=60)
end
noncomputable def oI(o:uX):Option Int:=o.map λn=>(n:Int)
structure Rl(z:Nat)(P:Nat->Prop)(st:StO)(f:Fs):Prop where
 len:st.length=z
 at_:∀x,x<z->¬ P x->st.getD x uB=oI (f x)
 ps:∀x,x<z->P x->st.getD x uB=uB/\stayF f x
 sym:SymF f
 rng:RngF z f
section
variable{P:Nat->Prop}{st:StO}{f:Fs}
def Rl.congr{P':Nat->Prop}(h:Rl z P st f)(e:∀x,x<z->(P x↔P' x)):Rl z P' st f:=⟨h.len,λx hx n=>h.at_ x hx λp=>n ((e x hx).mp p),λx hx p=>h.ps x hx ((e x hx).mpr p),h.sym,h.rng⟩
def Rl.stay(h:Rl z P st f){x:Nat}(hx:x<z):stayS st x=true↔stayF f x:=by
 unfold stayS;rw[decide_eq_true_iff];by_cases p:P x
 .obtain⟨h1,h2⟩:=h.ps x hx p
  exact⟨λ_=>h2,λ_=>.inl h1⟩
 .rw[h.at_ x hx p]
  unfold stayF oI;cases f x with
  | none=>simp
  | some y =>
   simp;lia
def Rl.ne(h:Rl z P st f){x:Nat}(hx:x<z):¬ st=[]:=λe=>by
 have:=h.len;rw[e] at this;exact uH hx (by rw[<- this];exact K4 _)
def Rl.pass(h:Rl z P st f){p:Nat}(hp:p<z):(passS1 st p=uB/\¬ stayF f p)\/(∃ah,passS1 st p=uA ah/\Rl z (λq=>P q\/q=p) ah f):=by
 unfold passS1;rw[uC (h.ne hp)];by_cases c:stayS st p=true
 .rw[uD c]
  refine .inr ⟨_,rfl,by rw[EU];exact h.len,λx hx n=>?_,λx hx pp=>?_,h.sym,h.rng⟩
  .rw[Dq _ _ _ _ λe=>n (.inr e)]
   exact h.at_ x hx λq=>n (.inl q)
  .by_cases e:x=p
   .subst e
    rw[Du,uD (by rw[h.len];exact hx)];exact⟨rfl,(h.stay hx).mp c⟩
   .rw[Dq _ _ _ _ e]
    exact h.ps x hx (pp.resolve_right e)
 .rw[uC c]
  exact .inl ⟨rfl,λs=>c ((h.stay hp).mpr s)⟩
theorem Rl.passes:∀(ps:uL) {P:Nat->Prop}{st:StO},Rl z P st f->(∀p∈ps,p<z)->(passS st ps=uB/\∃p∈ps,¬ stayF f p)\/(∃ah,passS st ps=uA ah/\Rl z (λq=>P q\/q∈ps) ah f)
 | [],P,st,h,_=>.inr ⟨st,rfl,h.congr λx _=>⟨.inl,λe=>e.resolve_right Da⟩⟩
 | p::ps,P,st,h,hp=>by
  show((passS1 st p).bind (λs=>passS s ps)=uB/\_)\/(∃ah,(passS1 st p).bind (λs=>passS s ps)=uA ah/\_);rcases h.pass (hp p (AJ ..)) with⟨e,n⟩| ⟨s1,e,h1⟩
  .rw[e]
   exact .inl ⟨rfl,p,AJ ..,n⟩
  .rw[e]
   rcases Rl.passes ps h1 λq hq=>hp q (AK _ hq) with⟨e2,q,hq,n⟩| ⟨s2,e2,h2⟩
   .exact .inl ⟨e2,q,AK _ hq,n⟩
   .refine .inr ⟨s2,e2,h2.congr λx _=>?_⟩
    rw[AW];exact or_assoc
def getD4{st:StO}{a b x:Nat}{v w:Option Int}(ha:a<st.length)(hb:b<st.length)(hi:i<st.length)(hj:j<st.length):((((st.set a uB).set b uB).set i v).set j w).getD x uB=if x=j then w else if x=i then v else if x=a\/x=b then uB else st.getD x uB:=by
 by_cases c1:x=j
 .rw[uD c1,c1,Du,uD (by simp only[EU];exact hj)]
 rw[uC c1,Dq _ _ _ _ c1];by_cases c2:x=i
 .rw[uD c2,c2,Du,uD (by simp only[EU];exact hi)]
 rw[uC c2,Dq _ _ _ _ c2];by_cases c3:x=b
 .rw[uD (.inr c3),c3,Du]
  split<;>rfl
 rw[Dq _ _ _ _ c3];by_cases c4:x=a
 .rw[uD (.inl c4),c4,Du]
  split<;>rfl
 rw[Dq _ _ _ _ c4,uC λe=>e.elim c4 c3]
def Rl.tie(h:Rl z P st f){a b:Nat}(az:a<z)(bz:b<z)(na:¬ P a)(nb:¬ P b)(ab:a≠b)(ha:f a=uA i)(hb:f b=uA j)(ib:i≠b):Rl z P (tiedS st a b) (tieF f a b i j):=by
 have iz:=h.rng _ _ (h.sym _ _ ha);have jz:=h.rng _ _ (h.sym _ _ hb);have e1:st.getD a uB=uA (i:Int):=by rw[h.at_ a az na,ha];rfl
 have e2:st.getD b uB=uA (j:Int):=by rw[h.at_ b bz nb,hb];rfl
 have et:tiedS st a b=(((st.set a uB).set b uB).set i (uA (j:Int))).set j (uA (i:Int)):=by
  unfold tiedS;rw[e1,e2];rfl
 have np:∀{x y:Nat},¬ P x->f x=uA y->¬ P y:=λ{x y} n e p=>by
  rcases (h.ps y (h.rng _ _ (h.sym _ _ e)) p).2 with s| s
  .rw[h.sym _ _ e] at s;cases s
  .rw[h.sym _ _ e] at s
   exact n (AO s ▸ p)
 have ni:=np na ha;have nj:=np nb hb;have l:=h.len;refine⟨by rw[et];simp only[EU];exact l,λx hx n=>?_,λx hx p=>?_,h.sym.tie ha hb ab ib,h.rng.tie h.sym ha hb⟩
 .rw[et,getD4 (dl az l) (dl bz l) (dl iz l) (dl jz l)]
  unfold tieF;rw[h.at_ x hx n];split
  .rfl
  .split
   .rfl
   .split<;>rfl
 .have x1:x≠j:=λe=>nj (e ▸ p)
  have x2:x≠i:=λe=>ni (e ▸ p);have x3:x≠a:=λe=>na (e ▸ p);have x4:x≠b:=λe=>nb (e ▸ p);obtain⟨h1,h2⟩:=h.ps x hx p;rw[et,getD4 (dl az l) (dl bz l) (dl iz l) (dl jz l),uC x1,uC x2,uC (λe=>e.elim x3 x4)];refine⟨h1,?_⟩;unfold stayF tieF;rw[uC x1,uC x2,uC (λe=>e.elim x3 x4)];exact h2
end
section
variable{ea eb L:Nat->Nat}
noncomputable abbrev semS(z:Nat)(ea eb L:Nat->Nat):Nat->Nat->Option StO->uL->Bool:=semO (λ_ s=>uA s) (λt s=>takeS s (ea t) (eb t)) (λt s=>passS s ((AR z).filter λp=>decide (L p=t))) (λs=>decide (s=[]))
theorem Jm:∀ps:uL,passS [] ps=uA []
 | []=>rfl
 | _::ps=>Jm ps
def Hv(d t:Nat)(s:uL):semS z ea eb L d t uB s=false:=by cases d<;>rfl
def above{t d x:Nat}{xs:uL}(pw:(x::xs).Pairwise (· < ·))(h:∀y∈x::xs,t<=y/\y<t+(d+1))(c:¬ x=t):∀y∈x::xs,t+1<=y/\y<t+1+d:=λy hy=>by
 have h1:=h x (AJ ..);have h2:=h y hy;rcases AW.mp hy with e| e
 ·lia
 .have:=(Cs.mp pw).1 y e
  lia
theorem Lh:∀(d t:Nat) (sl:uL),sl.Pairwise (· < ·)->(∀x∈sl,t<=x/\x<t+d)->(semS z ea eb L d t (uA []) sl=true↔sl=[])
 | 0,t,sl,pw,h=>by
  have e:sl=[]:=by
   cases sl with
   | nil=>rfl
   | cons x xs=>have:=h x (AJ ..);lia
  subst e;simp[semS,semO,Jm]
 | d+1,t,sl,pw,h=>by
  have e:semS z ea eb L (d+1) t (uA []) sl=stepO (λ_ s=>uA s) (λt s=>takeS s (ea t) (eb t)) t (semS z ea eb L d (t+1)) [] sl:=by simp[semS,semO,Jm]
  rw[e];cases sl with
  | nil=>exact Lh d (t+1) [] .nil λx hx=>by cases hx
  | cons x xs =>
   have hx:=h x (AJ ..);show(if x<t then false else if x=t then semS z ea eb L d (t+1) (takeS [] (ea t) (eb t)) xs else semS z ea eb L d (t+1) (uA []) (x::xs))=true↔_;rw[uC (zr hx)];by_cases c:x=t
   .rw[uD c,show takeS [] (ea t) (eb t)=uB from uD (.inl rfl),Hv]
    exact⟨λh=>(by cases h),λh=>(by cases h)⟩
   .rw[uC c]
    exact Lh d (t+1) (x::xs) pw (above pw h c)
def Vt(z1:1<=z)(hz:∀x,x<n->ea x<z/\eb x<z/\ea x≠eb x/\x<L (ea x)/\x<L (eb x)):∀(d t:Nat) (st:StO) (f:Fs) (sl:uL),t+d=n->Rl z (λp=>L p<t) st f->sl.Pairwise (· < ·)->(∀x∈sl,t<=x/\x<t+d) ->
  (semS z ea eb L d t (uA st) sl=true↔acc z f (sl.map λx=>(ea x,eb x))):=by
 intro d
 induction d with
 | zero =>
  intro t st f sl e R pw hs;have sn:sl=[]:=by
   cases sl with
   | nil=>rfl
   | cons x xs=>have:=hs x AJ;lia
  subst sn;refine⟨λh=>?_,λh=>h.elim⟩;rcases R.passes ((AR z).filter λp=>decide (L p=t)) (λp hp=>AZ.mp (BO.mp hp).1) with⟨e1,_⟩| ⟨s',e1,R'⟩
  .simp[semS,semO,e1] at h
  .simp only[semS,semO,e1,FV,decide_eq_true_iff] at h
   exact uH h.1 (R'.ne z1)
 | succ d ih =>
  intro t st f sl e R pw hs;have edge:∀x∈sl.map (λx=>(ea x,eb x)),x.1≠x.2:=λx hx=>by
   obtain⟨y,hy,rfl⟩:=A7.mp hx;exact(hz y (by have:=hs y hy;exact zt e this)).2.2.1
  rcases R.passes ((AR z).filter λp=>decide (L p=t)) (λp hp=>AZ.mp (BO.mp hp).1) with⟨e1,p,hp,np⟩| ⟨s',e1,R0⟩
  .have lp:=uG (BO.mp hp).2
   refine⟨λh=>by simp[semS,semO,e1] at h,λh=>?_⟩;refine uH h (acc_open R.sym R.rng edge (λx hx=>?_) np);obtain⟨y,hy,rfl⟩:=A7.mp hx;obtain⟨h1,h2,h3,h4,h5⟩:=hz y (by have:=hs y hy;exact zt e this);have:=hs y hy;exact⟨λc=>by rw[show ea y=p from c] at h4;exact zu h4 lp this,λc=>by rw[show eb y=p from c] at h5;exact zu h5 lp this⟩
  have R':Rl z (λp=>L p<t+1) s' f:=R0.congr λx hx=>by
   rw[BO,AZ,decide_eq_true_iff];lia
  have e2:semS z ea eb L (d+1) t (uA st) sl=stepO (λ_ s=>uA s) (λt s=>takeS s (ea t) (eb t)) t (semS z ea eb L d (t+1)) s' sl:=by simp only[semS,semO,e1]
  rw[e2];cases sl with
  | nil=>exact ih (t+1) s' f [] (wz e) R' .nil λx hx=>by cases hx
  | cons x xs =>
   have hx:=hs x (AJ ..);show(if x<t then false else if x=t then semS z ea eb L d (t+1) (takeS s' (ea t) (eb t)) xs else semS z ea eb L d (t+1) (uA s') (x::xs))=true↔_;rw[uC (zr hx)];by_cases c:x=t
   .subst c
    rw[uD rfl];obtain⟨az,bz,ab,la,lb⟩:=hz x (xi e);have pw':=(Cs.mp pw).2;have oz:∀y∈xs,x+1<=y/\y<x+1+d:=λy hy=>by
     have h1:=(Cs.mp pw).1 y hy;have h2:=hs y (AK _ hy);lia
    have ga:=R'.at_ _ az (wo la);have gb:=R'.at_ _ bz (wo lb);show _↔∃i j,f (ea x)=uA i/\f (eb x)=uA j/\_;unfold takeS;cases fa:f (ea x) with
    | none =>
     rw[fa] at ga;rw[uD (.inr (.inl ga)),Hv];exact⟨λh=>(by cases h),λ⟨i,j,h,_⟩=>(by cases h)⟩
    | some i =>
     cases fb:f (eb x) with
     | none =>
      rw[fb] at gb;rw[uD (.inr (.inr gb)),Hv];exact⟨λh=>(by cases h),λ⟨i,j,_,h,_⟩=>(by cases h)⟩
     | some j =>
      rw[fa] at ga;rw[fb] at gb;have n0:¬ (s'=[]\/s'.getD (ea x) uB=uB\/s'.getD (eb x) uB=uB):=by
       rintro(h| h| h)
       .exact R'.ne z1 h
       .rw[ga] at h;cases h
       .rw[gb] at h;cases h
      rw[uC n0,ga];by_cases cl:i=eb x
      .rw[uD (show oI (uA i)=uA (eb x:Int) by rw[cl];rfl)]
       have all:((AR s'.length).filter λp=>decide (p≠ea x/\p≠eb x)).all (stayS s')=true↔∀p,p<z->p≠ea x->p≠eb x->stayF f p:=by
        rw[EW,R'.len];constructor
        .intro h p pz n1 n2
         exact(R'.stay pz).mp (h p (BO.mpr ⟨AZ.mpr pz,uE ⟨n1,n2⟩⟩))
        .intro h p hp
         obtain⟨h1,h2⟩:=BO.mp hp;have pz:=AZ.mp h1;obtain⟨n1,n2⟩:=uG h2;exact(R'.stay pz).mpr (h p pz n1 n2)
       unfold JV;by_cases ca:((AR s'.length).filter λp=>decide (p≠ea x/\p≠eb x)).all (stayS s')=true
       .rw[uD ca,Lh d (x+1) xs pw' oz]
        refine⟨λh=>⟨i,j,rfl,rfl,.inl ⟨cl,by rw[h];rfl,all.mp ca⟩⟩,?_⟩;rintro⟨i',j',h1,h2,⟨_,h3,_⟩| ⟨h3,_⟩⟩
        .exact HH.mp h3
        .exact uH (AO h1 ▸ cl) h3
       .rw[uC ca,Hv]
        refine⟨λh=>(by cases h),?_⟩;rintro⟨i',j',h1,h2,⟨_,_,h3⟩| ⟨h3,_⟩⟩
        .exact uH (all.mpr h3) ca
        .exact uH (AO h1 ▸ cl) h3
      .rw[uC (show ¬ oI (uA i)=uA (eb x:Int) from λh=>cl (by unfold oI at h;simp at h;exact uy h))]
       have RT:=R'.tie az bz (wo la) (wo lb) ab fa fb cl;rw[ih (x+1) _ _ xs (wz e) RT pw' oz];refine⟨λh=>⟨i,j,rfl,rfl,.inr ⟨cl,h⟩⟩,?_⟩;rintro⟨i',j',h1,h2,⟨h3,_⟩| ⟨_,h3⟩⟩
       .exact uH (AO h1 ▸ h3) cl
       .cases h1
        cases h2;exact h3
   .rw[uC c]
    exact ih (t+1) s' f (x::xs) (wz e) R' pw λy hy=>by have:=above pw hs c y hy;exact this
end
end G
namespace K31
open PySem L2 G
structure Gro(K:As)(mg:Str->Option AA)(Gc:Addr):Prop where
 cl:Cls K Gc
 mgG:mg "Growth" = uA (.ref Gc)
 nW:NoAttr K Gc "web"
 nU:NoAttr K Gc "rule"
 nA:NoAttr K Gc "amount"
 nB:NoAttr K Gc "behind"
 nR:NoAttr K Gc "rows"
 nK:NoAttr K Gc "known"
noncomputable def gf(W r:Addr)(n:Int)(Bh R D:Addr):List (Str×V):=putF "known" (.ref D) (putF "rows" (.ref R) (putF "behind" (.ref Bh) (putF "amount" (.int n) (putF "rule" (.ref r) (putF "web" (.ref W) [])))))
section
variable (W r Bh R D:Addr)(n:Int)
def MF:(gf W r n Bh R D).lookup ("known" : Str)=uA (.ref D):=by unfold gf;rw[Aj,uD rfl]
def RB:(gf W r n Bh R D).lookup ("rows" : Str)=uA (.ref R):=by unfold gf;rw[Aj,uC (by decide+kernel),Aj,uD rfl]
def AAS:(gf W r n Bh R D).lookup ("behind" : Str)=uA (.ref Bh):=by unfold gf;rw[Aj,uC (by decide+kernel),Aj,uC (by decide+kernel),Aj,uD rfl]
def PL:(gf W r n Bh R D).lookup ("amount" : Str)=uA (.int n):=by unfold gf;rw[Aj,uC (by decide+kernel),Aj,uC (by decide+kernel),Aj,uC (by decide+kernel),Aj,uD rfl]
def LK:(gf W r n Bh R D).lookup ("rule" : Str)=uA (.ref r):=by unfold gf;rw[Aj,uC (by decide+kernel),Aj,uC (by decide+kernel),Aj,uC (by decide+kernel),Aj,uC (by decide+kernel),Aj,uD rfl]
def Qo:(gf W r n Bh R D).lookup ("web" : Str)=uA (.ref W):=by unfold gf;rw[Aj,uC (by decide+kernel),Aj,uC (by decide+kernel),Aj,uC (by decide+kernel),Aj,uC (by decide+kernel),Aj,uC (by decide+kernel),Aj,uD rfl]
def AIX{m:Str}(h1:¬ m = "known")(h2:¬ m = "rows")(h3:¬ m = "behind")(h4:¬ m = "amount")(h5:¬ m = "rule")(h6:¬ m = "web"):(gf W r n Bh R D).lookup m=uB:=by
 unfold gf;rw[Aj,uC h1,Aj,uC h2,Aj,uC h3,Aj,uC h4,Aj,uC h5,Aj,uC h6]
 all_goals rfl
end
structure Wr where
 ps:StO->Nat->Option StO
 tk:StO->Nat->Nat->Option StO
 fu:StO->Bool
 pre:StO->Nat->Nat->Prop
 vld:Nat->StO->Prop
 fl:List (Str×V)
 nP:fl.lookup ("passed" : Str)=uB
 nL:fl.lookup ("left" : Str)=uB
 nT:fl.lookup ("taken" : Str)=uB
 nU:fl.lookup ("fulfilled" : Str)=uB
 nB:fl.lookup ("begun" : Str)=uB
noncomputable def passU(u:Wr):StO->uL->Option StO
 | st,[]=>uA st
 | st,p::ps=>(u.ps st p).bind λs=>passU u s ps
theorem Oc(u:Wr):∀(ps qs:uL) (st:StO),passU u st (ps++qs)=(passU u st ps).bind λs=>passU u s qs
 | [],qs,st=>rfl
 | p::ps,qs,st=>by
  show(u.ps st p).bind _=((u.ps st p).bind _).bind _;cases u.ps st p with
  | none=>rfl
  | some s=>exact Oc u ps qs s
structure Gr(u:Wr)(K:As)(C Dc Gc:Addr)(g W r Bh R D:Addr)(z:Nat)(bs:uJ)(H:Hp):Prop where
 ins:∃dx,H g=uA (.ins Gc dx (gf W r bs.length Bh R D))
 web:WebAt K C H W z bs
 rul:∃dx,H r=uA (.ins Dc dx u.fl)
 beh:∃ys,H Bh=uA (.lst ys)/\Bh≠R/\BN (λt v=>∃l,v=.ref l/\l≠R/\H l=uA (.lst (nI (behP bs z t)))) (AR (bs.length+1)) ys
section
variable{u:Wr}{Dc g W Bh:Addr}{bs:uJ}{φ:Heap->Prop}
def tsRD(e:∀b o,b≠R->b≠D->H b=uA o->H' b=uA o)(hR:H R=uA (.lst xs))(hD:H D=uA (.ext φ)):TSm H H':=λb u hb t=>by
 have ne:∀{x:Addr}{o:HO},H x=uA o->(∀ys,o≠.tup ys)->(∀q ys,o≠.frz q (.tup ys))->b≠x:=λ{x o} hx h1 h2 zz=>by
  rw[zz,hx] at hb;cases hb;obtain⟨ys,e| ⟨q,e⟩⟩:=t
  .exact h1 ys e
  .exact h2 q ys e
 exact e b u (ne hR (by intro _ z;cases z) (by intro _ _ z;cases z)) (ne hD (by intro _ z;cases z) (by intro _ _ z;cases z)) hb
def Gr.keep(h:Gr u K C Dc Gc g W r Bh R D z bs H)(e:∀b o,b≠R->b≠D->H b=uA o->H' b=uA o)(hR:H R=uA (.lst xs))(hD:H D=uA (.ext φ)):Gr u K C Dc Gc g W r Bh R D z bs H':=by
 have ts:=tsRD e hR hD;have ni:∀{x c dx:Addr}{fs:List (Str×V)},H x=uA (.ins c dx fs)->H' x=uA (.ins c dx fs):=λ{x c dx fs} hx=>e _ _ (DP hx hR (by intro z;cases z)) (DP hx hD (by intro z;cases z)) hx;have nl:∀{x:Addr}{l:List V},x≠R->H x=uA (.lst l)->H' x=uA (.lst l):=λ{x l} hn hx=>e _ _ hn (DP hx hD (by intro z;cases z)) hx;obtain⟨d1,i1⟩:=h.ins;obtain⟨d2,j,i2,i3⟩:=h.web;obtain⟨d3,i4⟩:=h.rul;obtain⟨ys,b1,b2,b3⟩:=h.beh;exact⟨⟨d1,ni i1⟩,⟨d2,j,ni i2,Aq (Aq Aw) _ _ _ _ ts i3⟩,⟨d3,ni i4⟩,⟨ys,nl b2 b1,b2,ut (by rintro t v ⟨l,c1,c2,c3⟩;exact⟨l,c1,c2,nl c2 c3⟩) b3⟩⟩
def Gr.same(h:Gr u K C Dc Gc g W r Bh R D z bs H)(e:Same H H'):Gr u K C Dc Gc g W r Bh R D z bs H':=by
 obtain⟨d1,i1⟩:=h.ins;obtain⟨d3,i4⟩:=h.rul;obtain⟨ys,b1,b2,b3⟩:=h.beh;exact⟨⟨d1,e _ _ i1⟩,h.web.same e,⟨d3,e _ _ i4⟩,⟨ys,e _ _ b1,b2,ut (by rintro t v ⟨l,c1,c2,c3⟩;exact⟨l,c1,c2,e _ _ c3⟩) b3⟩⟩
end
def StAt(K:As)(H:Hp)(b:Addr)(st:StO):Prop:=SqT K H b (st.map oV)
def RS(u:Wr)(K:As)(z:Nat)(H:Hp)(v:V):Option StO->Prop
 | none=>v=.non
 | some st=>∃b,v=.ref b/\StAt K H b st/\u.vld z st
def Ux(u:Wr)(K:As)(D:Addr):Sp:=λvs H Q _=>∃(p:V) (b dx a:Addr) (q z:Nat) (st:StO),vs=[.ref a,p,.ref b,.int q]/\H a=uA (.ins D dx u.fl)/\StAt K H b st/\u.vld z st/\q<z/\z<=10 /\
 ∀(v':V) (H':Hp),Same H H'->RS u K z H' v' (u.ps st q)->Q v' H'
def Wk(u:Wr)(K:As)(C Dc Gc:Addr):Sp:=λvs H Q _=>∃(g W r Bh R D:Addr) (z t:Nat) (bs:uJ) (v:V) (o:Option StO),vs=[.ref g,.int t,v]/\Gr u K C Dc Gc g W r Bh R D z bs H/\z<=10/\t<=bs.length/\RS u K z H v o /\
 ∀(v':V) (H':Hp),Same H H'->RS u K z H' v' (o.bind λr=>passU u r (behP bs z t))->Q v' H'
section
variable{u:Wr}
def QV:FnScope ["self","number","reached","state","point"] zl25 (Ae ADH):=fscp (by decide+kernel)
def ADq(F:Fun K "past_points" "Growth.past_points" ADH f fd)(cD:Cls K D)(O:Gro K mg Gc)(GP:FnOk P w K mg base CX0 3 fP ie zl12 (Ux u K D))(bP:Binds K ie zl12 [])(mP:Meth K D "passed" fP) :
  FnOk P w K mg base CX0 4 f fd zl25 (Wk u K C D Gc):=by
 refine F.ok QV (λvs H Q E h=>?_) (λa7 A outer s H vs Q E hr h=>?_)
 .obtain⟨g,W,r,Bh,R,Dk,z,t,bs,v,o,rfl,_⟩:=h
  rfl
 obtain⟨g,W,r,Bh,R,Dk,z,t,bs,v,o,rfl,gr,z10,tb,rs,q⟩:=h;refine⟨_,Ad (Ak (i:=3) QV.nd (pv 2))
  (Ad (Cv CY rfl (CQ (Ay Bm (Bg (pv 0) rfl) (pv 1))) (BP (i:=4) QV.nd)
   (Ag (Bl (Im (AFi (pv 3))) (Ag (Ak (i:=3) QV.nd (Bq (Bg (pv 0) rfl) cD mP GP hr bP .nil pass0 (Aa (Bg (pv 0) rfl) (Aa (pv 3) (Aa (pv 4) Ac)))))) BK)))
  (Ag (Ao (pv 3)))),?_⟩
 obtain⟨dg,hg⟩:=gr.ins;obtain⟨dr,gE⟩:=gr.rul;obtain⟨ys,hB,_,pB⟩:=gr.beh;have lB:=AY pB;rw[Cf] at lB;have tl:t<ys.length:=by lia
 obtain⟨t',m3,l,el,_,hl⟩:=Paired.get pB (AI tl);have et:t'=t:=by
  have:=(AG.mp m3).2;rw[List.getElem_range] at this;exact this.symm
 subst et;have t8:atI ys (t':Int)=uA (.ref l):=by
  rw[<- el];exact Bk (AI tl)
 refine⟨_,rfl,?_⟩;refine⟨_,rfl,g,Gc,dg,_,_,rfl,hg,O.cl,O.nB,AAS _ _ _ _ _ _,_,rfl,Bh,ys,_,_,rfl,rfl,uj hB,t8,l,rfl,⟨_,uj hl⟩,?_⟩;refine Ej (K:=K) (a:=l) (xs:=nI (behP bs z t')) (λi σ H2=>∃(v':V) (o4:Option V),σ=[uA (.ref g),uA (.int t'),uA v,uA v',o4]/\Same H H2/\RS u K z H2 v' (o.bind λr=>passU u r ((behP bs z t').take i)))
  ⟨v,uB,rfl,um _,by
   have e:(o.bind λr=>passU u r ((behP bs z t').take 0))=o:=by cases o<;>rfl
   rw[e];exact rs⟩ (by rintro i σ H2 _ ⟨_,_,_,s2,_⟩;exact s2.seq (uj hl)) ?_ ?_
 .rintro i x σ H2 hx ⟨v',o4,rfl,s2,rs2⟩
  obtain⟨pt,hp,rfl⟩:=RX hx;have pz:=AZ.mp (BO.mp (AT hp)).1;have step:(o.bind λr=>passU u r ((behP bs z t').take (i+1)))=(o.bind λr=>passU u r ((behP bs z t').take i)).bind λs=>u.ps s pt:=by
   cases o with
   | none=>rfl
   | some r =>
    rw[D9,hp];show passU u r (_++[pt])=_;rw[Oc u]
    congr 1
    funext s
    show(u.ps s pt).bind (λs=>uA s)=_;cases u.ps s pt<;>rfl
  cases e:(o.bind λr=>passU u r ((behP bs z t').take i)) with
  | none =>
   rw[e] at rs2 step;cases rs2;refine⟨_,rfl,_,rfl,iteF ⟨.non,_,rfl,s2,?_⟩⟩;rw[step];exact rfl
  | some st =>
   rw[e] at rs2 step;obtain⟨b,rfl,hb,sl⟩:=rs2;refine⟨_,rfl,_,rfl,iteT ?_⟩;refine⟨_,rfl,g,Gc,dg,_,_,rfl,s2 _ _ hg,O.cl,O.nU,LK _ _ _ _ _ _,r,dr,_,rfl,s2 _ _ gE,u.nP,_,rfl,g,Gc,dg,_,_,rfl,s2 _ _ hg,O.cl,O.nW,Qo _ _ _ _ _ _,_,rfl,_,rfl,.ref W,b,dr,r,pt,z,st,rfl,s2 _ _ gE,hb,sl,pz,z10,λv3 H3 s3 rs3=>?_⟩;refine⟨_,_,rfl,s2.trans s3,?_⟩;rw[step];exact rs3
 .rintro σ H2 ⟨v',o4,rfl,s2,rs2⟩
  rw[DQ,CU] at rs2;exact⟨_,rfl,q v' H2 s2 rs2⟩
end
def ea(bs:uJ)(t:Nat):Nat:=((bs.getD t []).getD 0 0).toNat
def eb(bs:uJ)(t:Nat):Nat:=((bs.getD t []).getD 1 0).toNat
def OkB(z:Nat)(bs:uJ):Prop:=∀t∈bs,∃x y:Nat,t=[(x:Int),(y:Int)]/\x<z/\y<z
def lefU(_:Nat)(st:StO):Option StO:=uA st
def takU(u:Wr)(bs:uJ)(t:Nat)(st:StO):Option StO:=u.tk st (ea bs t) (eb bs t)
noncomputable abbrev semC(u:Wr)(bs:uJ)(z d t:Nat):Option StO->uL->Bool:=semO lefU (takU u bs) (λt r=>passU u r (behP bs z t)) u.fu d t
def Good(u:Wr)(bs:uJ)(z:Nat)(G:Nat->Option StO->Prop):Prop:=∀(t:Nat) (o:Option StO) (st:StO),t<bs.length->G t o->(o.bind λr=>passU u r (behP bs z t))=uA st->u.pre st (ea bs t) (eb bs t)/\G (t+1) (uA st)/\G (t+1) (takU u bs t st)
abbrev keyC(t:Nat)(st:StO):OKey:=(uA (t:Int),st)
def Uv{t:Nat}{st ah:StO}(h:keyC t st=keyC t' ah):t=t'/\st=ah:=by
 injection h with h1 h2
 injection h1 with h1
 exact⟨uy h1,h2⟩
def Known(u:Wr)(bs:uJ)(z:Nat)(rows:List Row)(af:List (OKey×V)):Prop:=∀(t:Nat) (st:StO) (v:V),valV af (keyC t st)=uA v->∃k:Nat,v=.int k/\t<bs.length/\Lead rows t k (stepO lefU (takU u bs) t (semC u bs z (bs.length-1-t) (t+1)) st)
def Known.app{u:Wr}{bs:uJ}{rows more:List Row}{af:List (OKey×V)}(o:Ok bs.length rows)(h:Known u bs z rows af):Known u bs z (rows++more) af:=λt st v hv=>let ⟨k,e,tl,ld⟩:=h t st v hv;⟨k,e,tl,ld.app o⟩
def Vw{x:Addr}{t:Nat}{st:StO}(hx:H x=uA (.tup [.int (t:Int),.ref b]))(hb:StAt K H b st):OAt K H (keyC t st) x:=⟨b,hx,hb⟩
structure Rw(u:Wr)(P:AM)(w:AS)(K:As)(R D:Addr)(bs:uJ)(z:Nat)(H:Hp)(rows:List Row)(af:List (OKey×V)):Prop where
 at_:∃xs,H R=uA (.lst xs)/\BN (K31s.rRow K H) rows xs
 dn:DO K P w H D af
 ok:Ok bs.length rows
 kn:Known u bs z rows af
 len:af.length<=rows.length
def Old(t:Nat)(af bj:List (OKey×V)):Prop:=∀(t':Nat) (st:StO),t'<t->valV bj (keyC t' st)=valV af (keyC t' st)
def ABs{u:Wr}{bs:uJ}{d t:Nat}{o:Option StO}(h:(o.bind λr=>passU u r (behP bs z t))=uB)(s:uL):semC u bs z d t o s=false:=by
 cases o with
 | none=>cases d<;>rfl
 | some r =>
  have h':passU u r (behP bs z t)=uB:=h;cases d with
  | zero=>show(match passU u r (behP bs z t) with| none=>false| some st=>_)=false;rw[h']
  | succ d=>show(match passU u r (behP bs z t) with| none=>false| some st=>_)=false;rw[h']
def Xu{u:Wr}{bs:uJ}{t:Nat}{o:Option StO}{st:StO}(h:(o.bind λr=>passU u r (behP bs z t))=uA st)(s:uL):semC u bs z 0 t o s=(u.fu st&&decide (s=[])):=by
 cases o with
 | none=>cases h
 | some r =>
  have h':passU u r (behP bs z t)=uA st:=h;show(match passU u r (behP bs z t) with| none=>false| some st=>u.fu st&&decide (s=[]))=_;rw[h']
def ACx{u:Wr}{bs:uJ}{d t:Nat}{o:Option StO}{st:StO}(h:(o.bind λr=>passU u r (behP bs z t))=uA st):semC u bs z (d+1) t o=stepO lefU (takU u bs) t (semC u bs z d (t+1)) st:=by
 funext s
 cases o with
 | none=>cases h
 | some r =>
  have h':passU u r (behP bs z t)=uA st:=h;show(match passU u r (behP bs z t) with| none=>false| some st=>stepO lefU (takU u bs) t (semC u bs z d (t+1)) st s)=_;rw[h']
def Vo:Sp:=λvs H Q _=>∃(r p b x:V),vs=[r,p,b,x]/\Q b H
def ACb(u:Wr)(K:As):Sp:=λvs H Q _=>∃(r p:V) (b:Addr) (st:StO),vs=[r,p,.ref b]/\StAt K H b st/\Q (.bl (u.fu st)) H
def QK(u:Wr)(K:As)(C D:Addr):Sp:=λvs H Q _=>∃(a p b dx:Addr) (t z:Nat) (bs:uJ) (st:StO),vs=[.ref a,.ref p,.ref b,.int t]/\H a=uA (.ins D dx u.fl)/\WebAt K C H p z bs/\OkB z bs/\StAt K H b st/\u.vld z st/\u.pre st (ea bs t) (eb bs t)/\t<bs.length/\z<=10 /\
 ∀(v':V) (H':Hp),Same H H'->RS u K z H' v' (takU u bs t st)->Q v' H'
def Lk(u:Wr)(P:AM)(w:AS)(K:As)(C Dc Gc:Addr)(d:Nat):Sp:=λvs H Q _=>∃(g W r Bh R D:Addr) (z t:Nat) (bs:uJ) (v:V) (o:Option StO) (rows:List Row) (af:List (OKey×V)) (G:Nat->Option StO->Prop),vs=[.ref g,.int t,v]/\t+d=bs.length/\Gr u K C Dc Gc g W r Bh R D z bs H/\1<=z/\z<=10/\bs.length<=12/\OkB z bs/\Good u bs z G/\G t o/\RS u K z H v o/\Rw u P w K R D bs z H rows af/\rows.length+2 ^ d<=4100 /\
 ∀(k:Nat) (more:List Row) (bj:List (OKey×V)) (H':Hp),(∀b o,b≠R->b≠D->H b=uA o->H' b=uA o)->Rw u P w K R D bs z H' (rows++more) bj->Lead (rows++more) t k (semC u bs z d t o)->Old t af bj->Cnt t more->more.length+1<=2 ^ d->Q (.int k) H'
section
variable{u:Wr}{bs:uJ}{rows:List Row}{af:List (OKey×V)}
def Rw.same(h:Rw u P w K R D bs z H rows af)(e:Same H H'):Rw u P w K R D bs z H' rows af:=by
 obtain⟨xs,h1,h2⟩:=h.at_;exact⟨⟨xs,e _ _ h1,ut (λ_ _ r=>K31s.Cy _ _ _ _ e.ts r) h2⟩,h.dn.keep (λo=>e _ o) e.ts,h.ok,h.kn,h.len⟩
end
section
variable{u:Wr}
def HW:FnScope ["self","number","reached","state","without","having"] zl25 (Ae Ku):=fscp (by decide+kernel)
def LQ(d:Nat)(F:Fun K "knot_at" "Growth.knot_at" Ku f fd)(T:Txt K mg C)(cD:Cls K D)(O:Gro K mg Gc)
  (GP:FnOk P w K mg base CX0 4 fP ie zl25 (Wk u K C D Gc)) (bP:Binds K ie zl25 []) (mP:Meth K Gc "past_points" fP)
  (GL:FnOk P w K mg base CX0 1 fL qg zl11 Vo) (bL:Binds K qg zl11 []) (mL:Meth K D "left" fL)
  (GT:FnOk P w K mg base CX0 3 fT cm zl11 (QK u K C D)) (bT:Binds K cm zl11 []) (mT:Meth K D "taken" fT)
  (GU:FnOk P w K mg base CX0 1 fU qi zl10 (ACb u K)) (bU:Binds K qi zl10 []) (mU:Meth K D "fulfilled" fU) (jI:∀vs H Q E,d≠0->Lk u P w K C D Gc (d-1) vs H Q E->sp vs H Q E) (GK:FnOk P w K mg base CX0 (d+4) f fd zl25 sp) (bK:Binds K fd zl25 []) (mK:Meth K Gc "knot_at" f) :
  FnOk P w K mg base CX0 (d+5) f fd zl25 (Lk u P w K C D Gc d):=by
 refine F.ok HW (λvs H Q E h=>?_) (λa7 A outer s H vs Q E hr h=>?_)
 .obtain⟨g,W,r,Bh,R,Dk,z,t,bs,v,o,rows,af,G,rfl,_⟩:=h
  rfl
 obtain⟨g,W,r,Bh,R,Dk,z,t,bs,v,o,rows,af,G,rfl,td,gr,z1,z10,b8,cK,gd,go,rs,rw0,r6,q⟩:=h;have bb:Room 1 _:=hr.mono (by lia);have dm:Room 2 _:=hr.mono (by lia);have ny:Room 3 _:=hr.mono (by lia);have p9:Room 4 _:=hr.mono uM;refine⟨_,Ad (Ak (i:=3) HW.nd (Bq (pv 0) O.cl mP GP p9 bP .nil pass0 (Aa (pv 1) (Aa (pv 2) Ac))))
  (Ad (Bl (Im (Vz (pv 3))) (Ag (Ao Af)) BK)
  (Ad (Bl (Am Cp (pv 1) (Bg (pv 0) rfl)) (Ag (Ao (Le (Ds (Bq (Bg (pv 0) rfl) cD mU GU bb bU .nil pass0 (Aa (Bg (pv 0) rfl) (Aa (pv 3) Ac)))) Af Af))) BK)
  (JF (Bl (Im (AAm (CN hr) (Cr (Aa (pv 1) (Aa (pv 3) Ac))) (Bg (pv 0) rfl)) rfl)
   (Ad (Ak (i:=4) HW.nd (Bq (pv 0) O.cl mK GK hr bK .nil pass0 (Aa (Ar Bv (pv 1) Af) (Aa (Bq (Bg (pv 0) rfl) cD mL GL bb bL .nil pass0 (Aa (Bg (pv 0) rfl) (Aa (pv 3) (Aa (pv 1) Ac)))) Ac))))
   (Ad (Ak (i:=5) HW.nd (Bq (pv 0) O.cl mK GK hr bK .nil pass0 (Aa (Ar Bv (pv 1) Af) (Aa (Bq (Bg (pv 0) rfl) cD mT GT ny bT .nil pass0 (Aa (Bg (pv 0) rfl) (Aa (pv 3) (Aa (pv 1) Ac)))) Ac))))
   (Ad (Ck (Ih Do EN EO Dd (Bg (pv 0) rfl) (Aa (Cr (Aa (pv 1) (Aa (pv 4) (Aa (pv 5) Ac)))) Ac)))
   (Ag (AFH (CN hr) (Bg (pv 0) rfl) (Cr (Aa (pv 1) (Aa (pv 3) Ac))) (Ar Bv (Ax Av rfl T.len CI (Aa (Bg (pv 0) rfl) Ac)) Af) rfl))))) BK)
  (Ag (Ao (AFI (CN hr) (Bg (pv 0) rfl) (Cr (Aa (pv 1) (Aa (pv 3) Ac))) (λ_ _=>rfl))))))),?_⟩
 obtain⟨dg,hg⟩:=gr.ins;obtain⟨dr,gE⟩:=gr.rul;have p2:1<=2 ^ d:=S5;refine⟨_,rfl,g,dg,_,rfl,hg,rfl,_,rfl,_,rfl,g,W,r,Bh,R,Dk,z,t,bs,v,o,rfl,gr,z10,by lia,rs,λv' H1 s1 rs1=>?_⟩;have gr1:=gr.same s1;have rw1:=rw0.same s1;have hg1:=s1 _ _ hg;have t9:=s1 _ _ gE;cases e:(o.bind λr=>passU u r (behP bs z t)) with
 | none =>
  rw[e] at rs1;cases rs1;refine⟨_,rfl,_,rfl,iteT ?_⟩;exact q 0 [] af H1 (λb o _ _ e=>s1 _ _ e) (by rw[Cc];exact rw1) (Oi (ABs e)) (λ_ _ _=>rfl) cnt_nil (by simpa using p2)
 | some st =>
  rw[e] at rs1;obtain⟨b,rfl,hb,sl⟩:=rs1;refine⟨_,rfl,_,rfl,iteF ?_⟩;refine⟨_,rfl,_,rfl,g,Gc,dg,_,_,rfl,hg1,O.cl,O.nA,PL _ _ _ _ _ _,rfl,_,rfl,?_⟩;by_cases d0:d=0
  .subst d0
   refine iteP (by rw[show t=bs.length by lia]) ?_;refine⟨_,rfl,g,Gc,dg,_,_,rfl,hg1,O.cl,O.nU,LK _ _ _ _ _ _,r,dr,_,rfl,t9,u.nU,_,rfl,g,Gc,dg,_,_,rfl,hg1,O.cl,O.nW,Qo _ _ _ _ _ _,_,rfl,_,_,b,st,rfl,hb,_,rfl,?_⟩;refine ite2 (λc=>?_) (λc=>?_)
   .exact q 1 [] af H1 (λb o _ _ e=>s1 _ _ e) (by rw[Cc];exact rw1) (ABi λs=>by rw[Xu e,c,Bool.true_and]) (λ_ _ _=>rfl) cnt_nil (by simpa using p2)
   .exact q 0 [] af H1 (λb o _ _ e=>s1 _ _ e) (by rw[Cc];exact rw1) (Oi λs=>by rw[Xu e,(Bool.not_eq_true _).mp c,VT]) (λ_ _ _=>rfl) cnt_nil (by simpa using p2)
  .obtain⟨d',rfl⟩:∃d',d=d'+1:=⟨d-1,by lia⟩
   have tn:t<bs.length:=xi td;refine iteN (λz=>by injection z with z;lia) ?_;have pd:2 ^ (d'+1)=2 ^ d'+2 ^ d':=by rw[M7];exact wM
   have pd1:1<=2 ^ d':=S5;refine⟨λσ' H'=>∃(o4 o5:Option V) (k:Nat) (more:List Row) (bj:List (OKey×V)),σ'=[uA (.ref g),uA (.int t),uA v,uA (.ref b),o4,o5]/\(∀b o,b≠R->b≠Dk->H b=uA o->H' b=uA o)/\Gr u K C D Gc g W r Bh R Dk z bs H'/\Rw u P w K R Dk bs z H' (rows++more) bj/\valV bj (keyC t st)=uA (.int k)/\Lead (rows++more) t k (semC u bs z (d'+1) t o)/\Old t af bj/\Cnt t more/\more.length+1<=2 ^ (d'+1)/\StAt K H' b st,?_,?_⟩
   .refine⟨_,rfl,_,rfl,(by show 2<=sizeLine;decide),λx hx=>?_⟩
    have sx:=uw hx (.tup [.int (t:Int),.ref b]);have pE:=sx _ _ hg1;have rK:=rw1.same sx;have gr2:=gr1.same sx;have qO:StAt K (upd H1 x (.tup [.int (t:Int),.ref b])) b st:=sx.ts.seq hb;refine⟨_,rfl,g,Gc,dg,_,_,rfl,pE,O.cl,O.nK,MF _ _ _ _ _ _,Dk,valV af (keyC t st),rfl,⟨af,keyC t st,x,rK.dn,rfl,Vw Ab qO,rfl⟩,_,rfl,?_⟩;have s2:=s1.trans sx;cases ev:valV af (keyC t st) with
    | some v0 =>
     obtain⟨k,rfl,_,ld⟩:=rw0.kn t st v0 ev;refine iteF ⟨_,_,k,[],af,rfl,λb o _ _ e=>s2 _ _ e,gr2,by rw[Cc];exact rK,ev,?_,λ_ _ _=>rfl,cnt_nil,by simp;exact p2,qO⟩;rw[Cc,ACx e,show d'=bs.length-1-t by lia];exact ld
    | none =>
     refine iteT ?_;have qD:=sx _ _ t9;have e1:((t:Int)+1)=((t+1:Nat):Int):=x8;refine⟨_,rfl,g,dg,_,rfl,pE,rfl,_,rfl,_,_,rfl,rfl,_,rfl,g,Gc,dg,_,_,rfl,pE,O.cl,O.nU,LK _ _ _ _ _ _,r,dr,_,rfl,qD,u.nL,_,rfl,g,Gc,dg,_,_,rfl,pE,O.cl,O.nW,Qo _ _ _ _ _ _,_,rfl,_,rfl,_,_,_,_,rfl,?_⟩;refine jI _ _ _ _ xR ⟨g,W,r,Bh,R,Dk,z,t+1,bs,.ref b,uA st,rows,af,G,congrArg (λi=>[V.ref g,V.int i,V.ref b]) e1,xS td,gr2,z1,z10,b8,cK,gd,(gd t o st tn go e).2.1,⟨b,rfl,qO,sl⟩,rK,by rw[D2];lia,λk1 bE kvs1 H3 kp3 qR ld1 rq cnt1 ml1=>?_⟩;rw[D2] at ld1 ml1;obtain⟨xs2,qo,_⟩:=id rK.at_;obtain⟨_,_,ax2,kU,_⟩:=id rK.dn;have qe:=gr2.keep kp3 qo kU;have ts3:=tsRD kp3 qo kU;obtain⟨dg3,hg3⟩:=qe.ins;obtain⟨dr3,t6⟩:=qe.rul;have qT:StAt K H3 b st:=ts3.seq qO;refine⟨_,rfl,g,dg3,_,rfl,hg3,rfl,_,rfl,_,_,rfl,rfl,_,rfl,g,Gc,dg3,_,_,rfl,hg3,O.cl,O.nU,LK _ _ _ _ _ _,r,dr3,_,rfl,t6,u.nT,_,rfl,g,Gc,dg3,_,_,rfl,hg3,O.cl,O.nW,Qo _ _ _ _ _ _,_,rfl,_,rfl,r,W,b,dr3,t,z,bs,st,rfl,t6,qe.web,cK,qT,sl,(gd t o st tn go e).1,tn,z10,λv4 H4 s4 rs4=>?_⟩;have pU:=qR.same s4;have gr4:=qe.same s4;refine jI _ _ _ _ xR ⟨g,W,r,Bh,R,Dk,z,t+1,bs,v4,takU u bs t st,rows++bE,kvs1,G,congrArg (λi=>[V.ref g,V.int i,v4]) e1,xS td,gr4,z1,z10,b8,cK,gd,(gd t o st tn go e).2.2,rs4,pU,by rw[D2,BF];lia,λk2 b6 qc H5 kp5 qf tI kC cnt2 ml2=>?_⟩;rw[D2] at tI ml2;obtain⟨xs4,kg,_⟩:=id pU.at_;obtain⟨_,_,ax4,sL,_⟩:=id pU.dn;have gr5:=gr4.keep kp5 kg sL;have ts5:=tsRD kp5 kg sL;obtain⟨dg5,hg5⟩:=gr5.ins;have hb5:StAt K H5 b st:=ts5.seq (s4.ts.seq qT);obtain⟨gN,io,px5⟩:=id qf.at_;obtain⟨_,_,ax5,ke,_⟩:=id qf.dn;have lx5:=AY px5;refine⟨_,rfl,g,Gc,dg5,_,_,rfl,hg5,O.cl,O.nR,RB _ _ _ _ _ _,.inl ⟨rfl,_,uj io⟩,_,rfl,_,rfl,_,rfl,(by show 3<=sizeLine;decide),λy hy=>?_⟩;have sy:=uw hy (.tup [.int (t:Int),.int (k1:Int),.int (k2:Int)]);have l5:gN.length<=4100:=by
      rw[<- lx5];simp only[BF];lia
     refine⟨R,_,_,rfl,rfl,sy _ _ io,smallN (wG l5),?_⟩;obtain⟨ok6,ld6⟩:=ZX (lef:=lefU) (tak:=takU u bs) (g:=semC u bs z d' (t+1)) (st:=st) qf.ok tn (ld1.app qR.ok) tI;have RD:=DP io ke (by intro z;cases z);have gR:=DP hg5 io (by intro z;cases z);have rH:=sy _ _ io;have tl6:=ur (o:=.lst (gN++[.ref y])) rH;have k6:∀c o,c≠R->H5 c=uA o->(upd (upd H5 y (.tup [.int (t:Int),.int (k1:Int),.int (k2:Int)])) R (.lst (gN++[.ref y]))) c=uA o:=λc o h e=>by rw[Ah h];exact sy _ _ e
     have tt:=gr5.keep (H':=upd (upd H5 y (.tup [.int (t:Int),.int (k1:Int),.int (k2:Int)])) R (.lst (gN++[.ref y]))) (λc o h _ e=>k6 c o h e) io ke;have dn6:=qf.dn.keep (H':=upd (upd H5 y (.tup [.int (t:Int),.int (k1:Int),.int (k2:Int)])) R (.lst (gN++[.ref y]))) (λo=>k6 _ o (Bi RD)) (sy.ts.trans tl6);have tR:StAt K (upd (upd H5 y (.tup [.int (t:Int),.int (k1:Int),.int (k2:Int)])) R (.lst (gN++[.ref y]))) b st:=(sy.ts.trans tl6).seq hb5;have nv:(upd (upd H5 y (.tup [.int (t:Int),.int (k1:Int),.int (k2:Int)])) R (.lst (gN++[.ref y]))) R=uA (.lst (gN++[.ref y])):=Ab;have px6:BN (K31s.rRow K (upd (upd H5 y (.tup [.int (t:Int),.int (k1:Int),.int (k2:Int)])) R (.lst (gN++[.ref y])))) (rows++bE++b6++[(t,k1,k2)]) (gN++[.ref y]):=by
      refine uo (ut (λ_ _ c=>K31s.Cy _ _ _ _ (sy.ts.trans tl6) c) px5) (uq ⟨y,rfl,uk ?_⟩);rw[Ah (DP Ab rH (by intro z;cases z))];exact Ab
     generalize upd (upd H5 y (.tup [.int (t:Int),.int (k1:Int),.int (k2:Int)])) R (.lst (gN++[.ref y]))=H6 at k6 tt dn6 tR nv px6;obtain⟨dg6,hg6⟩:=tt.ins;obtain⟨_,_,ax6,m4,_⟩:=id dn6;have new:valV qc (keyC t st)=uB:=by rw[kC t st vq,rq t st vq,ev]
     have rB:=qf.len;refine⟨_,rfl,g,Gc,dg6,_,_,rfl,hg6,O.cl,O.nR,RB _ _ _ _ _ _,R,_,rfl,.inl (uj nv),_,_,rfl,rfl,_,rfl,g,Gc,dg6,_,_,rfl,hg6,O.cl,O.nK,MF _ _ _ _ _ _,_,rfl,_,rfl,(by show 2<=sizeLine;decide),λu hu=>?_⟩;have su:=uw hu (.tup [.int (t:Int),.ref b]);refine⟨Dk,qc,keyC t st,u,rfl,rfl,dn6.keep (λo=>su _ o) su.ts,Vw Ab (su.ts.seq tR),new,smallN (by rw[lx5] at rB;lia),λH9 oth dn9=>?_⟩;have kl:(((gN++[V.ref y]).length:Nat):Int)+1=(((rows++bE++b6).length+2:Nat):Int):=by
      rw[BF,EK,<- lx5];lia
     rw[show(λ(i j:Int)=>V.int (i+j)) (((gN++[V.ref y]).length:Nat):Int) 1=V.int (((rows++bE++b6).length+2:Nat):Int) from congrArg V.int kl] at dn9;have k9:∀c o,c≠Dk->H6 c=uA o->H9 c=uA o:=λc o h e=>by rw[oth c h];exact su _ _ e
     have eas:rows++(bE++b6++[(t,k1,k2)])=rows++bE++b6++[(t,k1,k2)]:=by simp only[C5]
     have ts9:=tsRD (R:=R) (D:=Dk) (λc o _ h e=>k9 c o h e) nv m4;refine⟨_,_,(rows++bE++b6).length+2,bE++b6++[(t,k1,k2)],putK qc (keyC t st) (.int (((rows++bE++b6).length+2:Nat):Int)),rfl,λc o h1 h2 e=>?_,?_,?_,?_,?_,?_,ACu cnt1 cnt2,?_,ts9.seq tR⟩
     .exact k9 _ _ h2 (k6 _ _ h1 (kp5 _ _ h1 h2 (s4 _ _ (kp3 _ _ h1 h2 (s2 _ _ e)))))
     .exact tt.keep (λc o _ h e=>k9 c o h e) nv m4
     .rw[eas]
      refine⟨⟨_,k9 _ _ RD nv,ut (λ_ _ c=>K31s.Cy _ _ _ _ ts9 c) px6⟩,dn9,ok6,λt' ah v' i7=>?_,?_⟩
      .rw[FT] at i7
       by_cases c:keyC t' ah=keyC t st
       .rw[uD c] at i7
        cases i7;obtain⟨rfl,rfl⟩:=Uv c;refine⟨_,rfl,tn,?_⟩;rw[show bs.length-1-t'=d' by lia];exact ld6
       .rw[uC c] at i7
        exact(qf.kn.app qf.ok) t' ah v' i7
      .rw[JC _ new,BF,EK,BF,EK]
       exact vD rB
     .rw[FT,uD rfl]
     .rw[eas,ACx e]
      exact ld6
     .intro t' ah lt
      rw[FT,uC (λc=>by have:=(Uv c).1;exact vd lt this),kC t' ah (uW lt),rq t' ah (uW lt)]
     .simp only[BF,EK]
      lia
   .rintro σ H6 ⟨o4,o5,k,more,bj,rfl,kp,tt,rw6,val,ld,b5,cnt,ml,tR⟩
    obtain⟨dg6,hg6⟩:=tt.ins;refine⟨_,rfl,g,Gc,dg6,_,_,rfl,hg6,O.cl,O.nK,MF _ _ _ _ _ _,_,rfl,_,rfl,(by show 2<=sizeLine;decide),λy hy=>?_⟩;have sy:=uw hy (.tup [.int (t:Int),.ref b]);exact⟨Dk,.int k,rfl,⟨bj,keyC t st,y,rw6.dn.keep (λo=>sy _ o) sy.ts,rfl,Vw Ab (sy.ts.seq tR),val⟩,q k more bj _ (λc o h1 h2 e=>sy _ _ (kp c o h1 h2 e)) (rw6.same sy) ld b5 cnt ml⟩
end
def YG(u:Wr)(P:AM)(w:AS)(K:As)(C Dc Gc:Addr):Sp:=λvs H Q _=>∃(g dx W r dr:Addr) (z:Nat) (bs:uJ),vs=[.ref g,.ref W,.ref r]/\H g=uA (.ins Gc dx [])/\W≠g/\r≠g/\WebAt K C H W z bs/\H r=uA (.ins Dc dr u.fl)/\z<=10/\bs.length<=12 /\
 ∀(Bh R D:Addr) (H':Hp),(∀b o,H b=uA o->b≠g->H' b=uA o)->Gr u K C Dc Gc g W r Bh R D z bs H'->Rw u P w K R D bs z H' [] []->H R=none->H D=none->Q .non H'
section
variable{u:Wr}
def AEj:FnScope zl8 zl8 (Ae QJ):=fscp (by decide+kernel)
def ABM(F:Fun K "__init__" "Growth.__init__" QJ f fd)(T:Txt K mg C)(O:Gro K mg Gc)
  (GT:FnOk P w K mg base CX0 1 fT cm zl3 (RJ K C)) (bT:Binds K cm zl3 []) (mT:Meth K C "ties" fT)
  (GB:Cal P w K mg base 2 fB nz "points_behind" zl5 (ADf K C)) :
  FnOk P w K mg base CX0 3 f fd zl8 (YG u P w K C D Gc):=by
 refine F.ok AEj (λvs H Q E h=>?_) (λa7 A outer s H vs Q E hr h=>?_)
 .obtain⟨g,dx,W,r,dr,z,bs,rfl,_⟩:=h
  rfl
 obtain⟨g,dx,W,r,dr,z,bs,rfl,hg,Wg,rg,hW,gE,z10,b8,q⟩:=h;have bb:Room 1 _:=hr.mono (by decide);refine⟨_,Ad (El (pv 0) (pv 1) rfl)
  (Ad (El (pv 0) (pv 2) rfl)
  (Ad (El (pv 0) (Ax Av rfl T.len CI (Aa (Bt (pv 1) T.cl mT GT bb bT .nil pass0) Ac)) rfl)
  (Ad (El (pv 0) (Bp (Ae QJ) ["number"] ["web"] [1] rfl rfl (by decide+kernel) ⟨⟨rfl,by decide+kernel⟩,trivial⟩ (Cq rfl T.range (Aa (Ar Bv (Bg (pv 0) rfl) Af) Ac))
   (λ_ _ _=>BJ (i:=0)) (λ_ _ _=>Dl)
   (λ_ _ _=>BL GB hr rfl (Aa (pv 1) (Aa (pv 0) Ac)))) rfl)
  (Ad (El (pv 0) (Cu Ac) rfl)
  (Ag (El (pv 0) ACe rfl)))))),?_⟩
 have tsI:∀{H0:Hp}{fs gs:List (Str×V)},H0 g=uA (.ins Gc dx fs)->TSm H0 (upd H0 g (.ins Gc dx gs)):=λ{H0 fs gs} hP b u hb t=>by
  rw[Ah ?_]
  .exact hb
  .rintro rfl
   rw[hP] at hb;cases hb;obtain⟨ys,e| ⟨o,e⟩⟩:=t
   .cases e
   .cases e
 refine⟨_,rfl,_,rfl,g,Gc,dx,[],rfl,hg,O.cl,O.nW,(by decide),?_⟩;refine⟨_,rfl,_,rfl,g,Gc,dx,_,rfl,Ab,O.cl,O.nU,(by show 1<1000;decide),?_⟩;rw[IW];have k1:∀b o,b≠g->H b=uA o->(upd H g (.ins Gc dx (putF "rule" (.ref r) (putF "web" (.ref W) [])))) b=uA o:=λb o h e=>by rw[Ah h];exact e
 have ts1:=tsI (gs:=putF "rule" (.ref r) (putF "web" (.ref W) [])) hg;have g1:(upd H g (.ins Gc dx (putF "rule" (.ref r) (putF "web" (.ref W) [])))) g=uA (.ins Gc dx (putF "rule" (.ref r) (putF "web" (.ref W) []))):=Ab;generalize upd H g (.ins Gc dx (putF "rule" (.ref r) (putF "web" (.ref W) [])))=H1 at k1 ts1 g1;have rN:WebAt K C H1 W z bs:=by
  obtain⟨d,j,a1,a2⟩:=hW;exact⟨d,j,k1 _ _ Wg a1,Aq (Aq Aw) _ _ _ _ ts1 a2⟩
 obtain⟨dw,jw,hw1,_⟩:=id rN;refine⟨_,rfl,W,dw,_,rfl,hw1,rfl,W,z,bs,rfl,rN,λl H2 s2 hl hL=>?_⟩;obtain⟨l',ts,el,hX,px⟩:=hL;cases el;have lt:=(AY px).symm;refine⟨l,_,rfl,.inl hX,_,rfl,g,Gc,dx,_,rfl,s2 _ _ g1,O.cl,O.nA,(by show 2<1000;decide),?_⟩;have g2:=s2 _ _ g1;rw[lt];have k3:∀b o,b≠g->H b=uA o->(upd H2 g (.ins Gc dx (putF "amount" (.int (bs.length:Nat)) (putF "rule" (.ref r) (putF "web" (.ref W) []))))) b=uA o:=λb o h e=>by rw[Ah h];exact s2 _ _ (k1 b o h e)
 have ts3:=ts1.trans (s2.ts.trans (tsI (gs:=putF "amount" (.int (bs.length:Nat)) (putF "rule" (.ref r) (putF "web" (.ref W) []))) g2));have g3:(upd H2 g (.ins Gc dx (putF "amount" (.int (bs.length:Nat)) (putF "rule" (.ref r) (putF "web" (.ref W) []))))) g=uA (.ins Gc dx (putF "amount" (.int (bs.length:Nat)) (putF "rule" (.ref r) (putF "web" (.ref W) [])))):=Ab;generalize upd H2 g (.ins Gc dx (putF "amount" (.int (bs.length:Nat)) (putF "rule" (.ref r) (putF "web" (.ref W) []))))=H3 at k3 ts3 g3;have hW3:WebAt K C H3 W z bs:=by
  obtain⟨d,j,a1,a2⟩:=hW;exact⟨d,j,k3 _ _ Wg a1,Aq (Aq Aw) _ _ _ _ ts3 a2⟩
 refine⟨_,rfl,g,Gc,dx,_,_,rfl,g3,O.cl,O.nA,(by rw[Aj,uD rfl]),_,_,rfl,rfl,_,rfl,by lia,by lia,λBh hBh=>?_⟩;refine Cg (lo:=0) (n:=(((bs.length:Nat):Int)+1).toNat) (λj τ H4=>∃(o:Option V) (ys:List V),τ=[o,uA (.ref W)]/\Same H3 H4/\H4 Bh=uA (.lst ys)/\BN (λt v=>∃l,v=.ref l/\l≠Bh/\H4 l=uA (.lst (nI (behP bs z t)))) (AR j) ys) ⟨uB,[],rfl,uw hBh _,Ab,.nil⟩ ?_ ?_
 .rintro j τ H4 hj ⟨o,ys,rfl,s4,eB,pB⟩
  have ej:(0:Int)+j=(j:Int):=vc;rw[ej];have ly:=AY pB;rw[Cf] at ly;refine yesN ⟨_,rfl,_,rfl,W,j,z,bs,rfl,hW3.same s4,z10,b8,λm H5 s5 hm em=>?_⟩;have GB.m:m≠Bh:=λz=>by rw[z,eB] at hm;cases hm
  refine⟨_,s5 _ _ eB,Az (by lia),_,_,rfl,(s4.trans s5).put hBh _,Ab,?_⟩
  .rw[Fa]
   refine uo (ut (by rintro t v ⟨l,e1,e2,e3⟩;exact⟨l,e1,e2,by rw[Ah e2];exact s5 _ _ e3⟩) pB) (uq ⟨m,rfl,GB.m,by rw[Ah GB.m];exact em⟩)
 rintro τ H4 ⟨o,ys,rfl,s4,eB,pB⟩;rw[show(((bs.length:Nat):Int)+1).toNat=bs.length+1 by lia] at pB;have g4:=s4 _ _ g3;have gB:Bh≠g:=λz=>by rw[z,g4] at eB;cases eB
 refine⟨_,rfl,g,Gc,dx,_,rfl,g4,O.cl,O.nB,(by show 3<1000;decide),?_⟩;have nBH:H Bh=uB:=by
  cases e:H Bh with
  | none=>rfl
  | some o=>have:=k3 _ _ gB e;rw[hBh] at this;cases this
 refine⟨By _,λR hR=>?_⟩;have gR:R≠g:=λz=>by rw[z,Ab] at hR;cases hR
 have n9:H4 R=uB:=by rw[Ah gR] at hR;exact hR
 have BR:=Ai eB n9;refine⟨_,rfl,g,Gc,dx,_,rfl,by rw[Ah (Bi gR)];exact Ab,O.cl,O.nR,(by show 4<1000;decide),?_⟩;refine λDk hD dn0=>?_;have gD:Dk≠g:=λz=>by rw[z,Ab] at hD;cases hD
 have RD:Dk≠R:=λz=>by rw[z,Ah gR,Ab] at hD;cases hD
 have hD4:H4 Dk=uB:=by rw[Ah gD,Ah RD,Ah gD] at hD;exact hD
 refine⟨_,rfl,g,Gc,dx,_,rfl,by rw[Ah (Bi gD)];exact Ab,O.cl,O.nK,(by show 5<1000;decide),?_⟩;have fin:∀b o,b≠g->H4 b=uA o->(upd (upd (upd (upd (upd H4 g (.ins Gc dx (putF "behind" (.ref Bh) (putF "amount" (.int (bs.length:Nat)) (putF "rule" (.ref r) (putF "web" (.ref W) [])))))) R (.lst [])) g (.ins Gc dx (putF "rows" (.ref R) (putF "behind" (.ref Bh) (putF "amount" (.int (bs.length:Nat)) (putF "rule" (.ref r) (putF "web" (.ref W) []))))))) Dk (dO P w Dk [])) g (.ins Gc dx (gf W r (bs.length:Nat) Bh R Dk))) b=uA o:=λb o h e=>by
  rw[Ah h,Ah (Ai e hD4),Ah h,Ah (Ai e n9),Ah h];exact e
 have fT:TSm H4 (upd (upd (upd (upd (upd H4 g (.ins Gc dx (putF "behind" (.ref Bh) (putF "amount" (.int (bs.length:Nat)) (putF "rule" (.ref r) (putF "web" (.ref W) [])))))) R (.lst [])) g (.ins Gc dx (putF "rows" (.ref R) (putF "behind" (.ref Bh) (putF "amount" (.int (bs.length:Nat)) (putF "rule" (.ref r) (putF "web" (.ref W) []))))))) Dk (dO P w Dk [])) g (.ins Gc dx (gf W r (bs.length:Nat) Bh R Dk))):=λb u hb t=>fin b u (λz=>by
  rw[z,g4] at hb;cases hb;obtain⟨ys,e| ⟨o,e⟩⟩:=t
  .cases e
  .cases e) hb
 have b5:∀x,x≠g->H4 x=none->H x=uB:=λx h n=>by
  cases e:H x with
  | none=>rfl
  | some o=>have:=s4 _ _ (k3 _ _ h e);rw[n] at this;cases this
 refine q Bh R Dk _ (λb o e h=>fin b o h (s4 _ _ (k3 b o h e))) ⟨⟨dx,Ab⟩,?_,⟨dr,fin _ _ rg (s4 _ _ (k3 _ _ rg gE))⟩,⟨ys,fin _ _ gB eB,BR,ut (by rintro t v ⟨l,e1,e2,e3⟩;exact⟨l,e1,Ai e3 n9,fin _ _ (λz=>by rw[z,g4] at e3;cases e3) e3⟩) pB⟩⟩ ?_ (b5 R gR n9) (b5 Dk gD hD4)
 .obtain⟨d,j,a1,a2⟩:=hW3.same s4
  exact⟨d,j,fin _ _ Wg a1,Aq (Aq Aw) _ _ _ _ fT a2⟩
 .refine⟨⟨[],by rw[Ah gR,Ah (Bi RD),Ah gR,Ab],.nil⟩,dn0.keep (λo e=>by rw[Ah gD];exact e) (tsI (fs:=_) (by rw[Ah (Bi gD)];exact Ab)),λi r h=>(by simp at h),λt st v hv=>(by cases hv),AF _⟩
end
section
variable{u:Wr}
theorem Ob{fP fL fT fU:Addr}{ie qg cm qi:Bz}(F:Fun K "knot_at" "Growth.knot_at" Ku f fd)(T:Txt K mg C)(cD:Cls K D)(O:Gro K mg Gc)
  (GP:FnOk P w K mg base CX0 4 fP ie zl25 (Wk u K C D Gc)) (bP:Binds K ie zl25 []) (mP:Meth K Gc "past_points" fP)
  (GL:FnOk P w K mg base CX0 1 fL qg zl11 Vo) (bL:Binds K qg zl11 []) (mL:Meth K D "left" fL)
  (GT:FnOk P w K mg base CX0 3 fT cm zl11 (QK u K C D)) (bT:Binds K cm zl11 []) (mT:Meth K D "taken" fT)
  (GU:FnOk P w K mg base CX0 1 fU qi zl10 (ACb u K)) (bU:Binds K qi zl10 []) (mU:Meth K D "fulfilled" fU)
  (bK:Binds K fd zl25 []) (mK:Meth K Gc "knot_at" f):∀d,FnOk P w K mg base CX0 (d+5) f fd zl25 (Lk u P w K C D Gc d)
 | 0=>LQ 0 F T cD O GP bP mP GL bL mL GT bT mT GU bU mU (sp:=λ_ _ _ _=>False) (λ_ _ _ _ h=>uH rfl h) (F.ok HW (λvs H Q E h=>E8 h) (λa7 A outer s H vs Q E hr h=>E8 h)) bK mK
 | d+1=>LQ (d+1) F T cD O GP bP mP GL bL mL GT bT mT GU bU mU (sp:=Lk u P w K C D Gc d) (λ_ _ _ _ _ h=>h) (Ob F T cD O GP bP mP GL bL mL GT bT mT GU bU mU bK mK d) bK mK
end
end K31
namespace L2
open PySem
def rO:Rep (Option Int):=λ_ c v=>v=oV c
def AGX{a b:Option Int}(h:oV a=oV b):a=b:=by
 cases a<;>cases b<;>first| rfl| (cases h;done)| (injection h with h;rw[h])
def RG:Dat X 0 rO where
 eq:=λaa s σ H A a b x y u v I hu ha hb ru rv=>by
  cases ha;cases hb;cases a with
  | none =>
   cases ru;cases b with
   | none =>
    cases rv;rw[uE rfl];exact M1 .none
   | some j =>
    obtain⟨t,rfl⟩:=rv;rw[uF (by intro z;cases z)];exact Nw j t
  | some i =>
   obtain⟨t,rfl⟩:=ru;cases b with
   | none =>
    cases rv;rw[uF (by intro z;cases z)];exact NA i t
   | some j =>
    obtain⟨t',rfl⟩:=rv;have e:=Lm (A:=A) (s:=s) i t j t';rw[MG] at e;rw[show decide ((uA i:Option Int)=uA j)=decide (i=j) from decide_eq_decide.mpr ⟨AO,λz=>by rw[z]⟩];exact e
 fn:=λaa s σ H a b x I ha hb=>AGX (ha.symm.trans hb)
theorem Mu{H:Hp}:∀(st:List (Option Int)),BN (rO H) st (st.map oV)
 | []=>.nil
 | c::st=>.cons rfl (Mu st)
end L2
namespace K31
open PySem L2 G
structure Dn(K:As)(mg:Str->Option AA)(a:Addr):Prop where
 mgD:mg "DONE" = uA (.ref a)
 at_:∀H,SqT K H a []
def XJ{st:StO}(h:StAt K H b st):rTup K rO H st (.ref b):=⟨b,_,rfl,h,Mu st⟩
def Lf{st:StO}{p:Nat}(h:p<st.length):atI (st.map oV) (p:Int)=uA (oV (st.getD p uB)):=Bk (by rw[AU,AD,AI h];rfl)
def ADy(c:Option Int):flatV (oV c)=true:=by cases c<;>rfl
def AHN(c:Option Int)(p:Nat):inV (oV c) [V.non,V.int (p:Int)]=decide (c=uB\/c=uA (p:Int)):=by
 cases c with
 | none=>rfl
 | some i =>
  show(eqV .non (.int i)||(eqV (.int (p:Int)) (.int i)||false))=_;have e1:eqV .non (.int i)=false:=rfl;have e2:eqV (.int (p:Int)) (.int i)=decide ((p:Int)=i):=by
   first
    | rfl
    | (unfold eqV;rw[MG])
  rw[e1,e2,WF,WJ];refine decide_eq_decide.mpr ⟨λh=>.inr (by rw[h]),λh=>?_⟩;rcases h with h| h
  .cases h
  .injection h with h
   exact h.symm
structure NoF(fl:List (Str×V)):Prop where
 nP:fl.lookup ("passed" : Str)=uB
 nL:fl.lookup ("left" : Str)=uB
 nT:fl.lookup ("taken" : Str)=uB
 nU:fl.lookup ("fulfilled" : Str)=uB
 nB:fl.lookup ("begun" : Str)=uB
 nM:fl.lookup ("may_stay" : Str)=uB
 nC:fl.lookup ("closed" : Str)=uB
 nR:fl.lookup ("refuse_web" : Str)=uB
def uS(fl:List (Str×V))(h:NoF fl):Wr:=⟨passS1,takeS,λst=>decide (st=[]),λ_ _ _=>True,VldS,fl,h.nP,h.nL,h.nT,h.nU,h.nB⟩
def Vr(K:As):Sp:=λvs H Q _=>∃(a:V) (b:Addr) (p:Nat) (st:StO),vs=[a,.ref b,.int p]/\StAt K H b st/\p<st.length/\∀H',Same H H'->Q (.bl (stayS st p)) H'
section
variable{hf:NoF fl}
def AGG:FnScope zl9 zl9 (Ae ABn):=fscp (by decide+kernel)
def AFQ(F:Fun K "may_stay" "Strands.may_stay" ABn f fd):FnOk P w K mg base CX0 1 f fd zl9 (Vr K):=by
 refine F.ok AGG (λvs H Q E h=>?_) (λa7 A outer s H vs Q E hr h=>?_)
 .obtain⟨a,b,p,st,rfl,_⟩:=h
  rfl
 obtain⟨a,b,p,st,rfl,hb,pl,q⟩:=h;refine⟨_,Ag (Ao (Cw Fx (Ay Bc (pv 1) (pv 2)) (Cr (Aa Ft (Aa (pv 2) Ac))) rfl)),?_⟩;refine⟨_,rfl,_,rfl,b,_,_,_,rfl,rfl,hb,Lf pl,_,rfl,(by show 2<=sizeLine;decide),λt ht=>?_⟩;refine⟨t,_,rfl,.inr (uk Ab),ADy _,rfl,?_⟩;rw[uC (by decide),AHN];exact q _ (uw ht _)
def AHw:FnScope zl10 zl10 (Ae AGW):=fscp (by decide+kernel)
def AGy(F:Fun K "fulfilled" "Strands.fulfilled" AGW f fd)(N:Dn K mg da):FnOk P w K mg base CX0 1 f fd zl10 (ACb (uS fl hf) K):=by
 refine F.ok AHw (λvs H Q E h=>?_) (λa7 A outer s H vs Q E hr h=>?_)
 .obtain⟨r,p,b,st,rfl,_⟩:=h
  rfl
 obtain⟨r,p,b,st,rfl,hb,q⟩:=h;refine⟨_,Ag (Ao (Cw (Vi RG (CN hr)) (pv 2) (Gn (v:=.ref da) rfl N.mgD rfl))),?_⟩;exact⟨_,rfl,st,[],XJ hb,⟨da,[],rfl,N.at_ _,.nil⟩,q⟩
def AGC:FnScope zl11 zl11 (Ae ABu):=fscp (by decide+kernel)
def AFJ(F:Fun K "left" "Rule.left" ABu f fd):FnOk P w K mg base CX0 1 f fd zl11 Vo:=by
 refine F.ok AGC (λvs H Q E h=>?_) (λa7 A outer s H vs Q E hr h=>?_)
 .obtain⟨r,p,b,x,rfl,_⟩:=h
  rfl
 obtain⟨r,p,b,x,rfl,q⟩:=h;exact⟨_,Ag (Ao (pv 2)),⟨_,rfl,q⟩⟩
def ABK:FnScope zl12 zl12 (Ae Kf):=fscp (by decide+kernel)
def AAj(F:Fun K "passed" "Strands.passed" Kf f fd)(T:Txt K mg C)(cD:Cls K D)(N:Dn K mg da)(GA:FnOk P w K mg base CX0 1 fA e7 zl9 (Vr K))(bA:Binds K e7 zl9 [])(mA:Meth K D "may_stay" fA) :
  FnOk P w K mg base CX0 3 f fd zl12 (Ux (uS fl hf) K D):=by
 refine F.ok ABK (λvs H Q E h=>?_) (λa7 A outer s H vs Q E hr h=>?_)
 .obtain⟨p,b,dx,a,q,z,st,rfl,_⟩:=h
  rfl
 obtain⟨p,b,dx,a,qp,z,st,rfl,ha,hb,vl,qz,z10,q⟩:=h;have bb:Room 1 _:=hr.mono (by decide);refine⟨_,Ad (Bl (Am (Vi RG (CN hr)) (pv 2) (Gn (v:=.ref da) rfl N.mgD rfl)) (Ag (Ao (pv 2))) BK)
  (Ad (Bl (Ds (Bq (pv 0) cD mA GA bb bA .nil pass0 (Aa (pv 2) (Aa (pv 3) Ac))))
   (Ag (Ao (BX CT rfl T.tuple De (Aa (Bp (Ae Kf) ["other","end"] ["point"] [3] rfl rfl (by decide+kernel) ⟨⟨rfl,by decide+kernel⟩,trivial⟩ (Ut rfl T.enum (Aa (pv 2) Ac))
    (λ_ _ _=>Gh (K:=K) (n:=2) rfl rfl (BW (BJ (i:=0)) (BW (BJ (i:=1)) DK)))
    (λ_ _ _=>Dl)
    (λ_ _ _=>Le (Am Cp (pv 0) (pv 2)) Ft (pv 1))) Ac)))) BK)
  (Ag (Ao Ft))),?_⟩
 refine⟨_,rfl,st,[],XJ hb,⟨da,[],rfl,N.at_ _,.nil⟩,_,rfl,?_⟩;by_cases c0:st=[]
 .refine iteP c0 ⟨_,rfl,q _ _ (um _) ?_⟩
  show RS (uS fl hf) K z H (.ref b) (passS1 st qp);unfold passS1;rw[uD c0];exact⟨b,rfl,hb,vl⟩
 refine iteN c0 ?_;have ln:=VldS.len vl|>.resolve_left c0
 have ql:qp<st.length:=dl qz ln;refine⟨_,rfl,a,dx,_,rfl,ha,hf.nM,_,rfl,_,rfl,.ref a,b,qp,st,rfl,hb,ql,λH1 s1=>⟨_,rfl,?_⟩⟩;have iX:StAt K H1 b st:=s1.ts.seq hb;refine ite2 (λc=>?_) (λc=>?_)
 .have e:passS1 st qp=uA (st.set qp uB):=by unfold passS1;rw[uC c0,uD c]
  have q:∀(v':V) (H':Hp),Same H H'->RS (uS fl hf) K z H' v' (passS1 st qp)->Q v' H':=q;rw[e] at q;refine⟨_,rfl,b,rfl,⟨_,iX⟩,λZ hZ=>?_⟩;refine FP (xs:=st.map oV) (λi τ H2=>∃n t:Option V,τ=[n,t,uA (.int qp)]/\Same H1 H2/\H2 Z=uA (.lst (((st.set qp uB).take i).map oV))) ⟨uB,uB,rfl,uw hZ _,Ab⟩ (by rintro i τ H2 _ ⟨_,_,_,sm,_⟩;exact sm.ts.seq iX) ?_ ?_
  .rintro i y τ H2 T1 hy dL ⟨n,t,rfl,sm,eZ⟩
   obtain⟨v,hv,rfl⟩:∃v,st[i]?=uA v/\y=oV v:=by
    rw[AU] at hy;cases g:st[i]? with
    | none=>rw[g] at hy;cases hy
    | some v=>rw[g] at hy;cases hy;exact⟨v,rfl,rfl⟩
   have il:=(AG.mp hv).1;have s2:Same H2 (upd H2 T1 (.tup [.int i,oV v])):=uw dL _;refine⟨T1,_,rfl,uk Ab,rfl,_,_,rfl,_,_,rfl,rfl,yesD ?_⟩;have fin:∀u:Option Int,(st.set qp uB)[i]?=uA u->∃n t:Option V,[uA (.int (i:Int)),uA (oV v),uA (.int (qp:Int))]=[n,t,uA (V.int qp)]/\Same H1 (upd (upd H2 T1 (.tup [.int i,oV v])) Z (.lst (((st.set qp uB).take i).map oV++[oV u])))/\(upd (upd H2 T1 (.tup [.int i,oV v])) Z (.lst (((st.set qp uB).take i).map oV++[oV u]))) Z=uA (.lst (((st.set qp uB).take (i+1)).map oV)):=λu hu=>by
    refine⟨_,_,rfl,(sm.trans s2).put hZ _,?_⟩
    .rw[Ab,D9,hu,BG]
     rfl
   have sl:(((st.set qp uB).take i).map oV).length<sizeLine:=Az (by rw[AB,B4];lia);refine⟨_,rfl,_,rfl,rfl,_,rfl,?_⟩;refine ite2 (λe=>?_) (λe=>?_)
   .have e':i=qp:=by have:=uG e;injection this with this;exact uy this
    subst e';exact⟨_,s2 _ _ eZ,sl,fin uB (J3 il)⟩
   .have e':i≠qp:=λz=>e (uE (by rw[z]))
    exact⟨_,rfl,_,s2 _ _ eZ,sl,fin v (by rw[KG (Bi e')];exact hv)⟩
  .rintro τ H2 ⟨n,t,rfl,sm,eZ⟩
   rw[AB,show st.length=(st.set qp uB).length by rw[EU],CU] at eZ;refine⟨Z,_,rfl,.inl ⟨uj eZ,λt ht=>?_⟩⟩;exact q _ _ (s1.trans (sm.trans (uw ht _))) ⟨t,rfl,uk Ab,VldS.set vl qp uB (λi z=>by cases z)⟩
 .have e:passS1 st qp=uB:=by unfold passS1;rw[uC c0,uC c]
  have q:∀(v':V) (H':Hp),Same H H'->RS (uS fl hf) K z H' v' (passS1 st qp)->Q v' H':=q;rw[e] at q;exact q _ _ s1 rfl
end
def Ql{k:Nat}(h:k<n):ixN n (k:Int)=uA k:=by
 unfold ixN;simp;lia
def Wq(K:As):Sp:=λvs H Q _=>∃(b tq:Addr) (x y i j:Nat) (st:StO),vs=[.ref b,.ref tq]/\StAt K H b st/\SqT K H tq [.int (x:Int),.int (y:Int)]/\x<st.length/\y<st.length/\i<st.length/\j<st.length/\st.length<=11/\st.getD x uB=uA (i:Int)/\st.getD y uB=uA (j:Int) /\
 ∀(b':Addr) (H':Hp),Same H H'->StAt K H' b' (tiedS st x y)->Q (.ref b') H'
section
variable{hf:NoF fl}
def QT:FnScope ["state","tie","ends","one","other"] zl26 (Ae ADS):=fscp (by decide+kernel)
def AFb(F:Fun K "strands_tied" "strands_tied" ADS f fd)(T:Txt K mg C):FnOk P w K mg base CX0 1 f fd zl26 (Wq K):=by
 refine F.ok QT (λvs H Q E h=>?_) (λa7 A outer s H vs Q E hr h=>?_)
 .obtain⟨b,tq,x,y,i,j,st,rfl,_⟩:=h
  rfl
 obtain⟨b,tq,x,y,i,j,st,rfl,hb,ht,xl,yl,il,jl,s11,ex,ey,q⟩:=h;refine⟨_,Ad (Ak (i:=2) QT.nd (BX Dp rfl T.list EG (Aa (pv 0) Ac)))
  (Ad (Ak (i:=3) QT.nd (Ay Bc (pv 0) (Ay Bc (pv 1) Af)))
  (Ad (Ak (i:=4) QT.nd (Ay Bc (pv 0) (Ay Bc (pv 1) Af)))
  (Ad (Jr Ft (Qv (pv 2) (Ay Bc (pv 1) Af) set_list))
  (Ad (Jr Ft (Qv (pv 2) (Ay Bc (pv 1) Af) set_list))
  (Ad (Jr (pv 4) (Qv (pv 2) (pv 3) set_list))
  (Ad (Jr (pv 3) (Qv (pv 2) (pv 4) set_list))
  (Ag (Ao (BX CT rfl T.tuple De (Aa (pv 2) Ac)))))))))),?_⟩
 have gx:=Lf xl;have gy:=Lf yl;rw[ex] at gx;rw[ey] at gy;refine⟨_,rfl,b,_,rfl,.inr hb,λL hL=>?_⟩;have s1:=uw hL (.lst (st.map oV));have iX:StAt K (upd H L (.lst (st.map oV))) b st:=s1.ts.seq hb;have mN:=s1.ts.seq ht;refine⟨_,rfl,_,rfl,tq,_,_,_,rfl,rfl,mN,at0,b,_,_,_,rfl,rfl,iX,gx,?_⟩;refine⟨_,rfl,_,rfl,tq,_,_,_,rfl,rfl,mN,at1,b,_,_,_,rfl,rfl,iX,gy,?_⟩;have ml:(st.map oV).length=st.length:=AB ..;refine⟨_,rfl,_,rfl,tq,_,_,_,rfl,rfl,mN,at0,L,_,_,x,rfl,rfl,Ab,Ql (by rw[ml];exact xl),?_⟩;have ht2:=(ur (o:=.lst ((st.map oV).set x .non)) (Ab (H:=H) (a:=L) (o:=.lst (st.map oV)))).seq mN;rw[IW];rw[IW] at ht2;refine⟨_,rfl,_,rfl,tq,_,_,_,rfl,rfl,ht2,at1,L,_,_,y,rfl,rfl,Ab,Ql (by rw[EU,ml];exact yl),?_⟩;rw[IW];refine⟨_,rfl,_,rfl,_,rfl,L,_,_,i,rfl,rfl,Ab,Ql (by simp only[EU];rw[ml];exact il),?_⟩;rw[IW];refine⟨_,rfl,_,rfl,_,rfl,L,_,_,j,rfl,rfl,Ab,Ql (by simp only[EU];rw[ml];exact jl),?_⟩;rw[IW];refine⟨_,rfl,L,_,rfl,.inl ⟨uj Ab,λt ht=>?_⟩⟩;refine q t _ (λc o e=>?_) ?_
 .rw[Ah (Ai (show(upd H L _) c=uA o by rw[Ah (Ai e hL)];exact e) ht),Ah (Ai e hL)]
  exact e
 .refine uk ?_
  rw[Ab];unfold tiedS;rw[ex,ey];dsimp only;rw[Cn,Cn,O9,O9,O9,O9];rfl
end
noncomputable def EY(st:StO)(x y j:Nat):uL:=(AR j).filter λp=>decide (p≠x/\p≠y)
def Sg(fl:List (Str×V))(hf:NoF fl)(K:As)(D:Addr):Sp:=λvs H Q _=>∃(a b tq dx:Addr) (x y z:Nat) (st:StO),vs=[.ref a,.ref b,.ref tq]/\H a=uA (.ins D dx fl)/\StAt K H b st/\SqT K H tq [.int (x:Int),.int (y:Int)]/\st.length<=11 /\
 ∀(v':V) (H':Hp),Same H H'->RS (uS fl hf) K z H' v' (JV st x y)->Q v' H'
section
variable{hf:NoF fl}
def Uj:FnScope ["self","state","tie","others"] zl27 (Ae Jc):=fscp (by decide+kernel)
def AAw(F:Fun K "closed" "Strands.closed" Jc f fd)(T:Txt K mg C)(cD:Cls K D)(bp:mg "all" = uB)(N:Dn K mg da)(GA:FnOk P w K mg base CX0 1 fA e7 zl9 (Vr K))(bA:Binds K e7 zl9 [])(mA:Meth K D "may_stay" fA) :
  FnOk P w K mg base CX0 2 f fd zl27 (Sg fl hf K D):=by
 refine F.ok Uj (λvs H Q E h=>?_) (λa7 A outer s H vs Q E hr h=>?_)
 .obtain⟨a,b,tq,dx,x,y,z,st,rfl,_⟩:=h
  rfl
 obtain⟨a,b,tq,dx,x,y,z,st,rfl,ha,hb,ht,s11,q⟩:=h;refine⟨_,Ad (Jh (i:=3) (Ae Jc) ["point"] ["tie"] [2] Uj.nd rfl (KW rfl) rfl rfl (by decide+kernel) ⟨⟨rfl,by decide+kernel⟩,trivial⟩ (Cq rfl T.range (Aa (Ax Av rfl T.len CI (Aa (pv 1) Ac)) Ac))
   (λ_ _ _=>BJ (i:=0))
   (λ_ _ _=>Br (Am (Eb (K:=K) rfl) (pv 0) (pv 1) rfl)) (λ_ _ _=>pv 0))
  (Ad (Bl (Ds (Ax (HS rfl) rfl bp Q4 (Aa (Bp (Ae Jc) ["point"] ["self","state"] [0,1] rfl rfl (by decide+kernel) ⟨⟨rfl,by decide+kernel⟩,⟨rfl,by decide+kernel⟩,trivial⟩ (CQ (pv 3))
    (λ_ _ _=>BJ (i:=0)) (λ_ _ _=>Dl)
    (λ_ _ _=>Bq (pv 1) cD mA GA hr bA .nil pass0 (Aa (pv 2) (Aa (pv 0) Ac)))) Ac))) (Ag (Ao (Gn (v:=.ref da) rfl N.mgD rfl))) BK)
  (Ag (Ao Ft))),?_⟩
 have ml:(st.map oV).length=st.length:=AB ..;refine⟨_,rfl,b,_,rfl,.inr hb,_,rfl,by lia,by rw[ml];lia,λZ hZ=>?_⟩;refine Cg (lo:=0) (n:=((((st.map oV).length:Nat):Int)).toNat) (λj τ H2=>∃o:Option V,τ=[o,uA (.ref tq)]/\Same H H2/\H2 Z=uA (.lst (nI (EY st x y j)))) ⟨uB,rfl,uw hZ _,Ab⟩ ?_ ?_
 .rintro j τ H2 hj ⟨o,rfl,s2,eZ⟩
  have ej:(0:Int)+j=(j:Int):=vc;rw[ej];have jl:j<st.length:=by rw[ml] at hj;lia
  have lo:(EY st x y j).length<=j:=BV (CS ..) (by rw[Cf];exact AF _);refine⟨_,rfl,_,rfl,tq,_,rfl,.inr (s2.ts.seq ht),rfl,rfl,_,rfl,?_⟩;have e:inV (V.int (j:Int)) [V.int (x:Int),V.int (y:Int)]=decide ((j:Int)∈[(x:Int),(y:Int)]):=CZ (j:Int) [(x:Int),(y:Int)];rw[uD rfl,e];by_cases c:j≠x/\j≠y
  .rw[uF (by intro z;simp at z;lia)]
   refine iteT ⟨_,rfl,_,eZ,Az (by rw[DQ];lia),_,rfl,s2.put hZ _,?_⟩
   .rw[Ab]
    unfold EY;rw[Fa,CM,DT (by simpa using c)];unfold nI;rw[BG];rfl
  .rw[uE (by simp;lia)]
   refine iteF ⟨_,rfl,s2,?_⟩;unfold EY;rw[Fa,CM,Dx (by simpa using c),PH,Cc];exact eZ
 .rintro τ H2 ⟨o,rfl,s2,eZ⟩
  rw[ml,Cn] at eZ;have ol:∀p∈EY st x y st.length,p<st.length:=λp hp=>AZ.mp (BO.mp hp).1;have lo:(EY st x y st.length).length<=st.length:=BV (CS ..) (by rw[Cf];exact AF _);refine⟨_,rfl,Z,rfl,⟨_,uj eZ⟩,λY hY=>?_⟩;refine Cj (K:=K) (a:=Z) (xs:=nI (EY st x y st.length)) (λj τ H3=>∃o:Option V,τ=[o,uA (.ref a),uA (.ref b)]/\Same H2 H3/\H3 Y=uA (.lst ((((EY st x y st.length).take j).map (stayS st)).map V.bl))) ⟨uB,rfl,uw hY _,Ab⟩ (by rintro j τ H3 _ ⟨_,_,s3,_⟩;exact s3.seq (uj eZ)) ?_ ?_
  .rintro j v τ H3 hv ⟨o,rfl,s3,eY⟩
   obtain⟨p,hp,rfl⟩:=RX hv;have jl:=(AG.mp hp).1;have g7:=s2.trans s3;refine yesN ⟨_,rfl,a,dx,_,rfl,g7 _ _ ha,hf.nM,_,rfl,_,rfl,.ref a,b,p,st,rfl,g7.ts.seq hb,ol p (AT hp),λH4 s4=>?_⟩;refine⟨_,s4 _ _ eY,Az (by rw[AB,AB,B4];lia),_,rfl,(s3.trans s4).put hY _,?_⟩
   .rw[Ab,D9,hp,BG,BG]
    rfl
  .rintro τ H3 ⟨o,rfl,s3,eY⟩
   rw[DQ,CU] at eY;have g7:=s2.trans s3;refine⟨Y,_,rfl,uj eY,_,rfl,?_⟩;have e:(((EY st x y st.length).map (stayS st)).all id)=(EY st x y st.length).all (stayS st):=by rw[S4];rfl
   rw[e];refine ite2 (λc=>?_) (λc=>?_)
   .refine q _ _ g7 ?_
    unfold JV;rw[uD (by exact c)];exact⟨da,rfl,N.at_ _,⟨.inl rfl,λp i z=>by cases z⟩⟩
   .refine q _ _ g7 ?_
    unfold JV;rw[uC (by exact c)];exact rfl
def Yi:FnScope ["self","web","state","number","tie"] zl11 (Ae Wb):=fscp (by decide+kernel)
def ACt(F:Fun K "taken" "Strands.taken" Wb f fd)(T:Txt K mg C)(cD:Cls K D)(N:Dn K mg da)(GA:FnOk P w K mg base CX0 2 fA e7 zl27 (Sg fl hf K D))(bA:Binds K e7 zl27 [])(mA:Meth K D "closed" fA)
  (GT:FnOk P w K mg base CX0 1 fT cm zl3 (RJ K C)) (bT:Binds K cm zl3 []) (mT:Meth K C "ties" fT)
  (GS:Cal P w K mg base 1 fS df "strands_tied" zl26 (Wq K)) :
  FnOk P w K mg base CX0 3 f fd zl11 (QK (uS fl hf) K C D):=by
 refine F.ok Yi (λvs H Q E h=>?_) (λa7 A outer s H vs Q E hr h=>?_)
 .obtain⟨a,p,b,dx,t,z,bs,st,rfl,_⟩:=h
  rfl
 obtain⟨a,p,b,dx,t,z,bs,st,rfl,ha,hW,cK,hb,vl,_,tl,z10,q⟩:=h;have vl:VldS z st:=vl;have dm:Room 2 _:=hr.mono (by decide);have bb:Room 1 _:=hr.mono (by decide);refine⟨_,Ad (Ak (i:=4) Yi.nd (Ay Bm (Bt (pv 1) T.cl mT GT bb bT .nil pass0) (pv 3)))
  (Ad (Bl (ud (Fd (Am (Vi RG (CN hr)) (pv 2) (Gn (v:=.ref da) rfl N.mgD rfl))
    (Fd (Im (Vz (Ay Bc (pv 2) (Ay Bc (pv 4) Af)))) (Ek (Im (Vz (Ay Bc (pv 2) (Ay Bc (pv 4) Af)))))))) (Ag (Ao Ft)) BK)
  (Ad (Bl (Am Cp (Ay Bc (pv 2) (Ay Bc (pv 4) Af)) (Ay Bc (pv 4) Af)) (Ag (Ao (Bq (pv 0) cD mA GA dm bA .nil pass0 (Aa (pv 2) (Aa (pv 4) Ac))))) BK)
  (Ag (Ao (BL GS bb rfl (Aa (pv 2) (Aa (pv 4) Ac))))))),?_⟩
 obtain⟨dw,jw,hp,_⟩:=id hW;refine⟨_,rfl,p,dw,_,rfl,hp,rfl,p,z,bs,rfl,hW,λl H1 s1 hl hL=>?_⟩;obtain⟨l',xs,el,hX,px⟩:=hL;cases el;have lx:=AY px;have xl:t<xs.length:=vF tl lx;obtain⟨tie,ht,rt⟩:=Paired.get px (AI xl);obtain⟨tq,etq,eQ⟩:=CG rt;obtain⟨x,y,rfl,xz,yz⟩:=cK tie (AT ht);have t8:atI xs (t:Int)=uA (.ref tq):=by
  rw[<- etq];exact Bk (AI xl)
 have gt:bs.getD t []=[(x:Int),(y:Int)]:=by rw[AD,ht];rfl
 have eX:ea bs t=x:=by unfold ea;rw[gt];rfl
 have eY:eb bs t=y:=by unfold eb;rw[gt];rfl
 have gT:SqT K H1 tq [.int (x:Int),.int (y:Int)]:=eQ;have iX:StAt K H1 b st:=s1.ts.seq hb;have q':∀(v':V) (H':Hp),Same H1 H'->RS (uS fl hf) K z H' v' (takeS st x y)->Q v' H':=λv' H' s' r'=>q v' H' (s1.trans s') (by show RS (uS fl hf) K z H' v' (takeS st (ea bs t) (eb bs t));rw[eX,eY];exact r');refine⟨_,rfl,l,xs,_,_,rfl,rfl,hX,t8,?_⟩;refine⟨_,rfl,st,[],XJ iX,⟨da,[],rfl,N.at_ _,.nil⟩,_,rfl,?_⟩;by_cases c0:st=[]
 .refine iteP c0 (iteT (q' _ _ (um _) ?_))
  unfold takeS;rw[uD (.inl c0)];exact rfl
 refine iteN c0 ?_;have ln:=vl.len.resolve_left c0;have gx:=Lf (st:=st) (p:=x) (dl xz ln);have gy:=Lf (st:=st) (p:=y) (dl yz ln);refine⟨_,rfl,_,rfl,tq,_,_,_,rfl,rfl,gT,at0,b,_,_,_,rfl,rfl,iX,gx,_,rfl,?_⟩;cases ex:st.getD x uB with
 | none =>
  refine iteT (iteT (q' _ _ (um _) ?_));unfold takeS;rw[uD (.inr (.inl ex))];exact rfl
 | some i =>
  rw[ex] at gx;refine iteF ?_;refine⟨_,rfl,_,rfl,tq,_,_,_,rfl,rfl,gT,at1,b,_,_,_,rfl,rfl,iX,gy,_,rfl,?_⟩;cases ey:st.getD y uB with
  | none =>
   refine iteT (q' _ _ (um _) ?_);unfold takeS;rw[uD (.inr (.inr ey))];exact rfl
  | some j =>
   rw[ey] at gy;have hi:=vl.pts x i ex;have hj:=vl.pts y j ey;have nt:¬ (st=[]\/st.getD x uB=uB\/st.getD y uB=uB):=λh=>by
    rcases h with h| h| h
    .exact c0 h
    .rw[ex] at h;cases h
    .rw[ey] at h;cases h
   refine iteF ?_;refine⟨_,rfl,_,rfl,tq,_,_,_,rfl,rfl,gT,at0,b,_,_,_,rfl,rfl,iX,gx,_,rfl,tq,_,_,_,rfl,rfl,gT,at1,rfl,_,rfl,?_⟩;by_cases c2:i=(y:Int)
   .refine iteP (by rw[c2];rfl) ?_
    refine⟨_,rfl,a,dx,_,rfl,s1 _ _ ha,hf.nC,_,rfl,_,rfl,a,b,tq,dx,x,y,z,st,rfl,s1 _ _ ha,iX,gT,zy ln z10,λv' H' s' r'=>q' v' H' s' ?_⟩;unfold takeS;rw[uC nt,uD (by rw[ex,c2])];exact r'
   .refine iteN (λz=>c2 (by injection z)) ?_
    refine⟨_,rfl,_,rfl,b,tq,x,y,i.toNat,j.toNat,st,rfl,iX,gT,dl xz ln,dl yz ln,zb hi ln,zb hj ln,zy ln z10,by rw[ex,DH hi.1],by rw[ey,DH hj.1],λb' H' s' k8=>q' _ H' s' ?_⟩;unfold takeS;rw[uC nt,uC (by rw[ex];intro z;exact c2 (AO z))];exact⟨b',rfl,k8,vl.tied⟩
end
noncomputable def rngS(z:Nat):StO:=(AR z).map λ(p:Nat)=>uA (p:Int)
def Eh(z:Nat):(rngS z).length=z:=by unfold rngS;rw[AB,Cf]
def Iw{p:Nat}(h:p<z):(rngS z).getD p uB=uA (p:Int):=by
 unfold rngS;rw[AD,AU,E7 h];rfl
def ABd(z:Nat):VldS z (rngS z):=⟨.inr (Eh z),λp i e=>by
 by_cases c:p<z
 .rw[Iw c] at e
  cases e;exact xW c
 .rw[AD,EL (by rw[Eh];exact uN c)] at e
  cases e⟩
abbrev Kd:=Addr×Nat×Nat
def wf(et:Addr):List (Str×V):=putF "ends" (.ref et) []
def Fg(et:Addr){m:Str}(h:¬ m = "ends"):(wf et).lookup m=uB:=by
 unfold wf;rw[Aj,uC h];rfl
def Ib(et:Addr):(wf et).lookup ("ends" : Str)=uA (.ref et):=by
 unfold wf;rw[Aj,uD rfl]
def flK(κ:Kd):List (Str×V):=wf κ.1
def noK(κ:Kd):NoF (flK κ):=⟨Fg _ (by decide+kernel),Fg _ (by decide+kernel),Fg _ (by decide+kernel),Fg _ (by decide+kernel),Fg _ (by decide+kernel),Fg _ (by decide+kernel),Fg _ (by decide+kernel),Fg _ (by decide+kernel)⟩
abbrev uK(κ:Kd):Wr:=uS (flK κ) (noK κ)
def heK(K:As)(H:Hp)(κ:Kd):Prop:=SqT K H κ.1 [.int (κ.2.1:Int),.int (κ.2.2:Int)]
def okK(z:Nat)(κ:Kd):Prop:=κ.2.1<z/\κ.2.2<z/\κ.2.1≠κ.2.2
def bgK(z:Nat)(κ:Kd):StO:=tiedS (rngS z) κ.2.1 κ.2.2
def idF(z:Nat):Fs:=λp=>if p<z then uA p else uB
def fnK(z:Nat)(κ:Kd):Fs:=tieF (idF z) κ.2.1 κ.2.2 κ.2.1 κ.2.2
def Gy{p:Nat}(h:p<z):idF z p=uA p:=uD h
set_option tactic.hygienic true in
theorem ACj{p q:Nat}(h:idF z p=uA q):p<z/\q=p:=by
 unfold idF at h;split at h
 .rename_i c
  exact⟨c,(AO h).symm⟩
 .cases h
def idF_sym(z:Nat):SymF (idF z):=λx y h=>by
 obtain⟨h1,h2⟩:=ACj h;rw[h2];exact Gy h1
def AEd(z:Nat):RngF z (idF z):=λx y h=>(ACj h).1
def AHc(z:Nat){P:Nat->Prop}(n:∀p,¬ P p):Rl z P (rngS z) (idF z):=⟨Eh z,λx hx _=>by rw[Iw hx,Gy hx];rfl,λx _ p=>(n x p).elim,idF_sym z,AEd z⟩
def AHU{P:Nat->Prop}(n:∀p,¬ P p){κ:Kd}(h:okK z κ):Rl z P (bgK z κ) (fnK z κ):=(AHc z n).tie h.1 h.2.1 (n _) (n _) h.2.2 (Gy h.1) (Gy h.2.1) h.2.2
def AGo{κ:Kd}:VldS z (bgK z κ):=(ABd z).tied
def AGa{κ:Kd}(h:okK z κ)(E:List (Nat×Nat)):acc z (fnK z κ) E↔acc z (idF z) ((κ.2.1,κ.2.2)::E):=by
 constructor
 .exact λa=>⟨_,_,Gy h.1,Gy h.2.1,.inr ⟨h.2.2,a⟩⟩
 .rintro⟨i,j,h1,h2,a⟩
  cases (Gy h.1).symm.trans h1;cases (Gy h.2.1).symm.trans h2;rcases a with⟨e,_⟩| ⟨_,a⟩
  .exact uH e h.2.2
  .exact a
def Qy(K:As)(D:Addr):Sp:=λvs H Q _=>∃(p dx:Addr) (a b:Nat),vs=[.ref p,.int (a:Int),.int (b:Int)]/\H p=uA (.ins D dx []) /\
 ∀(e:Addr) (H':Hp),(∀b o,H b=uA o->b≠p->H' b=uA o)->SqT K H' e [.int (a:Int),.int (b:Int)]->H' p=uA (.ins D dx (wf e))->Q .non H'
def WQ(K:As)(C D:Addr):Sp:=λvs H Q _=>∃(r p dx et:Addr) (z a b:Nat) (bs:uJ),vs=[.ref r,.ref p]/\H r=uA (.ins D dx (wf et))/\SqT K H et [.int (a:Int),.int (b:Int)]/\WebAt K C H p z bs/\a<z/\b<z/\a≠b/\Q .non H
def Xp(κ:Kd)(K:As)(C D:Addr):Sp:=λvs H Q _=>∃(r p dx:Addr) (z:Nat) (bs:uJ),vs=[.ref r,.ref p]/\H r=uA (.ins D dx (flK κ))/\heK K H κ/\okK z κ/\WebAt K C H p z bs/\z<=10 /\
 ∀(b':Addr) (H':Hp),Same H H'->StAt K H' b' (bgK z κ)->Q (.ref b') H'
def AGm(z:Nat):(below (z:Int).toNat).map V.int=(rngS z).map oV:=by
 rw[Cn];unfold rngS below;simp only[G0];rfl
def AFO:FnScope zl13 zl13 (Ae Xb):=fscp (by decide+kernel)
def ADh(F:Fun K "__init__" "Ways.__init__" Xb f fd)(cD:Cls K D)(nE:NoAttr K D "ends"):FnOk P w K mg base CX0 1 f fd zl13 (Qy K D):=by
 refine F.ok AFO (λvs H Q E h=>?_) (λa7 A outer s H vs Q E hr h=>?_)
 .obtain⟨p,dx,a,b,rfl,_⟩:=h
  rfl
 obtain⟨p,dx,a,b,rfl,hp,q⟩:=h;refine⟨_,Ag (El (pv 0) (Cr (Aa (pv 1) (Aa (pv 2) Ac))) rfl),?_⟩;refine⟨_,rfl,_,rfl,(by show 2<=sizeLine;decide),λe he=>?_⟩;have s1:=uw he (.tup [V.int (a:Int),V.int (b:Int)]);refine⟨_,rfl,p,D,dx,[],rfl,s1 _ _ hp,cD,nE,(by show 0<1000;decide),?_⟩;refine q e _ (λb o h n=>?_) (uk ?_) Ab
 .rw[Ah n]
  exact s1 _ _ h
 .rw[Ah (λe'=>?_)]
  .exact Ab
  .rw[e',hp] at he
   cases he
def scRefW:FnScope ["self","web","end"] zl14 (Ae Qz):=fscp (by decide+kernel)
def AFe(F:Fun K "refuse_web" "Ways.refuse_web" Qz f fd)(T:Txt K mg C)(cD:Cls K D)(nE:NoAttr K D "ends")(GS:FnOk P w K mg base CX0 1 fS df zl3 (Ik K C))(bS:Binds K df zl3 [])(mS:Meth K C "size" fS) :
  FnOk P w K mg base CX0 2 f fd zl14 (WQ K C D):=by
 refine F.ok scRefW (λvs H Q E h=>?_) (λa7 A outer s H vs Q E hr h=>?_)
 .obtain⟨r,p,dx,et,z,a,b,bs,rfl,_⟩:=h
  rfl
 obtain⟨r,p,dx,et,z,a,b,bs,rfl,h0,ht,hW,az,bz,ab,q⟩:=h;obtain⟨dw,jw,hp,_⟩:=id hW;refine⟨_,Ad (Cv CY rfl (Qh (Bg (pv 0) rfl)) (BP (i:=2) scRefW.nd)
   (Ag (Bl (ud (Fd (Am Px (pv 2) Af) (Ek (Am AFo (pv 2) (Bt (pv 1) T.cl mS GS hr bS .nil pass0))))) Dv BK)))
  (Ag (Bl (Am Cp (Ay Bc (Bg (pv 0) rfl) Af) (Ay Bc (Bg (pv 0) rfl) Af)) Dv BK)),?_⟩
 refine⟨_,rfl,r,D,dx,_,_,rfl,h0,cD,nE,Ib et,et,rfl,⟨_,ht⟩,?_⟩;refine AEk (K:=K) (a:=et) (xs:=[.int (a:Int),.int (b:Int)]) (λi σ H2=>∃o:Option V,H2=H/\σ=[uA (.ref r),uA (.ref p),o]) ⟨uB,rfl,rfl⟩ (λi σ H2 _ ⟨_,e,_⟩=>by rw[e];exact ht) ?_ ?_
 .rintro i x σ H2 hx ⟨o,rfl,rfl⟩
  obtain⟨c,rfl,cz⟩:∃c:Nat,x=.int (c:Int)/\c<z:=by
   match i,hx with
   | 0,hx=>cases hx;exact⟨a,rfl,az⟩
   | 1,hx=>cases hx;exact⟨b,rfl,bz⟩
   | i+2,hx=>cases hx
  refine⟨_,rfl,_,_,rfl,rfl,_,rfl,iteN vP ?_⟩;exact⟨_,rfl,_,rfl,p,dw,_,rfl,hp,rfl,p,z,bs,rfl,hW,_,_,rfl,rfl,_,rfl,iteN (by lia) ⟨_,rfl,rfl⟩⟩
 .rintro σ H2 ⟨o,rfl,rfl⟩
  exact⟨_,rfl,r,D,dx,_,_,rfl,h0,cD,nE,Ib et,et,_,_,_,rfl,rfl,ht,at0,_,rfl,r,D,dx,_,_,rfl,h0,cD,nE,Ib et,et,_,_,_,rfl,rfl,ht,at1,rfl,_,rfl,iteN (λz=>ab (by injection z with z;exact uy z)) q⟩
def ADi:FnScope zl14 zl14 (Ae Qn):=fscp (by decide+kernel)
def Zx(F:Fun K "begun" "Ways.begun" Qn f fd)(T:Txt K mg C)(cD:Cls K D)(nE:NoAttr K D "ends")
  (GR:FnOk P w K mg base CX0 2 fR lT zl14 (WQ K C D)) (bR:Binds K lT zl14 []) (mR:Meth K D "refuse_web" fR)
  (GS:FnOk P w K mg base CX0 1 fS df zl3 (Ik K C)) (bS:Binds K df zl3 []) (mS:Meth K C "size" fS)
  (GT:Cal P w K mg base 1 fT cm "strands_tied" zl26 (Wq K)) (x:Addr×Nat×Nat) :
  FnOk P w K mg base CX0 3 f fd zl14 (Xp x K C D):=by
 obtain⟨et,a,b⟩:=x;refine F.ok ADi (λvs H Q E h=>?_) (λa7 A outer s H vs Q E hr h=>?_)
 .obtain⟨r,p,dx,z,bs,rfl,_⟩:=h
  rfl
 obtain⟨r,p,dx,z,bs,rfl,h0,ht,⟨az,bz,ab⟩,hW,z10,q⟩:=h;have ht:SqT K H et [.int (a:Int),.int (b:Int)]:=ht;obtain⟨dw,jw,hp,_⟩:=id hW;have bb:Room 1 _:=hr.mono (by decide);have dm:Room 2 _:=hr.mono (by decide);refine⟨_,Ad (Ck (Bq (pv 0) cD mR GR dm bR .nil pass0 (Aa (pv 1) Ac)))
  (Ag (Ao (BL GT bb rfl (Aa (BX (FN rfl) rfl T.tuple De (Aa (BX Fb rfl T.range JA (Aa (Bt (pv 1) T.cl mS GS bb bS .nil pass0) Ac)) Ac)) (Aa (Bg (pv 0) rfl) Ac))))),?_⟩
 refine⟨_,rfl,r,dx,_,rfl,h0,Fg et (by decide+kernel),_,rfl,r,p,dx,et,z,a,b,bs,rfl,h0,ht,hW,az,bz,ab,?_⟩;refine⟨_,rfl,p,dw,_,rfl,hp,rfl,p,z,bs,rfl,hW,_,rfl,λR hR=>?_⟩;have s1:=uw hR (.rng 0 (z:Int));refine⟨R,(z:Int),rfl,Ab,fv,by lia,λt hT=>?_⟩;have s2:=s1.trans (uw hT (.tup ((below (z:Int).toNat).map V.int)));refine⟨_,rfl,r,D,dx,_,_,rfl,s2 _ _ h0,cD,nE,Ib et,t,et,a,b,a,b,rngS z,rfl,?_,s2.ts.seq ht,by rw[Eh];exact az,by rw[Eh];exact bz,by rw[Eh];exact az,by rw[Eh];exact bz,by rw[Eh];lia,Iw az,Iw bz,λb' H' s' k8=>q b' H' (s2.trans s') k8⟩;refine uk ?_;rw[Ab,AGm]
noncomputable def edg(bs:uJ)(s:uL):List (Nat×Nat):=s.map λx=>(ea bs x,eb bs x)
def Apart(bs:uJ):Prop:=∀x,x<bs.length->ea bs x≠eb bs x
def Kw(κ:Kd)(K:As)(C Dc S:Addr):Sp:=λvs H Q _=>∃(W r dr:Addr) (z:Nat) (bs:uJ),vs=[.ref W,.ref r]/\WebAt K C H W z bs/\H r=uA (.ins Dc dr (flK κ))/\heK K H κ/\okK z κ/\1<=z/\z<=10/\bs.length<=12/\OkB z bs/\Apart bs /\
 ∀(p:Addr) (ae:List Row) (hd:Nat) (H':Hp),Same H H'->K31s.SvAt K S H' p bs.length ae hd->Canon bs.length ae hd->(∀s:uL,s.Pairwise (· < ·)->(∀x∈s,x<bs.length)->(led ae hd s=true↔acc z (idF z) ((κ.2.1,κ.2.2)::edg bs s)))->ae.length<=4000->Q (.ref p) H'
def RZ{bs:uJ}(h:OkB z bs){t:Nat}(tn:t<bs.length):ea bs t<z/\eb bs t<z/\t<Lp bs (ea bs t)/\t<Lp bs (eb bs t):=by
 have hbt:=AI tn;obtain⟨x,y,e,xz,yz⟩:=h bs[t] (FA tn);have gd:bs.getD t []=bs[t]:=by rw[AD,hbt];rfl
 have ex:ea bs t=x:=by unfold ea;rw[gd,e];rfl
 have ey:eb bs t=y:=by unfold eb;rw[gd,e];rfl
 rw[ex,ey];refine⟨xz,yz,AFk tn ?_,AFk tn ?_⟩<;>(unfold onB;rw[gd,e];simp)
def AGV(κ:Kd){bs:uJ}:Good (uK κ) bs z (λ_ _=>True):=λt o st tn g e=>⟨trivial,trivial,trivial⟩
theorem Xr(κ:Kd):∀(ps:uL) (st:StO),passU (uK κ) st ps=passS st ps
 | [],st=>rfl
 | p::ps,st=>by
  show(passS1 st p).bind _=(passS1 st p).bind _
  congr 1
  funext s
  exact Xr κ ps s
def AHv{κ:Kd}{bs:uJ}(h:OkB z bs)(ap:Apart bs)(z1:1<=z)(ok:okK z κ)(s:uL)(pw:s.Pairwise (· < ·))(hs:∀x∈s,x<bs.length):semC (uK κ) bs z bs.length 0 (uA (bgK z κ)) s=true↔acc z (idF z) ((κ.2.1,κ.2.2)::edg bs s):=by
 have e:(λt r=>passU (uK κ) r (behP bs z t))=λt st=>passS st ((AR z).filter λp=>decide (Lp bs p=t)):=by
  funext t r
  exact Xr κ _ r
 show semO lefU (takU (uK κ) bs) (λt r=>passU (uK κ) r (behP bs z t)) (uK κ).fu bs.length 0 (uA (bgK z κ)) s=true↔_;rw[e,<- AGa ok];exact Vt (z:=z) (n:=bs.length) (ea:=ea bs) (eb:=eb bs) (L:=Lp bs) z1 (λx xn=>by obtain⟨a,b,c,d⟩:=RZ h xn;exact⟨a,b,ap x xn,c,d⟩) bs.length 0 (bgK z κ) (fnK z κ) s xI (AHU (λp hp=>uH hp (K4 _)) ok) pw λx hx=>⟨By _,by have:=hs x hx;lia⟩
def Qx:FnScope ["web","rule","growth","top"] zl28 (Ae Wf):=fscp (by decide+kernel)
def ADM{κ:Kd}(F:Fun K "grown" "grown" Wf f fd)(cD:Cls K D)(O:Gro K mg Gc)(M:Mk K Gc fI)
  (GI:FnOk P w K mg base CX0 3 fI kR zl8 (YG (uK κ) P w K C D Gc)) (bI:Binds K kR zl8 [])
  (GK:∀d,FnOk P w K mg base CX0 (d+5) fK kF zl25 (Lk (uK κ) P w K C D Gc d)) (bK:Binds K kF zl25 []) (mK:Meth K Gc "knot_at" fK)
  (GB:FnOk P w K mg base CX0 3 fB nz zl14 (Xp κ K C D)) (bB:Binds K nz zl14 []) (mB:Meth K D "begun" fB)
  (GG:Cal P w K mg base 3 fG kS "least_graph" zl23 (K31s.YQ K S)) :
  FnOk P w K mg base CX0 18 f fd zl28 (Kw κ K C D S):=by
 refine F.ok Qx (λvs H Q E h=>?_) (λa7 A outer s H vs Q E hr h=>?_)
 .obtain⟨W,r,dr,z,bs,rfl,_⟩:=h
  rfl
 obtain⟨W,r,dr,z,bs,rfl,hW,gE,heκ,okκ,z1,z10,b8,cK,ap,q⟩:=h;have dm:Room 2 _:=hr.mono (by decide);have ny:Room 3 _:=hr.mono (by decide);have hrM:Room (3+1) _:=hr.mono (by decide);have hrK:Room (bs.length+5) _:=hr.mono (by lia);refine⟨_,Ad (Ak (i:=2) Qx.nd (Gg M GI hrM rfl O.mgG bI .nil pass0 (Aa (pv 0) (Aa (pv 1) Ac))))
  (Ad (Ak (i:=3) Qx.nd (Bq (pv 2) O.cl mK (GK bs.length) hrK bK .nil pass0 (Aa Af (Aa (Bq (pv 1) cD mB GB ny bB .nil pass0 (Aa (pv 0) Ac)) Ac))))
  (Ag (Ao (BL GG ny rfl (Aa (Bg (pv 2) rfl) (Aa (Bg (pv 2) rfl) (Aa (pv 3) Ac))))))),?_⟩
 refine⟨_,rfl,_,rfl,λg dx hg hdx ne=>?_⟩;have pE:(upd H dx (.own g)) g=uB:=by rw[Ah (Bi ne)];exact hg
 have s1:=(uw hdx (.own g)).trans (uw pE (.ins Gc dx []));obtain⟨dw,jw,hw,_⟩:=id hW;refine⟨g,dx,W,r,dr,z,bs,rfl,Ab,Ai hw hg,Ai gE hg,hW.same s1,s1 _ _ gE,z10,b8,λBh R Dk H2 k2 gr rw0 nR0 nD0=>⟨rfl,?_⟩⟩;have s2:Same H H2:=λb o e=>k2 _ _ (s1 _ _ e) (Ai e hg);obtain⟨dg,hg2'⟩:=gr.ins;refine⟨_,rfl,g,dg,_,rfl,hg2',rfl,_,rfl,r,dr,_,rfl,s2 _ _ gE,(noK κ).nB,_,rfl,r,W,dr,z,bs,rfl,s2 _ _ gE,s2.ts.seq heκ,okκ,gr.web,z10,λb H3 s3 hb=>?_⟩;have qR:=rw0.same s3;have qe:=gr.same s3;have p2:2 ^ bs.length<=2 ^ 12:=KM (by decide) b8;refine⟨g,W,r,Bh,R,Dk,z,0,bs,.ref b,uA (bgK z κ),[],[],λ_ _=>True,rfl,xI,qe,z1,z10,b8,cK,AGV κ,trivial,⟨b,rfl,hb,AGo⟩,qR,by show 0+_<=_;lia,λk more bj H4 kp pU ld _ cnt ml=>?_⟩;rw[VE] at pU ld;obtain⟨xs3,eR3,_⟩:=id qR.at_;obtain⟨_,_,ax3,qM,_⟩:=id qR.dn;have gr4:=qe.keep kp eR3 qM;obtain⟨dg4,hg4⟩:=gr4.ins;obtain⟨xs4,kg,px4⟩:=id pU.at_;refine⟨_,rfl,g,Gc,dg4,_,_,rfl,hg4,O.cl,O.nA,PL _ _ _ _ _ _,_,rfl,g,Gc,dg4,_,_,rfl,hg4,O.cl,O.nR,RB _ _ _ _ _ _,_,rfl,R,bs.length,k,more,rfl,K31s.RowsAt.of ⟨R,xs4,rfl,uj kg,px4⟩,pU.ok,b8,by lia,Vy pU.ok b8 cnt k,ld.kn,λp ae hd H' s' h1 h2 h3 h4=>?_⟩;have none_back:∀{x:Addr},(upd (upd H dx (.own g)) g (.ins Gc dx [])) x=none->H x=uB:=λ{x} n=>by
  cases e:H x with
  | none=>rfl
  | some o=>have:=s1 _ _ e;rw[n] at this;cases this
 refine q p ae hd H' (λb o e=>s' _ _ (kp _ _ (Ai e (none_back nR0)) (Ai e (none_back nD0)) (s3 _ _ (s2 _ _ e)))) h1 h2 (λs pw hs=>?_) h4.1;rw[h3 s,ld.eq s];exact AHv cK ap z1 okκ s pw hs
end K31
namespace PySem.SeqAt
open PySem.AutoSeq1 (wpAny_loadPart')
open MeetsSeq
def Nh(l:Addr)(items:Array AA)(n:Nat)(x:AA)(e:AA->Bool)(j:Nat)(hj:j<items.size)(bq:e items[j]=true)(k:Nat)(hs1:items.size<=sizeLine) :
  ∀i:Nat,j-i=k->i<=j->(∀m (hm:m<items.size),i<=m->m<j->e items[m]=false)->Meets (Builtin.«list.remove.loop» ⟨[.ref l,x,He i],[]⟩)
   (λA R s=>s.heap.get? l=uA {cls:=.type "list",dict:=uB,data:=.seq items n,slots:=#[]}/\(∀y,y∈items->EqAt A.in1 s y x (e y))/\R (.ok (.ret .none)) {s with heap:=s.heap.update l (DZ λxs=>xs.eraseIdxIfInBounds j)}):=by
 induction k with
 | zero =>
  intro i hk iE iP prog w A R s h;obtain⟨hp,g,d,tk,os⟩:=s;obtain⟨hl,he,h⟩:=h;have hij':i=j:=xr iE hk;subst hij'
  wp_walk using wpAny_loadPart' hl
  have hi:items[((i:Nat):Int).toNat]?=uA items[i]:=by simp[hj]
  rw[hi];refine Au (he _ (TB hj) prog w _ _ ?_);rw[bq];have sR:(items.eraseIdxIfInBounds i).size<=sizeLine+1:=BV (size_erased items _) (OK hs1)
  wp_walk using(PM hl rfl (hz:=hs1) (_hz':=sR)),wpAny_loadPart' hl
  simpa using h
 | succ k ih =>
  intro i hk iE iP prog w A R s h;obtain⟨hp,g,d,tk,os⟩:=s;obtain⟨hl,he,h⟩:=h;have a8:i<items.size:=u3 iE hj
  wp_walk using wpAny_loadPart' hl
  have hi:items[((i:Nat):Int).toNat]?=uA items[i]:=by simp[a8]
  have hc:((i:Int)+1)=((i+1:Nat):Int):=by push_cast;rfl
  rw[hi];refine Au (he _ (TB a8) prog w _ _ ?_);rw[iP i a8 (AF _) (xp hk)]
  wp_walk
  rw[hc];exact⟨JJ L6 _,EA TC (by
   rw[EB L6 _];exact ih (i+1) (xq hk) (by lia) (λm hm h1 h2=>iP m hm (u8 h1) h2) prog w A R _ ⟨hl,he,h⟩)⟩
def Nu(l:Addr)(items:Array AA)(n:Nat)(x:AA)(e:AA->Bool)(j:Nat)(hj:j<items.size)
  (bq:e items[j]=true) (iP:∀m (hm:m<items.size),m<j->e items[m]=false) (hs1:items.size<=sizeLine) :
  Meets (Builtin.«list.remove» ⟨[.ref l,x],[]⟩)
   (λA R s=>s.heap.get? l=uA {cls:=.type "list",dict:=uB,data:=.seq items n,slots:=#[]}/\(∀y,y∈items->EqAt A.in1 s y x (e y))/\R (.ok (.ret .none)) {s with heap:=s.heap.update l (DZ λxs=>xs.eraseIdxIfInBounds j)}):=by
 intro prog w A R s h;obtain⟨hp,g,d,tk,os⟩:=s;obtain⟨hl,he,h⟩:=h
 wp_walk using wpAny_loadPart' hl
 exact⟨JJ L6 _,EA TC (by
  rw[EB L6 _];exact Nh l items n x e j hj bq _ hs1 0 rfl (By _) (λm hm _ h2=>iP m hm h2) prog w A R _ ⟨hl,he,h⟩)⟩
end PySem.SeqAt
namespace L2
open PySem PySem.Spec PySem.W PyProof.Rows
section
variable[DecidableEq α]{R:Rep α}
def Vg:∀{xs:List V}{us:List AA},Vals xs us->∀j,Vals (xs.eraseIdx j) (us.eraseIdx j):=by
 intro l m h
 induction h with
 | nil=>exact λ_=>.nil
 | cons h t ih=>intro j;cases j with| zero=>exact t| succ j=>exact .cons h (ih j)
def AFN{α:Type}(R:Rep α):V->List V->Hp->VK->Prop:=λx vs H Q=>∃(l:Addr) (xs:List V) (y:V) (a:α) (as:List α) (j:Nat),x=.ref l/\vs=[y]/\H l=uA (.lst xs)/\BN (R H) as xs/\R H a y/\as[j]?=uA a/\(∀m,m<j->as[m]?≠uA a)/\Q .non (upd H l (.lst (xs.eraseIdx j)))
def Ov(D:Dat X n R)(hu:X.A.units+(n+1)<C2):MtM X "list.remove" (AFN R):=by
 intro aa s σ H x vs v us Q I rx rv h;obtain⟨l,xs,y,a,as,j,rfl,rfl,hH,pa,ra,hj,iP,q⟩:=h;cases rx;obtain⟨u,rfl,ry⟩:=rv.one;obtain⟨z,ag,m,r,hl,e⟩:=I.lstM hH;have qv:X.A.in1.units+n<C2:=by show X.A.units+1+n<C2;exact vt hu
 have lx:=AY pa;have at_:∀m (hm:m<ag.toArray.size),∃am,as[m]?=uA am/\isDat R H a ag.toArray[m]=decide (am=a):=λm hm=>by
  have cw:m<xs.length:=by rw[hl];simpa using hm
  have e1:xs[m]?=uA xs[m]:=AI cw;obtain⟨am,ea,rm⟩:=Paired.get pa e1;obtain⟨w,hw,eK⟩:=r.get e1;have e2:ag.toArray[m]=w:=by
   have:ag[m]?=uA w:=hw;simpa using(AG.mp this).2
  refine⟨am,ea,?_⟩;rw[e2];exact Ln D I eK rm
 have bu:j<ag.toArray.size:=by
  have:=(AG.mp hj).1;rw[lx,hl] at this;simpa using this
 refine OL F.slot_list_remove ⟨_,e,rfl⟩ F.entry_list_remove (F.args_list_remove_2 _ _) (SeqAt.Nu l ag.toArray m u (isDat R H a) j bu ?_ (λm hm hmj=>?_) ?_) ⟨e,λw hw=>LC D I qv ry ra pa r w (by simpa using hw),?_⟩
 .obtain⟨am,e1,e2⟩:=at_ j bu
  rw[e2];rw[hj] at e1;cases e1;exact uE rfl
 .obtain⟨am,e1,e2⟩:=at_ m hm
  rw[e2];exact uF λz=>iP m hmj (by rw[e1,z])
 .rw[AV,<- hl]
  exact z
 .refine⟨.non,_,I.lset (t':=s.toks) (its':=ag.eraseIdx j) hH e ?_ (Vg r j) ?_,rfl,q⟩
  .rw[AV] at bu
   simp[O7,bu]
  .rw[Nc]
   split<;>lia
end
end L2
namespace K31
open PySem L2 G
def Xa:Sp:=λvs H Q _=>∃(c:Int),vs=[.int c]/\∀n:Int,Q (.int n) H
def AHC:FnScope zl15 zl15 (Ae AAz):=fscp (by decide+kernel)
def AEM(F:Fun K "_law_at" "_law_at" AAz f fd)(T:Txt K mg C):FnOk P w K mg base CX0 1 f fd zl15 (ACz K):=by
 refine F.ok AHC (λvs H Q E h=>?_) (λa7 A outer s H vs Q E hr h=>?_)
 .obtain⟨a,ns,k,rfl,_⟩:=h
  rfl
 obtain⟨a,ns,k,rfl,hS,h0,q⟩:=h;refine⟨_,Ad (Bl (Am Px (pv 1) (Ax Av rfl T.len CI (Aa (pv 0) Ac))) (Ag (Ao (Ay Bm (pv 0) (pv 1)))) BK)
  (Ag (Ao Af)),?_⟩
 refine⟨_,rfl,_,rfl,a,_,rfl,.inl hS,k,_,rfl,rfl,_,rfl,?_⟩;by_cases hc:k<((ns.map V.int).length:Int)
 .obtain⟨v,hv⟩:=ADd h0 (by rw[AB] at hc;exact hc)
  exact iteP hc ⟨_,rfl,_,rfl,a,_,k,_,rfl,rfl,hS,hv,q v⟩
 .exact iteN hc (q 0)
def ADV:FnScope ["_law_cell","_law_one","_law_two"] zl29 (Ae AGK):=fscp (by decide+kernel)
def AHP(F:Fun K "_law_mixed" "_law_mixed" AGK f fd):FnOk P w K mg base CX0 1 f fd zl29 Xa:=by
 refine F.ok ADV (λvs H Q E h=>?_) (λa7 A outer s H vs Q E hr h=>?_)
 .obtain⟨c,rfl,_⟩:=h
  rfl
 obtain⟨c,rfl,q⟩:=h;refine⟨_,Ad (Ak (i:=1) ADV.nd (Ar Bu (Ar Bv (Ar Jq (pv 0) Af) Af) Af))
  (Ad (Ak (i:=2) ADV.nd (Ar Bu (Ar Jq (pv 1) (pv 1)) Af))
  (Ag (Ao (Ar Bv (Ar Jq (Ar Bv (Ar Jq (pv 1) Af) (pv 2)) Af) (Ar Bu (Ar Jq (pv 2) (pv 2)) Af))))),?_⟩
 refine⟨_,rfl,_,_,rfl,rfl,.inr ⟨by decide,by decide⟩,_,_,rfl,rfl,_,_,rfl,rfl,(by show(0:Int)<2147483647;decide),?_⟩;have h1:=EC (c*48271+12345) (show(2147483647:Int)≠0 by decide);have h2:=DB (c*48271+12345) (show(0:Int)<2147483647 by decide);dsimp only;generalize (c*48271+12345)%2147483647=x at h1 h2;refine⟨_,rfl,_,rfl,_,_,rfl,rfl,.inl ⟨by lia,by lia⟩,_,_,rfl,rfl,(by show(0:Int)<2147483629;decide),?_⟩;have h3:=EC (x*x) (show(2147483629:Int)≠0 by decide);have h4:=DB (x*x) (show(0:Int)<2147483629 by decide);dsimp only;generalize x*x%2147483629=y at h3 h4;exact⟨_,rfl,_,_,rfl,rfl,.inl ⟨by lia,by lia⟩,_,rfl,_,_,rfl,rfl,_,_,rfl,rfl,.inr ⟨by decide,by decide⟩,_,rfl,_,rfl,_,_,rfl,rfl,.inl ⟨by lia,by lia⟩,_,_,rfl,rfl,(by show(0:Int)<2147483587;decide),_,_,rfl,rfl,q _⟩
end K31
namespace K35
open PySem L2
def DownP(i:Nat)(t:uI):Prop:=∃a b:Nat,t=[(a:Int),(b:Int)]/\b<a/\a<i
noncomputable def newP(i j:Nat):uJ:=(AR j).map λ(o:Nat)=>[(i:Int),(o:Int)]
def Lq{a b:Nat}(h:b<a):srt [(a:Int),(b:Int)]=[(b:Int),(a:Int)]:=by rw[FQ,uD (uz h)]
def AEq{a b:Nat}(h:b<a):srt [(b:Int),(a:Int)]=[(b:Int),(a:Int)]:=by rw[FQ,uC (by lia)]
def Zg(i j:Nat):newP i (j+1)=newP i j++[[(i:Int),(j:Int)]]:=by
 unfold newP;rw[Fa,BG];rfl
def ADG{t:uI}(h:t∈newP i i):DownP (i+1) t:=by
 obtain⟨o,ho,rfl⟩:=A7.mp h;exact⟨i,o,rfl,AZ.mp ho,vq⟩
def AEU{ps:uJ}(hd:∀t∈ps,DownP i t)(hn:(ps.map srt).Nodup):((ps++newP i i).map srt).Nodup:=by
 have e:(newP i i).map srt=(AR i).map λ(o:Nat)=>[(o:Int),(i:Int)]:=by
  unfold newP;rw[G0];refine Hn λo ho=>?_;exact Lq (AZ.mp ho)
 rw[BG,e,L7];refine⟨hn,?_,?_⟩
 .unfold LN
  rw[C0];refine HL.imp λ{a b} h z=>h ?_;injection z with z _
  exact uy z
 .rintro t ht u hu rfl
  obtain⟨t0,h0,rfl⟩:=A7.mp ht;obtain⟨a,b,rfl,ba,ai⟩:=hd t0 h0;obtain⟨o,ho,e⟩:=A7.mp hu;rw[Lq ba] at e;injection e with e1 e2
  injection e2 with e2 _
  lia
def ADN{ps:uJ}{p:uI}(hn:(ps.map srt).Nodup)(hj:ps[j]?=uA p):∀m,m<j->ps[m]?≠uA p:=λm hm z=>by
 have jl:=(AG.mp hj).1;have ml:=(AG.mp z).1;refine(CL.mp hn) m j (by rw[AB];exact ml) (by rw[AB];exact jl) hm ?_;rw[MB,MB,(AG.mp z).2,(AG.mp hj).2]
theorem NZ{α:Type}:∀{l:List α}{j:Nat}{p:α},l[j]?=uA p->(p::l.eraseIdx j).Perm l
 | [],j,p,h=>by cases h
 | a::l,0,p,h=>by
  cases h;exact LO _
 | a::l,j+1,p,h=>(LP a p _).trans (QR a (NZ (l:=l) (j:=j) (by simpa using h)))
def AEf{ps:uJ}{p p':uI}(hn:((as++ps).map srt).Nodup)(hj:ps[j]?=uA p)(e:srt p'=srt p):(((as++[p'])++ps.eraseIdx j).map srt).Nodup:=by
 obtain⟨jl,ej⟩:=AG.mp hj;have pm:=NZ hj;have e2:(((as++[p'])++ps.eraseIdx j).map srt)=((as++(p::ps.eraseIdx j)).map srt):=by
  rw[C5,BG,BG (l₁:=as)];show _++(srt p'::_)=_++(srt p::_);rw[e];rfl
 rw[e2];exact(((Fc as pm).map srt).nodup_iff).mpr hn
def Paired.erase{F:α->β->Prop}:∀{l:List α}{m:List β},BN F l m->∀j,BN F (l.eraseIdx j) (m.eraseIdx j):=by
 intro l m h
 induction h with
 | nil=>exact λ_=>.nil
 | cons h t ih=>intro j;cases j with| zero=>exact t| succ j=>exact .cons h (ih j)
end K35
namespace K31
open PySem L2 G K35
def Yo(K:As):Sp:=λvs H Q _=>∃(m n:Int),vs=[.int m,.int n]/\1<=m/\m<=10/\∀(l:Addr) (xs:List V) (as:uJ) (H':Hp),Same H H'->H l=none->H' l=uA (.lst xs)->BN (rPair K H') as xs->OkTies m as->as.length<=12->Q (.ref l) H'
def Dm:FnScope ["_law_many","_law_number","_law_pairs","_law_one","_law_wanted","_law_rows_here","_law_other"] zl30 (Ae RK):=fscp (by decide+kernel)
def ADQ(F:Fun K "_law_rows" "_law_rows" RK f fd)(T:Txt K mg C)
  (GX:Cal P w K mg base 1 fX fdX "_law_mixed" zl29 Xa):FnOk P w K mg base CX0 2 f fd zl30 (Yo K):=by
 refine F.ok Dm (λvs H Q E h=>?_) (λa7 A outer s H vs Q E hr h=>?_)
 .obtain⟨m,c,rfl,_⟩:=h
  rfl
 obtain⟨m,n,rfl,m1,m10,q⟩:=h;have bb:Room 1 _:=hr.mono (by decide);refine⟨_,Ad (Ak (i:=2) Dm.nd (Cu Ac))
  (Ad (Cv CY rfl (Cq rfl T.range (Aa (pv 0) Ac)) (BP (i:=3) Dm.nd)
   (Ag (Ck (Ih Do PySem.F.slot_list_extend PySem.F.type_list_extend Zu (pv 2) (Aa (Bp (Ae RK) ["_law_other"] ["_law_one"] [3] rfl rfl (by decide+kernel) ⟨⟨rfl,by decide+kernel⟩,trivial⟩ (Cq rfl T.range (Aa (pv 3) Ac))
    (λ_ _ _=>BJ (i:=0)) (λ_ _ _=>Dl) (λ_ _ _=>Cr (Aa (pv 1) (Aa (pv 0) Ac)))) Ac)))))
  (Ad (Ak (i:=4) Dm.nd (Ar Bu (pv 1) Af))
  (Ad (Ak (i:=1) Dm.nd (Ar Et (pv 1) Af))
  (Ad (Ak (i:=5) Dm.nd (Cu Ac))
  (Ad (Rt CY (ud (Ir (Am Px (Ax Av rfl T.len CI (Aa (pv 5) Ac)) (pv 4)) (Gm (Am (Rr (Gp DX) (CN hr)) (pv 2) (Cu Ac)))))
   (JF (Bl (Am Cp (pv 1) Af) (Ag (Ak (i:=1) Dm.nd (BL GX bb rfl (Aa (Ar Bv (pv 0) (Ar Jq Af (Ax Av rfl T.len CI (Aa (pv 5) Ac)))) Ac)))) BK)
   (Ad (Jr (Ay Bm (pv 2) (Ar Bu (pv 1) (Ax Av rfl T.len CI (Aa (pv 2) Ac)))) (Iv rfl (BW (BP (i:=3) Dm.nd) (BW (BP (i:=6) Dm.nd) DK))))
   (Ad (Ak (i:=1) Dm.nd (Ar Et (pv 1) (Ax Av rfl T.len CI (Aa (pv 2) Ac))))
   (Ad (Ck (Ih Do Pc Pd (Ov (Gp DX) (CN hr)) (pv 2) (Aa (Cr (Aa (pv 3) (Aa (pv 6) Ac))) Ac)))
   (Ad (Ck (Ih Do EN EO Dd (pv 5) (Aa (Ay Bm (Cu (Aa (Cr (Aa (pv 3) (Aa (pv 6) Ac))) (Aa (Cr (Aa (pv 6) (Aa (pv 3) Ac))) Ac))) (Ar Bu (pv 1) Af)) Ac)))
   (Ag (Ak (i:=1) Dm.nd (Ar Et (pv 1) Af)))))))))
  (Ag (Ao (pv 5)))))))),?_⟩
 refine⟨By _,λPa hPa=>?_⟩;have s0:=uw hPa (.lst []);have e0:(upd H Pa (.lst [])) Pa=uA (.lst []):=Ab;generalize upd H Pa (.lst [])=H0 at s0 e0;refine⟨_,rfl,m,rfl,by lia,by lia,?_⟩;refine Jw (lo:=0) (n:=m.toNat) (λi σ H2=>∃(o3:Option V) (ps:uJ) (xs:List V),σ=[uA (.int m),uA (.int n),uA (.ref Pa),o3,uB,uB,uB]/\Same H H2/\H2 Pa=uA (.lst xs)/\BN (rPair K H2) ps xs/\(∀t∈ps,DownP i t)/\(ps.map srt).Nodup/\ps.length<=10*i) ⟨uB,[],[],rfl,s0,e0,.nil,λt h=>by(cases h),LM,AF _⟩ ?_ ?_
 .rintro i σ H2 hi ⟨o3,ps,xs,rfl,sm,eP,pp,dn,nd,ln⟩
  have ei:(0:Int)+i=(i:Int):=vc;rw[ei];have i9:i<10:=by lia
  refine⟨_,rfl,.inl ⟨rfl,_,uj eP⟩,_,rfl,(i:Int),rfl,by lia,by lia,λZ hZ=>?_⟩;have PZ:Pa≠Z:=Ai eP hZ;refine Cg (lo:=0) (n:=(i:Int).toNat) (λj τ H3=>∃(o:Option V) (ys:List V),τ=[o,uA (.int i)]/\Same H2 H3/\H3 Z=uA (.lst ys)/\BN (rPair K H3) (newP i j) ys) ⟨uB,[],rfl,uw hZ _,Ab,.nil⟩ ?_ ?_
  .rintro j τ H3 hj ⟨o,ys,rfl,s3,eZ,py⟩
   have ej:(0:Int)+j=(j:Int):=vc;rw[ej];have ly:=AY py;have l2:(newP i j).length=j:=by unfold newP;rw[AB,Cf]
   refine⟨_,rfl,_,rfl,(by show 2<=sizeLine;decide),λt ht=>?_⟩;have s4:=uw ht (.tup [.int (i:Int),.int (j:Int)]);have tZ:t≠Z:=λz=>by rw[z,eZ] at ht;cases ht
   refine⟨ys,s4 _ _ eZ,Az (by lia),_,_,rfl,(s3.trans s4).put hZ _,Ab,?_⟩
   .rw[Zg]
    have ts:TSm H3 (upd (upd H3 t (.tup [.int (i:Int),.int (j:Int)])) Z (.lst (ys++[.ref t]))):=s4.ts.trans (ur (s4 _ _ eZ));exact uo (ut (λa b=>Aq Aw _ _ a b ts) py) (uq (GZ (ns:=[(i:Int),(j:Int)]) (by rw[Ah tZ];exact Ab)))
  .rintro τ H3 ⟨o,ys,rfl,s3,eZ,py⟩
   rw[Cn] at py;have ly:=AY py;have lx:=AY pp;have l2:(newP i i).length=i:=by unfold newP;rw[AB,Cf]
   refine⟨Pa,Z,xs,ys,rfl,rfl,s3 _ _ eP,eZ,C1 (Az (by lia)),?_⟩;have ts:TSm H3 (upd H3 Pa (.lst (xs++ys))):=ur (s3 _ _ eP);refine⟨_,ps++newP i i,xs++ys,rfl,(sm.trans s3).put hPa _,Ab,uo (ut (λa b=>Aq Aw _ _ a b (s3.ts.trans ts)) pp) (ut (λa b=>Aq Aw _ _ a b ts) py),λt ht=>?_,AEU dn nd,by rw[BF];lia⟩
   .rcases Co.mp ht with ht| ht
    .obtain⟨a,b,e,h1,h2⟩:=dn t ht
     exact⟨a,b,e,h1,uW h2⟩
    .exact ADG ht
 rintro σ H2 ⟨o3,ps,xs,rfl,sm,eP,pp,dn,nd,ln⟩;refine⟨_,rfl,_,_,rfl,rfl,(by show(0:Int)<13;decide),?_⟩;refine⟨_,rfl,_,_,rfl,rfl,⟨by decide,by decide⟩,?_⟩;refine⟨By _,λR hR=>?_⟩;have w1:=DB n (show(0:Int)<13 by decide);have PR:Pa≠R:=Ai eP hR;have hRH:H R=uB:=by
  cases e:H R with
  | none=>rfl
  | some o=>have:=sm _ _ e;rw[hR] at this;cases this
 have mz:(m.toNat:Int)=m:=DH (by lia);refine⟨λk σ H3=>∃(o3 o6:Option V) (nn:Int) (ps as:uJ) (xs ys:List V),σ=[uA (.int m),uA (.int nn),uA (.ref Pa),o3,uA (.int (n%13)),uA (.ref R),o6]/\k=ps.length/\Same H H3/\H3 Pa=uA (.lst xs)/\H3 R=uA (.lst ys)/\BN (rPair K H3) ps xs/\BN (rPair K H3) as ys/\(∀t∈ps,DownP m.toNat t)/\(∀t∈as,OkTie m t)/\((as++ps).map srt).Nodup/\ps.length<=100/\as.length<=12,?_,?_⟩
 .refine⟨_,_,_,_,ps,[],xs,[],rfl,rfl,sm.trans (uw hR _),by rw[Ah PR];exact eP,Ab,ut (λa b=>Aq Aw _ _ a b (uw hR _).ts) pp,.nil,dn,λt h=>(by cases h),nd,by lia,By _⟩
 rintro k σ H3 ⟨o3,o6,nn,ps,as,xs,ys,rfl,rfl,s3,eP,eR,pp,pr,dn,ok,nd,ln,l4⟩;have lx:=AY pp;have ly:=AY pr;have fin:∀H4,Same H3 H4->Q (.ref R) H4:=λH4 s4=>q R ys as H4 (s3.trans s4) hRH (s4 _ _ eR) (ut (λa b=>Aq Aw _ _ a b s4.ts) pr) ⟨ok,by
  rw[BG] at nd;exact(L7.mp nd).1⟩ l4
 refine⟨_,rfl,R,_,rfl,.inl (uj eR),_,rfl,_,_,rfl,rfl,_,rfl,?_⟩;by_cases c1:n%13<=((ys.length:Nat):Int)
 .exact iteN (vG c1) (iteF ⟨_,rfl,fin _ (um _)⟩)
 refine iteP (vE c1) ?_;refine⟨_,rfl,By _,λW hW=>?_⟩;have s4:=uw hW (.lst []);refine⟨ps,[],⟨Pa,xs,rfl,uj (s4 _ _ eP),ut (λa b=>Aq Aw _ _ a b s4.ts) pp⟩,⟨W,[],rfl,uj Ab,.nil⟩,_,rfl,?_⟩;by_cases c2:ps=[]
 .exact iteNP c2 ⟨_,rfl,fin _ s4⟩
 refine iteNN c2 ?_;have qK:=s4 _ _ eP;have kg:=s4 _ _ eR;have pp4:BN (rPair K (upd H3 W (.lst []))) ps xs:=ut (λa b=>Aq Aw _ _ a b s4.ts) pp;have pr4:BN (rPair K (upd H3 W (.lst []))) as ys:=ut (λa b=>Aq Aw _ _ a b s4.ts) pr;have dQ:=s3.trans s4;generalize upd H3 W (.lst [])=H4 at s4 qK kg pp4 pr4 dQ;have pl:0<ps.length:=IX.mpr c2;refine⟨λσ' H'=>∃m',m'<ps.length/\_,λσ' H' h=>h,?_⟩;refine⟨λσ' H'=>∃nn':Int,H4=H'/\σ'=[uA (.int m),uA (.int nn'),uA (.ref Pa),o3,uA (.int (n%13)),uA (.ref R),o6],?_,?_⟩
 .refine⟨_,rfl,rfl,_,rfl,ite2 (λ_=>?_) (λ_=>⟨nn,rfl,rfl⟩)⟩
  exact⟨_,rfl,_,rfl,R,_,rfl,.inl (uj kg),_,_,rfl,rfl,.inl ⟨by decide,by decide⟩,_,_,rfl,rfl,_,rfl,λn'=>⟨n',rfl,rfl⟩⟩
 rintro σ' H' ⟨nn,rfl,rfl⟩;have xl:(0:Int)<(xs.length:Nat):=by lia
 have j0:=EC nn (show((xs.length:Nat):Int)≠0 by lia);have j1:=DB nn xl;obtain⟨j,ej⟩:=FH j0;have jl:j<xs.length:=wm j1 ej;obtain⟨x,hx⟩:∃x,xs[j]?=uA x:=⟨_,AI jl⟩;obtain⟨p,hp,rp⟩:=Paired.get pp4 hx;obtain⟨t,rfl,ht⟩:=CG rp;obtain⟨a,b,rfl,ba,am⟩:=dn p (AT hp);refine⟨_,rfl,_,rfl,_,rfl,Pa,_,rfl,.inl (uj qK),_,_,rfl,rfl,xl,Pa,_,_,_,rfl,rfl,uj qK,by rw[ej];exact Bk hx,t,_,rfl,ht,rfl,_,_,rfl,_,_,rfl,rfl,?_⟩;refine⟨_,rfl,_,rfl,Pa,_,rfl,.inl (uj qK),_,_,rfl,rfl,⟨xl,by lia⟩,?_⟩;refine⟨_,rfl,.inl ⟨rfl,_,uj qK⟩,_,rfl,_,rfl,(by show 2<=sizeLine;decide),λt2 ht2=>?_⟩;have s5:=uw ht2 (.tup [.int (a:Int),.int (b:Int)]);have et2:(upd H4 t2 (.tup [.int (a:Int),.int (b:Int)])) t2=uA (.tup [.int (a:Int),.int (b:Int)]):=Ab;have pp5:BN (rPair K (upd H4 t2 (.tup [.int (a:Int),.int (b:Int)]))) ps xs:=ut (λa b=>Aq Aw _ _ a b s5.ts) pp4;have pr5:BN (rPair K (upd H4 t2 (.tup [.int (a:Int),.int (b:Int)]))) as ys:=ut (λa b=>Aq Aw _ _ a b s5.ts) pr4;have eP5:=s5 _ _ qK;have io:=s5 _ _ kg;have qF:=dQ.trans s5;generalize upd H4 t2 (.tup [.int (a:Int),.int (b:Int)])=H5 at s5 et2 pp5 pr5 eP5 io qF;have nps:(ps.map srt).Nodup:=by
  rw[BG] at nd;exact(L7.mp nd).2.1
 refine⟨Pa,xs,.ref t2,[(a:Int),(b:Int)],ps,j,rfl,rfl,eP5,pp5,GZ (ns:=[(a:Int),(b:Int)]) et2,hp,ADN nps hp,?_⟩;have ts6:TSm H5 (upd H5 Pa (.lst (xs.eraseIdx j))):=ur eP5;have eP6:(upd H5 Pa (.lst (xs.eraseIdx j))) Pa=uA (.lst (xs.eraseIdx j)):=Ab;have nv:(upd H5 Pa (.lst (xs.eraseIdx j))) R=uA (.lst ys):=by rw[Ah (Bi PR)];exact io
 have s6:Same H (upd H5 Pa (.lst (xs.eraseIdx j))):=qF.put hPa _;have pp6:BN (rPair K (upd H5 Pa (.lst (xs.eraseIdx j)))) (ps.eraseIdx j) (xs.eraseIdx j):=ut (λa b=>Aq Aw _ _ a b ts6) (Paired.erase pp5 j);have pr6:BN (rPair K (upd H5 Pa (.lst (xs.eraseIdx j)))) as ys:=ut (λa b=>Aq Aw _ _ a b ts6) pr5;generalize upd H5 Pa (.lst (xs.eraseIdx j))=H6 at ts6 eP6 nv s6 pp6 pr6;refine⟨_,rfl,.inl ⟨rfl,_,uj nv⟩,_,rfl,_,rfl,(by show 2<=sizeLine;decide),λt3 ht3=>?_⟩;refine⟨_,rfl,_,rfl,(by show 2<=sizeLine;decide),λt4 ht4=>?_⟩;refine⟨(by show 2<=sizeLine;decide),λL hL=>?_⟩;have s7:=(uw ht3 (.tup [.int (a:Int),.int (b:Int)])).trans ((uw ht4 (.tup [.int (b:Int),.int (a:Int)])).trans (uw hL (.lst [.ref t3,.ref t4])));have e3:(upd (upd (upd H6 t3 (.tup [.int (a:Int),.int (b:Int)])) t4 (.tup [.int (b:Int),.int (a:Int)])) L (.lst [.ref t3,.ref t4])) t3=uA (.tup [.int (a:Int),.int (b:Int)]):=(uw hL _) _ _ ((uw ht4 _) _ _ Ab);have e4:(upd (upd (upd H6 t3 (.tup [.int (a:Int),.int (b:Int)])) t4 (.tup [.int (b:Int),.int (a:Int)])) L (.lst [.ref t3,.ref t4])) t4=uA (.tup [.int (b:Int),.int (a:Int)]):=(uw hL _) _ _ Ab;have eL:(upd (upd (upd H6 t3 (.tup [.int (a:Int),.int (b:Int)])) t4 (.tup [.int (b:Int),.int (a:Int)])) L (.lst [.ref t3,.ref t4])) L=uA (.lst [.ref t3,.ref t4]):=Ab;generalize upd (upd (upd H6 t3 (.tup [.int (a:Int),.int (b:Int)])) t4 (.tup [.int (b:Int),.int (a:Int)])) L (.lst [.ref t3,.ref t4])=H7 at s7 e3 e4 eL;have v0:=EC (nn / ((xs.length:Nat):Int)) (show(2:Int)≠0 by decide);have v1:=DB (nn / ((xs.length:Nat):Int)) (show(0:Int)<2 by decide);obtain⟨x',p',t8,esr,okp,rp'⟩:∃(x':Addr) (p':uI),atI [V.ref t3,V.ref t4] (nn / ((xs.length:Nat):Int)%2)=uA (.ref x')/\srt p'=srt [(a:Int),(b:Int)]/\OkTie m p'/\rPair K H7 p' (.ref x'):=by
  generalize nn / ((xs.length:Nat):Int)%2=vv at v0 v1;obtain⟨k,rfl⟩:=FH v0
  match k,v1 with
  | 0,_=>exact⟨t3,[(a:Int),(b:Int)],Bk rfl,rfl,⟨_,_,rfl,fv,zo am,fv,zq ba am,by lia⟩,GZ (ns:=[(a:Int),(b:Int)]) e3⟩
  | 1,_=>exact⟨t4,[(b:Int),(a:Int)],Bk rfl,by rw[AEq ba,Lq ba],⟨_,_,rfl,fv,zq ba am,fv,zo am,by lia⟩,GZ (ns:=[(b:Int),(a:Int)]) e4⟩
  | k+2,h=>exact uH h (by lia)
 have eR7:=s7 _ _ nv;refine⟨_,rfl,_,_,rfl,rfl,(by show(0:Int)<2;decide),L,_,_,_,rfl,rfl,uj eL,t8,R,ys,_,rfl,rfl,eR7,Az (by lia),?_⟩;refine⟨_,rfl,_,_,rfl,rfl,⟨by decide,by decide⟩,?_⟩;have ts8:TSm H7 (upd H7 R (.lst (ys++[.ref x']))):=ur eR7;refine⟨(ps.eraseIdx j).length,?_,_,_,_,ps.eraseIdx j,as++[p'],xs.eraseIdx j,ys++[.ref x'],rfl,rfl,(s6.trans s7).put hRH _,?_,Ab,ut (λa b=>Aq Aw _ _ a b (s7.ts.trans ts8)) pp6,uo (ut (λa b=>Aq Aw _ _ a b (s7.ts.trans ts8)) pr6) (uq (Aq Aw _ _ _ _ ts8 rp')),λt ht=>dn t (List.mem_of_mem_eraseIdx ht),λt ht=>?_,AEf nd hp esr,?_,?_⟩
 .rw[Nc,uD (by lia)]
  lia
 .rw[Ah PR]
  exact s7 _ _ eP6
 .rcases Co.mp ht with ht| ht
  .exact ok t ht
  .rw[B2.mp ht]
   exact okp
 .rw[Nc]
  split<;>lia
 .rw[BF]
  show as.length+1<=12;lia
end K31
namespace K31
open PySem L2 G
def VD{x:Nat}{a b:Nat}(h:as[x]?=uA [(a:Int),(b:Int)]):(ea (as.map srt) x=a/\eb (as.map srt) x=b)\/(ea (as.map srt) x=b/\eb (as.map srt) x=a):=by
 have e:(as.map srt).getD x []=srt [(a:Int),(b:Int)]:=by
  rw[AD,AU,h];rfl
 unfold ea eb;rw[e,FQ];split
 .exact .inr ⟨rfl,rfl⟩
 .exact .inl ⟨rfl,rfl⟩
def Xq(ok:OkTies (z:Int) as){x:Nat}(h:x<as.length):∃a b:Nat,as[x]?=uA [(a:Int),(b:Int)]/\a<z/\b<z/\a≠b:=by
 obtain⟨a,b,e,a0,a1,b0,b1,n⟩:=ok.ok as[x] (FA h);refine⟨a.toNat,b.toNat,by rw[AI h,e,DH a0,DH b0],wO b0 a1 b1,vf b0 b1,by lia⟩
def Dg(ok:OkTies (z:Int) as):Apart (as.map srt):=λx hx=>by
 rw[AB] at hx;obtain⟨a,b,e,_,_,n⟩:=Xq ok hx;rcases VD e with⟨h1,h2⟩| ⟨h1,h2⟩
 .rw[h1,h2];exact n
 .rw[h1,h2];exact Bi n
def Fj(h:OkTies (z:Int) as):OkB z (as.map srt):=λt ht=>by
 obtain⟨u,hu,rfl⟩:=A7.mp ht;obtain⟨a,b,e,a0,a1,b0,b1,n⟩:=h.ok u hu;rw[e,FQ];split
 .exact⟨b.toNat,a.toNat,by rw[DH a0,DH b0],wO a0 b1 a1,vf a0 a1⟩
 .exact⟨a.toNat,b.toNat,by rw[DH a0,DH b0],vf a0 a1,wO a0 b1 a1⟩
def TlAt(K:As)(H:Hp)(l:Addr)(as:uJ):Prop:=∃xs,SqL K H l xs/\BN (rPair K H) as xs
def TlAt.same(h:TlAt K H l as)(e:Same H H'):TlAt K H' l as:=by obtain⟨xs,a,b⟩:=h;exact⟨xs,e.seq a,ut (λa b r=>Aq Aw _ _ a b e.ts r) b⟩
structure Sol(n:Nat)(A:uL->Prop)(ss:List uL):Prop where
 mem:∀s,s∈ss↔(s.Pairwise (· < ·)/\(∀x∈s,x<n)/\A s)
 ord:ss.Pairwise λs u=>num n s<num n u
def RingS(z:Nat)(as:uJ)(E:Nat×Nat)(s:uL):Prop:=acc z (idF z) (E::edg (as.map srt) s)
def ADa(K:As):Sp:=λvs H Q _=>∃(c:Int),vs=[.int c]/\∀(t l:Addr) (z:Nat) (as:uJ) (H':Hp),Same H H'->SqT K H' t [.int (z:Int),.ref l]->TlAt K H' l as->OkTies (z:Int) as->2<=z->z<=10->as.length<=12->Q (.ref t) H'
structure In(K:As)(l:Addr)(z:Nat)(as:uJ)(H:Hp):Prop where
 tl:TlAt K H l as
 ok:OkTies (z:Int) as
 z1:1<=z
 z10:z<=10
 a12:as.length<=12
def In.same(h:In K l z as H)(e:Same H H'):In K l z as H':=⟨h.tl.same e,h.ok,h.z1,h.z10,h.a12⟩
def Told(K:As)(H':Hp)(L:Addr)(ss:List uL):Prop:=∃ys,SqL K H' L ys/\BN (rPair K H') (ss.map up) ys
def Told.same{L:Addr}(h:Told K H L ss)(e:Same H H'):Told K H' L ss:=by obtain⟨xs,a,b⟩:=h;exact⟨xs,e.seq a,ut (λa b r=>Aq Aw _ _ a b e.ts r) b⟩
def JT:∀{ss:List uL}{ys:List V},BN (K31s.rTies K H) ss ys->BN (rPair K H) (ss.map up) ys:=by
 intro l m h
 induction h with
 | nil=>exact .nil
 | cons h t ih=>obtain⟨p,e,h⟩:=h;exact .cons ⟨p,_,e,uk h,paired_ints _⟩ ih
def WR{ae:List Row}{A:uL->Prop}(cn:Canon n ae hd)(ld:∀s:uL,s.Pairwise (· < ·)->(∀x∈s,x<n)->(led ae hd s=true↔A s)):Sol n A (setsOf ae hd):=by
 have I:=GQ _ _ rfl cn.least.ok _ cn.knot;refine⟨λs=>⟨λh=>?_,by rintro⟨pw,lt,h⟩;exact(I.mem s).mpr ((ld s pw lt).mpr h)⟩,I.ord⟩;obtain⟨pw,lt⟩:=I.way s h;have lt:=λx hx=>(lt x hx).2;exact⟨pw,lt,(ld s pw lt).mp ((I.mem s).mp h)⟩
def ACY{ι:Type}{k:Nat}{sp:ι->Sp}(h:∀i,FnOk P w K mg base CX k f fd ps (sp i)):FnOk P w K mg base CX k f fd ps (λvs H Q E=>∃i,sp i vs H Q E) :=
 ⟨by rintro vs H Q E ⟨i,s⟩;exact(h i).1 vs H Q E s,by rintro A outer s H args us vs Q E r e b v ⟨i,q⟩;exact(h i).2 A outer s H args us vs Q E r e b v q⟩
def Xi:FnScope ["_law_cell","_law_number"] zl29 (Ae ABb):=fscp (by decide+kernel)
def AEo(F:Fun K "_law_web" "_law_web" ABb f fd)
  (GX:Cal P w K mg base 1 fX fdX "_law_mixed" zl29 Xa)
  (GR:Cal P w K mg base 2 fR lT "_law_rows" zl30 (Yo K)) :
  FnOk P w K mg base CX0 3 f fd zl29 (ADa K):=by
 refine F.ok Xi (λvs H Q E h=>?_) (λa7 A outer s H vs Q E hr h=>?_)
 .obtain⟨c,rfl,_⟩:=h
  rfl
 obtain⟨c,rfl,q⟩:=h;have bb:Room 1 _:=hr.mono (by decide);have dm:Room 2 _:=hr.mono (by decide);refine⟨_,Ad (Ak (i:=1) Xi.nd (Ar Et (pv 0) Af))
  (Ad (Bl (Am Cp (Ar Bu (pv 0) Af) Af)
   (Ad (Ak (i:=1) Xi.nd (BL GX bb rfl (Aa (pv 0) Ac)))
   (Ag (Ao (Cr (Aa (Ar Bv Af (Ar Bu (pv 1) Af)) (Aa (BL GR dm rfl (Aa (Ar Bv Af (Ar Bu (pv 1) Af)) (Aa (Ar Et (pv 1) Af) Ac))) Ac)))))) BK)
  (Ag (Ao (Cr (Aa (Ar Bv Af (Ar Bu (pv 1) Af)) (Aa (BL GR dm rfl (Aa (Ar Bv Af (Ar Bu (pv 1) Af)) (Aa (Ar Et (pv 1) Af) Ac))) Ac)))))),?_⟩
 have fin:∀{m:Int} (m2:2<=m) (m10:m<=10) (l:Addr) (xs:List V) (as:uJ) (H':Hp),Same H H'->H' l=uA (.lst xs)->BN (rPair K H') as xs->OkTies m as->as.length<=12->∀t,H' t=none->Q (.ref t) (upd H' t (.tup [V.int m,V.ref l])):=λ{m} m2 m10 l xs as H' s' el pl ok a12 t ht=>by
  have em:((m.toNat:Nat):Int)=m:=DH (by lia);have s2:=uw ht (.tup [V.int m,V.ref l]);refine q t l m.toNat as _ (s'.trans s2) (uk (by rw[Ab,em])) (TlAt.same ⟨xs,uj el,pl⟩ s2) (by rw[em];exact ok) (by lia) (by lia) a12
 refine⟨_,rfl,_,_,rfl,rfl,⟨by decide,by decide⟩,?_⟩;refine⟨_,rfl,_,_,rfl,rfl,(by show(0:Int)<2;decide),rfl,_,rfl,ite2 (λ_=>?_) (λ_=>?_)⟩
 .refine⟨_,rfl,c,rfl,λn=>?_⟩
  have h1:=EC n (show(5:Int)≠0 by decide);have h2:=DB n (show(0:Int)<5 by decide);refine⟨_,rfl,_,_,rfl,rfl,(by show(0:Int)<5;decide),_,_,rfl,rfl,_,rfl,_,_,rfl,rfl,(by show(0:Int)<5;decide),_,_,rfl,rfl,_,rfl,_,_,rfl,rfl,⟨by decide,by decide⟩,3+n%5,n / 5,rfl,by lia,zv,λl xs as H' s' _ el pl ok a12=>⟨(by show 2<=sizeLine;decide),fin (by lia) zv l xs as H' s' el pl ok a12⟩⟩
 .have h1:=EC (c / 2) (show(9:Int)≠0 by decide)
  have h2:=DB (c / 2) (show(0:Int)<9 by decide);refine⟨_,rfl,_,_,rfl,rfl,(by show(0:Int)<9;decide),_,_,rfl,rfl,_,rfl,_,_,rfl,rfl,(by show(0:Int)<9;decide),_,_,rfl,rfl,_,rfl,_,_,rfl,rfl,⟨by decide,by decide⟩,2+c / 2%9,c / 2 / 9,rfl,by lia,zw,λl xs as H' s' _ el pl ok a12=>⟨(by show 2<=sizeLine;decide),fin (by lia) zw l xs as H' s' el pl ok a12⟩⟩
end K31
namespace K31
open PySem L2
def AFq(K:As):Sp:=λvs H Q _=>∃(l:Addr) (a b:Int) (hs:uI),vs=[.ref l,.int a,.int b]/\SqL K H l (hs.map V.int)/\hs.length<=10 /\
 ∀(D:Addr) (H':Hp),Same H H'->H D=none->H' D=uA (.lst ((asOne hs a b).map V.int))->Q (.ref D) H'
def YS(K:As):Sp:=λvs H Q _=>∃(l:Addr) (x:Int) (hs:uI),vs=[.ref l,.int x]/\SqL K H l (hs.map V.int)/\hs.length<=10 /\
 ∀(D:Addr) (H':Hp),Same H H'->H D=none->H' D=uA (.lst ((under hs.length hs x).map V.int))->Q (.ref D) H'
abbrev rRow(K:As)(H:Hp)(s:Addr)(ms:uI):Prop:=SqL K H s (ms.map V.int)\/SqT K H s (ms.map V.int)
def rRow.same{s:Addr}(h:rRow K H s ms)(e:Same H H'):rRow K H' s ms:=h.elim (λz=>.inl (e.seq z)) λz=>.inr (e.ts.seq z)
def YX(K:As)(C:Addr):Sp:=λvs H Q _=>∃(p s:Addr) (z:Int) (as:uJ) (ms:uI),vs=[.ref p,.ref s]/\WebAt K C H p z as/\rRow K H s ms/\1<=z/\z<=10/\as.length<=12/\(∀t∈as,OkTie z t) /\
 ∀(D:Addr) (hs:uI) (H':Hp),Same H H'->H D=none->H' D=uA (.lst (hs.map V.int))->Heads z.toNat (sel as ms as.length) hs->Q (.ref D) H'
def AEP(H H':Hp)(D:Addr)(ts:uJ):Prop:=∃qs:uY,H' D=uA (.lst (qs.map V.ref))/\BN (λt q=>H q=uB/\q≠D/\H' q=uA (.lst (t.map V.int))) ts qs
def Yy(K:As)(C:Addr):Sp:=λvs H Q _=>∃(p s:Addr) (z:Int) (as:uJ) (ms:uI),vs=[.ref p,.ref s]/\WebAt K C H p z as/\rRow K H s ms/\1<=z/\z<=10/\as.length<=12/\(∀t∈as,OkTie z t) /\
 ∀(D:Addr) (hs:uI) (H':Hp),Same H H'->H D=none->Heads z.toNat (sel as ms as.length) hs->AEP H H' D (Bx z.toNat hs z.toNat)->Q (.ref D) H'
def VB(K:As):Sp:=λvs H Q _=>∃(l s:Addr) (ns ms:uI),vs=[.ref l,.ref s]/\SqL K H l (ns.map V.int)/\rRow K H s ms/\ns.length<=12 /\
 ∀(D:Addr) (H':Hp),Same H H'->H D=none->H' D=uA (.lst ((ns.filter λk=>decide (k∈ms)).map V.int))->Q (.ref D) H'
noncomputable def cnts(as:uJ)(ms:uI):Nat->uI
 | 0=>[]
 | i+1=>cnts as ms i++[(((hits (i:Int) as).filter λk=>decide (k∈ms)).length:Int)]
theorem Gd(as:uJ)(ms:uI):∀i,(cnts as ms i).length=i
 | 0=>rfl
 | i+1=>by
  show(cnts as ms i++_).length=_;rw[BF,Gd as ms i];rfl
def Tg(K:As)(C:Addr):Sp:=λvs H Q _=>∃(p s:Addr) (z:Int) (as:uJ) (ms:uI),vs=[.ref p,.ref s]/\WebAt K C H p z as/\rRow K H s ms/\1<=z/\z<=10/\as.length<=12 /\
 ∀(D:Addr) (H':Hp),Same H H'->H D=none->H' D=uA (.lst ((cnts as ms z.toNat).map V.int))->Q (.ref D) H'
def int_at(h:(ns.map V.int)[i]?=uA y):∃u,ns[i]?=uA u/\y=.int u:=by
 rw[AU] at h;cases e:ns[i]? with
 | none=>rw[e] at h;cases h
 | some u=>rw[e] at h;exact⟨u,rfl,(AO h).symm⟩
def take_snoc{l:List α}{x:α}(h:l[i]?=uA x):l.take (i+1)=l.take i++[x]:=by rw[D9,h];rfl
def Dj(ms:uI):(ms.map V.int).all flatV=true:=by
 rw[EW];intro x hx;obtain⟨i,_,rfl⟩:=A7.mp hx;rfl
def AFn:FnScope ["heads","one","other","least"] zl31 (Ae AEa):=fscp (by decide+kernel)
def AGB(F:Fun K "parts_as_one" "parts_as_one" AEa f fd)(T:Txt K mg C):FnOk P w K mg base CX0 1 f fd zl31 (AFq K):=by
 refine F.ok AFn (λvs H Q E h=>?_) (λa7 A outer s H vs Q E hr h=>?_)
 .obtain⟨l,a,b,hs,rfl,_⟩:=h
  rfl
 obtain⟨l,a,b,hs,rfl,hl,h10,q⟩:=h;refine⟨_,Ad (Ak (i:=3) AFn.nd (Ax (Oz rfl) rfl T.min MO (Aa (pv 1) (Aa (pv 2) Ac))))
  (Ag (Ao (Bp (Ae AEa) ["head"] ["least","one","other"] [3,1,2] rfl rfl (by decide+kernel) ⟨⟨rfl,by decide+kernel⟩,⟨rfl,by decide+kernel⟩,⟨rfl,by decide+kernel⟩,trivial⟩ (CQ (pv 0))
   (λ_ _ _=>BJ (i:=0))
   (λ_ _ _=>Dl)
   (λ_ _ _=>Le (Am (Ey (K:=K) rfl) (pv 0) (Cr (Aa (pv 2) (Aa (pv 3) Ac))) rfl) (pv 1) (pv 0))))),?_⟩
 refine⟨_,rfl,_,rfl,a,b,rfl,?_⟩;refine⟨_,rfl,l,rfl,⟨_,hl⟩,λD hD=>?_⟩;refine Cj (xs:=hs.map V.int) (λi τ H2=>∃n:Option V,τ=[n,uA (.int (if b<a then b else a)),uA (.int a),uA (.int b)]/\Same H H2/\H2 D=uA (.lst ((asOne (hs.take i) a b).map V.int))) ⟨uB,rfl,uw hD _,Ab⟩
  (by rintro i τ H2 _ ⟨_,_,sm,_⟩;exact sm.seq hl) ?_ ?_
 .rintro i y τ H2 hy ⟨n,rfl,sm,cS⟩
  obtain⟨x,hx,rfl⟩:=int_at hy;refine yesN ?_;refine⟨_,rfl,_,rfl,_,rfl,(by show 2<=sizeLine;decide),λt1 mN=>?_⟩;refine⟨t1,[a,b].map V.int,rfl,.inr (uk Ab),rfl,rfl,_,rfl,?_⟩;rw[uC (show ¬ (false=true) by decide),CZ];have s1:Same H2 (upd H2 t1 (.tup [.int a,.int b])):=uw mN _;have js:=s1 _ _ cS;have a8:=(AG.mp hx).1;have aw:((asOne (hs.take i) a b).map V.int).length<sizeLine:=by
   unfold asOne;rw[AB,AB,B4];exact Az (zD h10)
  have qC:∀{v:V},Same H (upd (upd H2 t1 (.tup [.int a,.int b])) D (.lst ((asOne (hs.take i) a b).map V.int++[v]))):=λ{v} b o e=>by
   rw[Ah (Ai e hD)];exact s1 _ _ (sm b o e)
  have e1:∀{v:Int},(if x=a\/x=b then(if b<a then b else a) else x)=v->(asOne (hs.take (i+1)) a b).map V.int=(asOne (hs.take i) a b).map V.int++[.int v]:=λ{v} e=>by
   unfold asOne;rw[take_snoc hx,BG,BG,JU,JU,e]
  refine ite2 (λc=>?_) (λc=>?_)
  .have c':x=a\/x=b:=by simpa using uG c
   refine⟨_,rfl,_,js,aw,_,rfl,qC,?_⟩;rw[Ab,e1 (uD c')]
  .have c':¬ (x=a\/x=b):=λz=>c (uE (by simpa using z))
   refine⟨_,rfl,_,js,aw,_,rfl,qC,?_⟩;rw[Ab,e1 (uC c')]
 .rintro τ H2 ⟨n,rfl,sm,cS⟩
  rw[AB,CU] at cS;exact q D H2 sm hD cS
def AEy:FnScope zl16 zl16 (Ae Qm):=fscp (by decide+kernel)
def ABJ(F:Fun K "points_under" "points_under" Qm f fd)(T:Txt K mg C):FnOk P w K mg base CX0 1 f fd zl16 (YS K):=by
 refine F.ok AEy (λvs H Q E h=>?_) (λa7 A outer s H vs Q E hr h=>?_)
 .obtain⟨l,x,hs,rfl,_⟩:=h
  rfl
 obtain⟨l,x,hs,rfl,hl,h10,q⟩:=h;refine⟨_,Ag (Ao (Bp (Ae Qm) ["point","its_head"] ["head"] [1] rfl rfl (by decide+kernel) ⟨⟨rfl,by decide+kernel⟩,trivial⟩ (GD rfl T.enum (Aa (pv 0) Ac))
   (λ_ _ _=>Gh (K:=K) (n:=2) rfl rfl (BW (BJ (i:=0)) (BW (BJ (i:=1)) DK)))
   (λ_ _ _=>Br (Am Cp (pv 1) (pv 2)))
   (λ_ _ _=>pv 0))),?_⟩
 refine⟨_,rfl,l,rfl,⟨_,hl⟩,λD hD=>?_⟩;refine FP (xs:=hs.map V.int) (λi τ H2=>∃n t:Option V,τ=[n,t,uA (.int x)]/\Same H H2/\H2 D=uA (.lst ((under i hs x).map V.int))) ⟨uB,uB,rfl,uw hD _,Ab⟩
  (by rintro i τ H2 _ ⟨_,_,_,sm,_⟩;exact sm.seq hl) ?_ ?_
 .rintro i y τ H2 T1 hy dL ⟨n,t,rfl,sm,cS⟩
  obtain⟨u,hu,rfl⟩:=int_at hy;have s1:Same H2 (upd H2 T1 (.tup [.int i,.int u])):=uw dL _;have js:=s1 _ _ cS;have a8:=(AG.mp hu).1;have gu:gh hs (i:Int)=u:=by rw[AGu,AD,hu];rfl
  refine⟨T1,_,rfl,uk Ab,rfl,_,_,rfl,_,_,rfl,rfl,?_⟩;refine⟨_,rfl,_,rfl,rfl,_,rfl,?_⟩;by_cases c:u=x
  .refine iteP (by rw[c]) ⟨_,rfl,_,js,?_,_,_,rfl,λb o e=>?_,?_⟩
   .have:=ABp i (λp=>decide (gh hs p=x))
    unfold under;rw[AB];exact Az (by lia)
   .rw[Ah (Ai e hD)]
    exact s1 _ _ (sm b o e)
   .unfold under
    rw[Ab,PN,gu,uE c,uD rfl,BG];rfl
  .refine iteN (λe=>c (V.int.inj e)) ⟨_,_,rfl,sm.trans s1,?_⟩
   unfold under at js ⊢;rw[js,PN,gu,uF c,uC BI,Cc]
 .rintro τ H2 ⟨n,t,rfl,sm,cS⟩
  rw[AB] at cS;exact q D H2 sm hD cS
def Lx{S:Hp->List V->Prop}{g:TG}{tb:TS}{D:Ends}(Pv:Nat->St->Hp->Prop)(h0:Pv 0 σ H)(hl:∀i σ H,i<=xs.length->Pv i σ H->S H xs)
  (hs:∀i x σ H T,xs[i]?=uA x->H T=none->Pv i σ H->g (.ref T) σ (upd H T (.tup [.int i,x])) λσ2 H2=>tb {D with nx:=Pv (i+1),ct:=Pv (i+1),bk:=D.nx} σ2 H2) (hd:∀σ H,Pv xs.length σ H->D.nx σ H) :
  ∃W:Nat->Nat->St->Hp->Prop,(∃m,W 0 m σ H)/\∀i m σ H,W i m σ H ->
   ((Ien S).stop i H/\D.nx σ H)\/((Ien S).go i H/\∃N:St->Hp->Prop,(∀σ' H',N σ' H'->∃m',m'<m/\W (i+1) m' σ' H')/\∀x H',(Ien S).yld i H x H'->g x σ H' λσ2 H2=>tb {D with nx:=N,ct:=N,bk:=D.nx} σ2 H2):=by
 refine ABR xs.length Pv h0 (λi σ H hi p=>⟨xs,xs[i],hl i σ H (C1 hi) p,by simp[hi]⟩) (λσ H p=>⟨xs,hl _ σ H (AF _) p,rfl⟩) (λi σ H x H' hi p y=>?_) hd;obtain⟨T,z,rfl,hT,rfl,y⟩:=y;exact hs i z σ H T (y xs (hl i σ _ (C1 hi) p)) hT p
def JW:FnScope ["web","some","heads","number","tie"] zl18 (Ae XF):=fscp (by decide+kernel)
def ABU(F:Fun K "part_heads" "part_heads" XF f fd)(T:Txt K mg C)
  (GS:FnOk P w K mg base CX0 1 fS df zl3 (Ik K C)) (bS:Binds K df zl3 []) (mS:Meth K C "size" fS)
  (GT:FnOk P w K mg base CX0 1 fT cm zl3 (RJ K C)) (bT:Binds K cm zl3 []) (mT:Meth K C "ties" fT)
  (GO:Cal P w K mg base 1 fO tj "parts_as_one" zl31 (AFq K)) :
  FnOk P w K mg base CX0 2 f fd zl18 (YX K C):=by
 refine F.ok JW (λvs H Q E h=>?_) (λa7 A outer s H vs Q E hr h=>?_)
 .obtain⟨p,sm,z,as,ms,rfl,_⟩:=h
  rfl
 obtain⟨p,so,z,as,ms,rfl,hW,gv,z1,z10,gV,ok,q⟩:=h;refine⟨_,Ad (Ak (i:=2) JW.nd (BX (Nq rfl) rfl T.list EG (Aa (BX Fb rfl T.range JA (Aa (Bt (pv 0) T.cl mS GS hr bS .nil pass0) Ac)) Ac)))
  (Ad (Cv CY rfl (GD rfl T.enum (Aa (Bt (pv 0) T.cl mT GT hr bT .nil pass0) Ac)) (Iv rfl (BW (BP (i:=3) JW.nd) (BW (BP (i:=4) JW.nd) DK)))
   (Ag (Bl (Am Fx (pv 3) (pv 1) rfl)
    (Ag (Ak (i:=2) JW.nd (BL GO hr rfl (Aa (pv 2) (Aa (Ay Bm (pv 2) (Ay Bc (pv 4) Af)) (Aa (Ay Bm (pv 2) (Ay Bc (pv 4) Af)) Ac)))))) BK)))
  (Ag (Ao (pv 2)))),?_⟩
 obtain⟨dx,j,hP,_⟩:=id hW;refine⟨_,rfl,p,dx,_,rfl,hP,rfl,p,z,_,rfl,hW,?_⟩;refine⟨z,rfl,λr gE=>?_⟩;refine⟨r,z,rfl,Ab,by lia,by lia,λD0 hD0=>?_⟩;have s1:Same H (upd H r (.rng 0 z)):=uw gE _;have s2:=uw hD0 (.lst ((below z.toNat).map V.int));have gX:=s1.trans s2;have nD0:=s1.free hD0;generalize hH2:upd (upd H r (.rng 0 z)) D0 (.lst ((below z.toNat).map V.int))=H2 at gX ⊢;have e2:H2 D0=uA (.lst ((below z.toNat).map V.int)):=by rw[<- hH2];exact Ab
 have rF:=hW.same gX;obtain⟨sM,j2,qV,_⟩:=id rF;refine⟨_,rfl,p,sM,_,rfl,qV,rfl,p,z,_,rfl,rF,λlt H3 s3 _ r3=>?_⟩;obtain⟨lt',xs,eJ,a8,plt⟩:=r3;cases eJ;refine⟨lt,rfl,⟨_,a8⟩,?_⟩;have lx:=AY plt;refine Lx (xs:=xs) (λi σ H4=>∃(v3 v4:Option V) (D:Addr) (hs:uI),σ=[uA (.ref p),uA (.ref so),uA (.ref D),v3,v4]/\Same H3 H4/\H D=uB/\H4 D=uA (.lst (hs.map V.int))/\Heads z.toNat (sel as ms i) hs)
  ⟨uB,uB,D0,below z.toNat,rfl,um _,nD0,s3 _ _ e2,Heads.start _⟩ (by rintro i σ H4 _ ⟨_,_,_,_,_,s4,_⟩;exact s4.seq a8) ?_ ?_
 .rintro i y σ H4 T1 hy dL ⟨v3,v4,D,hs,rfl,s4,nD,eD,hh⟩
  obtain⟨tie,ht,rt⟩:=Paired.get plt hy;obtain⟨q1,rfl,kT⟩:=CG rt;obtain⟨a,b,rfl,a0,a1,b0,b1,nab⟩:=ok tie (AT ht);have s5:Same H4 (upd H4 T1 (.tup [.int i,.ref q1])):=uw dL _;have aw:=hh.len;have gi:as.getD i []=[a,b]:=by rw[AD,ht];rfl
  refine⟨T1,_,rfl,uk Ab,rfl,_,_,rfl,_,_,rfl,rfl,?_⟩;refine⟨_,rfl,_,rfl,so,ms.map V.int,rfl,(gv.same (gX.trans (s3.trans (s4.trans s5)))),rfl,Dj ms,_,rfl,?_⟩;rw[uC (show ¬ (false=true) by decide),CZ];have es:sel as ms (i+1)=sel as ms i++(if(i:Int)∈ms then [as.getD i []] else []):=rfl;by_cases c:(i:Int)∈ms
  .refine iteP c ?_
   have ke:=s5 _ _ eD;have hq5:=(s4.trans s5).ts.seq kT;have ga:atI (hs.map V.int) a=uA (.int (gh hs a)):=by
    have e:=Bk (xs:=hs.map V.int) (j:=a.toNat) (v:=.int (gh hs a)) (by rw[AU,WM a0 (zI a1 aw)];rfl)
    rwa [DH a0] at e
   have gb:atI (hs.map V.int) b=uA (.int (gh hs b)):=by
    have e:=Bk (xs:=hs.map V.int) (j:=b.toNat) (v:=.int (gh hs b)) (by rw[AU,WM b0 (zI b1 aw)];rfl)
    rwa [DH b0] at e
   refine⟨_,rfl,_,rfl,_,rfl,q1,_,_,_,rfl,rfl,hq5,at0,D,_,_,_,rfl,rfl,uj ke,ga,?_⟩;refine⟨_,rfl,_,rfl,q1,_,_,_,rfl,rfl,hq5,at1,D,_,_,_,rfl,rfl,uj ke,gb,?_⟩;refine⟨D,gh hs a,gh hs b,hs,rfl,uj ke,zA aw z10,λD6 H6 s6 n6 e6=>?_⟩;refine⟨_,_,D6,_,rfl,s4.trans (s5.trans s6),(gX.trans (s3.trans (s4.trans s5))).free n6,e6,?_⟩;rw[es,uD c,gi];refine hh.join a0 (zJ a1) b0 (zJ b1) λe he x hx=>?_;obtain⟨i',_,_,rfl⟩:=Gk.mp he;rw[AD] at hx;cases e':as[i']? with
   | none=>rw[e'] at hx;cases hx
   | some t =>
    rw[e'] at hx;obtain⟨u,v,rfl,u0,u1,v0,v1,_⟩:=ok t (AT e');have iO:x=u\/x=v:=by simpa using hx
    rcases iO with rfl| rfl<;>lia
  .refine iteN c ?_
   refine⟨_,_,D,hs,rfl,s4.trans s5,nD,s5 _ _ eD,?_⟩;rw[es,uC c,Cc];exact hh
 .rintro σ H4 ⟨v3,v4,D,hs,rfl,s4,nD,eD,hh⟩
  rw[<- lx] at hh;exact⟨_,rfl,q D hs H4 (gX.trans (s3.trans s4)) nD eD hh⟩
def Xm:FnScope ["web","some","heads"] zl18 (Ae Rf):=fscp (by decide+kernel)
def ACr(F:Fun K "web_parts" "web_parts" Rf f fd)(T:Txt K mg C)
  (GS:FnOk P w K mg base CX0 1 fS df zl3 (Ik K C)) (bS:Binds K df zl3 []) (mS:Meth K C "size" fS)
  (GH:Cal P w K mg base 2 fH sQ "part_heads" zl18 (YX K C))
  (GU:Cal P w K mg base 1 fU qi "points_under" zl16 (YS K)) :
  FnOk P w K mg base CX0 3 f fd zl18 (Yy K C):=by
 refine F.ok Xm (λvs H Q E h=>?_) (λa7 A outer s H vs Q E hr h=>?_)
 .obtain⟨p,sm,z,as,ms,rfl,_⟩:=h
  rfl
 obtain⟨p,so,z,as,ms,rfl,hW,gv,z1,z10,gV,ok,q⟩:=h;have bb:Room 1 _:=hr.mono (by decide);refine⟨_,Ad (Ak (i:=2) Xm.nd (BL GH hr rfl (Aa (pv 0) (Aa (pv 1) Ac))))
  (Ag (Ao (Bp (Ae Rf) ["head"] ["heads"] [2] rfl rfl (by decide+kernel) ⟨⟨rfl,by decide+kernel⟩,trivial⟩ (Cq rfl T.range (Aa (Bt (pv 0) T.cl mS GS bb bS .nil pass0) Ac))
   (λ_ _ _=>BJ (i:=0))
   (λ_ _ _=>Br (Am Cp (Ay (Ly (K:=K) rfl) (pv 1) (pv 0)) (pv 0)))
   (λ_ _ _=>BL GU bb rfl (Aa (pv 1) (Aa (pv 0) Ac)))))),?_⟩
 refine⟨_,rfl,_,rfl,p,so,z,as,ms,rfl,hW,gv,z1,z10,gV,ok,λDh hs H1 s1 nDh eDh hh=>?_⟩;have aw:=hh.len;have rN:=hW.same s1;obtain⟨dx,j,hP,_⟩:=id rN;refine⟨_,rfl,p,dx,_,rfl,hP,rfl,p,z,_,rfl,rN,?_⟩;refine⟨z,rfl,by lia,by lia,λD hD=>?_⟩;refine Cg (lo:=0) (n:=z.toNat) (λi τ H2=>∃(n:Option V) (qs:uY),τ=[n,uA (.ref Dh)]/\Same H1 H2/\H2 D=uA (.lst (qs.map V.ref))/\qs.length<=i/\BN (λt q=>H q=uB/\q≠D/\H2 q=uA (.lst (t.map V.int))) (Bx z.toNat hs i) qs)
  ⟨uB,[],rfl,uw hD _,Ab,AF _,.nil⟩ ?_ ?_
 .rintro i τ H2 hi ⟨n,qs,rfl,s2,e2,hq,pq⟩
  have ei:(0:Int)+(i:Int)=(i:Int):=vc;rw[ei];have kU:=s2 _ _ eDh;have gi:atI (hs.map V.int) (i:Int)=uA (.int (gh hs i)):=Bk (by rw[AU];have:=WM (h:=hs) (p:=(i:Int)) fv (by lia);rw[Cn] at this;rw[this];rfl);refine⟨_,rfl,_,rfl,Dh,_,_,_,rfl,rfl,uj kU,gi,_,rfl,rfl,_,rfl,?_⟩;have es:Bx z.toNat hs (i+1)=Bx z.toNat hs i++(if gh hs (i:Int)=(i:Int) then [under z.toNat hs (i:Int)] else []):=rfl;by_cases c:gh hs (i:Int)=(i:Int)
  .refine iteP (by rw[c]) ?_
   refine⟨_,rfl,_,rfl,Dh,(i:Int),hs,rfl,uj kU,zA aw z10,λD3 H3 s3 n3 e3=>?_⟩;rw[aw] at e3;have nD3:D3≠D:=λe=>by rw[e,e2] at n3;cases n3
   refine⟨_,s3 _ _ e2,by rw[AB];exact Az (by lia),_,qs++[D3],rfl,(s2.trans s3).put hD _,?_,by simp;exact hq,?_⟩
   .rw[Ab,BG]
    rfl
   .rw[es,uD c]
    refine uo (ut (λt q h=>⟨h.1,h.2.1,by rw[Ah h.2.1];exact s3 _ _ h.2.2⟩) pq) (uq ⟨(s1.trans s2).free n3,nD3,?_⟩);rw[Ah nD3];exact e3
  .refine iteN (λe=>c (V.int.inj e)) ⟨_,qs,rfl,s2,e2,u4 hq,?_⟩
   rw[es,uC c,Cc];exact pq
 .rintro τ H2 ⟨n,qs,rfl,s2,e2,hq,pq⟩
  exact q D hs H2 (s1.trans s2) (s1.free hD) hh ⟨qs,e2,pq⟩
def ACS:FnScope zl17 zl17 (Ae Ks):=fscp (by decide+kernel)
def ZJ(F:Fun K "ties_within" "ties_within" Ks f fd):FnOk P w K mg base CX0 1 f fd zl17 (VB K):=by
 refine F.ok ACS (λvs H Q E h=>?_) (λa7 A outer s H vs Q E hr h=>?_)
 .obtain⟨l,so,ns,ms,rfl,_⟩:=h
  rfl
 obtain⟨l,so,ns,ms,rfl,hl,gv,gV,q⟩:=h;refine⟨_,Ag (Ao (Bp (Ae Ks) ["number"] ["some"] [1] rfl rfl (by decide+kernel) ⟨⟨rfl,by decide+kernel⟩,trivial⟩ (CQ (pv 0))
   (λ_ _ _=>BJ (i:=0))
   (λ_ _ _=>Br (Am (Ey (K:=K) rfl) (pv 0) (pv 1) rfl))
   (λ_ _ _=>pv 0))),?_⟩
 refine⟨_,rfl,l,rfl,⟨_,hl⟩,λD hD=>?_⟩;refine Cj (xs:=ns.map V.int) (λi τ H2=>∃n:Option V,τ=[n,uA (.ref so)]/\Same H H2/\H2 D=uA (.lst (((ns.take i).filter λk=>decide (k∈ms)).map V.int))) ⟨uB,rfl,uw hD _,Ab⟩
  (by rintro i τ H2 _ ⟨_,_,sm,_⟩;exact sm.seq hl) ?_ ?_
 .rintro i y τ H2 hy ⟨n,rfl,sm,cS⟩
  obtain⟨u,hu,rfl⟩:=int_at hy;refine⟨_,rfl,_,rfl,so,ms.map V.int,rfl,gv.same sm,rfl,Dj ms,_,rfl,?_⟩;rw[uC (show ¬ (false=true) by decide),CZ];have ef:(ns.take (i+1)).filter (λk=>decide (k∈ms))=(ns.take i).filter (λk=>decide (k∈ms))++(if u∈ms then [u] else []):=by
   rw[take_snoc hu,CM];by_cases c:u∈ms<;>simp[c]
  by_cases c:u∈ms
  .refine iteP c ⟨_,rfl,_,cS,?_,_,rfl,λb o e=>?_,?_⟩
   .have:=CS (λk=>decide (k∈ms)) (ns.take i)
    rw[B4] at this;rw[AB];exact Az (x9 this gV)
   .rw[Ah (Ai e hD)]
    exact sm b o e
   .rw[Ab,ef,uD c,BG]
    rfl
  .refine iteN c ⟨_,rfl,sm,?_⟩
   rw[cS,ef,uC c,Cc]
 .rintro τ H2 ⟨n,rfl,sm,cS⟩
  rw[AB,CU] at cS;exact q D H2 sm hD cS
def ABz:FnScope zl18 zl18 (Ae Ka):=fscp (by decide+kernel)
def ZD(F:Fun K "tie_counts" "tie_counts" Ka f fd)(T:Txt K mg C)
  (GS:FnOk P w K mg base CX0 1 fS df zl3 (Ik K C)) (bS:Binds K df zl3 []) (mS:Meth K C "size" fS)
  (GA:FnOk P w K mg base CX0 1 fA e7 zl4 (AHG K C)) (bA:Binds K e7 zl4 []) (mA:Meth K C "at" fA)
  (GW:Cal P w K mg base 1 fW fdW "ties_within" zl17 (VB K)) :
  FnOk P w K mg base CX0 2 f fd zl18 (Tg K C):=by
 refine F.ok ABz (λvs H Q E h=>?_) (λa7 A outer s H vs Q E hr h=>?_)
 .obtain⟨p,sm,z,as,ms,rfl,_⟩:=h
  rfl
 obtain⟨p,so,z,as,ms,rfl,hW,gv,z1,z10,gV,q⟩:=h;refine⟨_,Ag (Ao (Bp (Ae Ka) ["point"] ["web","some"] [0,1] rfl rfl (by decide+kernel) ⟨⟨rfl,by decide+kernel⟩,⟨rfl,by decide+kernel⟩,trivial⟩ (Cq rfl T.range (Aa (Bt (pv 0) T.cl mS GS hr bS .nil pass0) Ac))
   (λ_ _ _=>BJ (i:=0))
   (λ_ _ _=>Dl)
   (λ_ _ _=>Ax (Ii (K:=K) rfl) rfl T.len CI (Aa (BL GW hr rfl (Aa (Bq (pv 1) T.cl mA GA hr bA .nil pass0 (Aa (pv 0) Ac)) (Aa (pv 2) Ac))) Ac)))),?_⟩
 obtain⟨dx,j,hP,_⟩:=id hW;refine⟨_,rfl,p,dx,_,rfl,hP,rfl,p,z,_,rfl,hW,?_⟩;refine⟨z,rfl,by lia,by lia,λD hD=>?_⟩;refine Cg (lo:=0) (n:=z.toNat) (λi τ H2=>∃(n:Option V),τ=[n,uA (.ref p),uA (.ref so)]/\Same H H2/\H2 D=uA (.lst ((cnts as ms i).map V.int))) ⟨uB,rfl,uw hD _,Ab⟩ ?_ ?_
 .rintro i τ H2 hi ⟨n,rfl,s2,e2⟩
  have ei:(0:Int)+(i:Int)=(i:Int):=vc;rw[ei];refine yesN ?_;have rF:=hW.same s2;obtain⟨sM,j2,qV,_⟩:=id rF;refine⟨_,rfl,p,sM,_,rfl,qV,rfl,_,rfl,p,z,_,as,rfl,rF,gV,λl3 H3 s3 n3 e3=>?_⟩;have hl:=Je (i:Int) 0 as;refine⟨_,rfl,l3,so,hits (i:Int) as,ms,rfl,uj e3,gv.same (s2.trans s3),BV hl gV,λD4 H4 s4 n4 e4=>?_⟩;refine⟨D4,_,rfl,.inl (uj e4),_,s4 _ _ (s3 _ _ e2),?_,_,rfl,((s2.trans s3).trans s4).put hD _,?_⟩
  .rw[AB,Gd]
   exact Az (by lia)
  .rw[Ab,AB]
   show _=uA (HO.lst ((cnts as ms i++[(((hits (i:Int) as).filter λk=>decide (k∈ms)).length:Int)]).map V.int));rw[BG];rfl
 .rintro τ H2 ⟨n,rfl,s2,e2⟩
  exact q D H2 s2 hD e2
end K31
namespace G
noncomputable def degE(E:List (Nat×Nat))(p:Nat):Nat:=(E.filter λe=>decide (e.1=p\/e.2=p)).length
def Ew(e:Nat×Nat)(E:List (Nat×Nat))(p:Nat):degE (e::E) p=(if e.1=p\/e.2=p then 1 else 0)+degE E p:=by
 unfold degE;rw[EF];by_cases c:e.1=p\/e.2=p
 .rw[uD (uE c),uD c,DS];exact xV
 .rw[uC (by simpa using c),uC c];lia
def AAa{E:List (Nat×Nat)}(h:E.Perm E')(p:Nat):degE E p=degE E' p:=(h.filter _).length_eq
def DegOk(f:Fs)(E:List (Nat×Nat))(p:Nat):Prop:=(f p=none->degE E p=0)/\(f p=uA p->degE E p=0\/degE E p=2)/\∀q,f p=uA q->q≠p->degE E p=1
theorem Qi{z:Nat}:∀{E:List (Nat×Nat)}{f:Fs},SymF f->(∀e∈E,e.1≠e.2)->acc z f E->∀p,p<z->DegOk f E p
 | [],_,_,_,h,_,_=>h.elim
 | e::E,f,h,ne,⟨i,j,ha,hb,hh⟩,p,pz=>by
  have nx:=ne e (AJ ..);have h1:=h _ _ ha;have h2:=h _ _ hb;unfold DegOk;rw[Ew];rcases hh with⟨e1,e2,hs⟩| ⟨n1,ac⟩
  .have d0:degE E p=0:=by rw[e2];rfl
   have st:=hs p pz;unfold stayF at st;rw[d0];refine⟨λhn=>?_,λhp=>?_,λq hq nq=>?_⟩
   .rw[uC]
    rintro(c| c)
    .rw[<- c,ha] at hn;cases hn
    .rw[<- c,hb] at hn;cases hn
   .left
    rw[uC];rintro(c| c)
    .rw[<- c,ha] at hp
     exact nx ((AO hp).symm.trans e1)
    .rw[<- c,hb] at hp
     have:j=e.2:=AO hp;rw[e1,hb,this] at h1;exact nx (AO h1).symm
   .rw[uD]
    apply CD;intro c;rcases st (λe=>c (.inl e.symm)) (λe=>c (.inr e.symm)) with s| s
    .rw[hq] at s;cases s
    .rw[hq] at s;exact nq (AO s)
  .obtain⟨d1,d2,d3⟩:=Qi (h.tie ha hb nx n1) (λx hx=>ne x (AK _ hx)) ac p pz
   have ji:j≠e.1:=λc=>n1 (by rw[c,ha] at h2;exact AO h2);have ij:i≠j:=λc=>nx (by rw[c,h2] at h1;exact(AO h1).symm);have ex:tieF f e.1 e.2 i j p=if p=j then uA i else if p=i then uA j else if p=e.1\/p=e.2 then uB else f p:=rfl
   have h3:=d3 i;have h4:=d3 j;unfold tieF at d1 d2 d3 h3 h4;refine⟨λhn=>?_,λhp=>?_,λq hq nq=>?_⟩<;>grind
theorem Ra{z h0:Nat}:∀{E:List (Nat×Nat)}{f g:Fs},SymF f->SymF g->(∀e∈E,e.1≠h0/\e.2≠h0/\e.1≠e.2)->(∀x,x≠h0->f x=g x)->stayF f h0->stayF g h0->acc z f E->acc z g E
 | [],_,_,_,_,_,_,_,_,h=>h.elim
 | e::E,f,g,sf,sg,ne,eq,tf,tg,⟨i,j,ha,hb,hh⟩=>by
  obtain⟨n1,n2,n3⟩:=ne e (AJ ..);have h1:=sf _ _ ha;have h2:=sf _ _ hb;have ga:g e.1=uA i:=by rw[<- eq _ n1];exact ha
  have gb:g e.2=uA j:=by rw[<- eq _ n2];exact hb
  have ih:i≠h0:=λc=>by
   rw[c] at h1;rcases tf with t| t
   .rw[h1] at t;cases t
   .rw[h1] at t;exact n1 (AO t)
  have jh:j≠h0:=λc=>by
   rw[c] at h2;rcases tf with t| t
   .rw[h2] at t;cases t
   .rw[h2] at t;exact n2 (AO t)
  refine⟨i,j,ga,gb,?_⟩;rcases hh with⟨e1,e2,hs⟩| ⟨m1,ac⟩
  .refine .inl ⟨e1,e2,λp pz pa pb=>?_⟩
   by_cases c:p=h0
   .rw[c];exact tg
   .have:=hs p pz pa pb
    unfold stayF at this ⊢;rw[<- eq p c];exact this
  .refine .inr ⟨m1,Ra (sf.tie ha hb n3 m1) (sg.tie ga gb n3 m1) (λx hx=>ne x (AK _ hx)) (λx hx=>?_) ?_ ?_ ac⟩
   .unfold tieF
    rw[eq x hx]
   .unfold stayF tieF
    rw[uC (Bi jh),uC (Bi ih),uC (λc=>c.elim (λc=>n1 c.symm) (λc=>n2 c.symm))];exact tf
   .unfold stayF tieF
    rw[uC (Bi jh),uC (Bi ih),uC (λc=>c.elim (λc=>n1 c.symm) (λc=>n2 c.symm))];exact tg
def idZ(z:Nat):Fs:=λp=>if p<z then uA p else uB
def Cd{p:Nat}(h:p<z):idZ z p=uA p:=uD h
set_option tactic.hygienic true in
theorem ABH{p q:Nat}(h:idZ z p=uA q):p<z/\q=p:=by
 unfold idZ at h;split at h
 .rename_i c
  exact⟨c,(AO h).symm⟩
 .cases h
def idZ_sym(z:Nat):SymF (idZ z):=λx y h=>by
 obtain⟨h1,h2⟩:=ABH h;rw[h2];exact Cd h1
def Fl(z:Nat):RngF z (idZ z):=λx y h=>(ABH h).1
def Hu{f:Fs}{a b:Nat}(ha:f a=uA i)(hb:f b=uA j)(ib:i≠b){E:List (Nat×Nat)}:acc z f ((a,b)::E)↔acc z (tieF f a b i j) E:=by
 constructor
 .rintro⟨i',j',h1,h2,⟨e,_⟩| ⟨_,h⟩⟩
  .cases ha.symm.trans h1
   exact uH e ib
  .cases ha.symm.trans h1
   cases hb.symm.trans h2;exact h
 .exact λh=>⟨i,j,ha,hb,.inr ⟨ib,h⟩⟩
section
variable{h e x:Nat}
def Tq(hz:h<z)(ez:e<z)(he:h≠e){E:List (Nat×Nat)}:acc z (idZ z) ((h,e)::(h,e)::E)↔E=[]:=by
 rw[Hu (Cd hz) (Cd ez) he];have f1:tieF (idZ z) h e h e h=uA e:=by unfold tieF;rw[uC he,uD rfl]
 have f2:tieF (idZ z) h e h e e=uA h:=by unfold tieF;rw[uD rfl]
 constructor
 .rintro⟨i,j,h1,h2,⟨_,e2,_⟩| ⟨n,_⟩⟩
  .exact e2
  .cases f1.symm.trans h1
   exact uH rfl n
 .intro e2
  refine⟨e,h,f1,f2,.inl ⟨rfl,e2,λp pz pa pb=>?_⟩⟩;unfold stayF tieF;rw[uC pb,uC pa,uC (λc=>c.elim pa pb),Cd pz];exact .inr rfl
def acc_step(hz:h<z)(ez:e<z)(xz:x<z)(he:h≠e)(hx:h≠x)(xe:x≠e){E:List (Nat×Nat)}(nr:∀r∈E,r.1≠h/\r.2≠h/\r.1≠r.2):acc z (idZ z) ((h,e)::(h,x)::E)↔acc z (idZ z) ((x,e)::E):=by
 rw[Hu (Cd hz) (Cd ez) he,Hu (Cd xz) (Cd ez) xe];have f1:tieF (idZ z) h e h e h=uA e:=by unfold tieF;rw[uC he,uD rfl]
 have f2:tieF (idZ z) h e h e x=uA x:=by unfold tieF;rw[uC xe,uC (Bi hx),uC (λc=>c.elim (Bi hx) xe),Cd xz]
 rw[Hu f1 f2 (Bi xe)];have s1:=(idZ_sym z).tie (Cd hz) (Cd ez) he he;have s2:=s1.tie f1 f2 hx (Bi xe);have s3:=(idZ_sym z).tie (Cd xz) (Cd ez) xe xe;have eq:∀p,p≠h->tieF (tieF (idZ z) h e h e) h x e x p=tieF (idZ z) x e x e p:=λp ph=>by
  unfold tieF
  grind
 have t1:stayF (tieF (tieF (idZ z) h e h e) h x e x) h:=by
  left;unfold tieF;rw[uC hx,uC he,uD (.inl rfl)]
 have t2:stayF (tieF (idZ z) x e x e) h:=by
  right;unfold tieF;rw[uC he,uC hx,uC (λc=>c.elim hx he),Cd hz]
 exact⟨Ra s2 s3 nr eq t1 t2,Ra s3 s2 nr (λp ph=>(eq p ph).symm) t2 t1⟩
end
noncomputable def wlk(ea eb:Nat->Nat)(e:Nat):Nat->Nat->uL->Bool
 | 0,h,left=>decide (h=e)&&decide (left=[])
 | n+1,h,left=>match left.filter λk=>decide (ea k=h\/eb k=h) with
  | [k]=>if h=e then false else wlk ea eb e n (ea k+eb k-h) (left.erase k)
  | _=>false
theorem Uh{z:Nat}{ea eb:Nat->Nat}{e:Nat}(ez:e<z):∀(n h:Nat) (left:uL),left.length=n->left.Nodup->(∀k∈left,ea k<z/\eb k<z/\ea k≠eb k)->h<z->(h≠e->(wlk ea eb e n h left=true↔acc z (idZ z) ((h,e)::left.map λk=>(ea k,eb k))))/\(h=e->(wlk ea eb e n h left=true↔left=[]))
 | 0,h,left,ln,nd,ok,hz=>by
  have l0:left=[]:=CO.mp ln;subst l0;refine⟨λhe=>⟨λw=>?_,λa=>?_⟩,λhe=>⟨λ_=>rfl,λ_=>by unfold wlk;rw[uE he];rfl⟩⟩
  .unfold wlk at w
   rw[uF he] at w;cases w
  .exact((Hu (Cd hz) (Cd ez) he).mp a).elim
 | n+1,h,left,ln,nd,ok,hz=>by
  have lne:left≠[]:=λc=>by rw[c] at ln;cases ln
  constructor
  .intro he
   have ed:∀r∈(h,e)::left.map (λk=>(ea k,eb k)),r.1≠r.2:=λr hr=>by
    rcases AW.mp hr with rfl| hr
    .exact he
    .obtain⟨k,hk,rfl⟩:=A7.mp hr
     exact(ok k hk).2.2
   have cnt:(left.filter λk=>decide (ea k=h\/eb k=h)).length=degE (left.map λk=>(ea k,eb k)) h:=by
    unfold degE;rw[K7,AB];rfl
   have one:acc z (idZ z) ((h,e)::left.map λk=>(ea k,eb k))->(left.filter λk=>decide (ea k=h\/eb k=h)).length=1:=λa=>by
    obtain⟨_,d2,_⟩:=Qi (idZ_sym z) ed a h hz;have:=d2 (Cd hz);rw[Ew,uD (.inl rfl)] at this;lia
   unfold wlk;cases es:left.filter λk=>decide (ea k=h\/eb k=h) with
   | nil =>
    rw[es] at one;exact⟨λw=>(by cases w),λa=>(by have:=one a;cases this)⟩
   | cons k ks =>
    cases ks with
    | cons k2 ks =>
     rw[es] at one;exact⟨λw=>(by cases w),λa=>(by have:=one a;simp at this)⟩
    | nil =>
     show(if h=e then false else wlk ea eb e n (ea k+eb k-h) (left.erase k))=true↔_;rw[uC he];have hm:k∈left.filter λk=>decide (ea k=h\/eb k=h):=by rw[es];exact AJ ..
     obtain⟨kl,kh⟩:=BO.mp hm;have kh:=uG kh;obtain⟨az,bz,ab⟩:=ok k kl;have pm:(left.map λk=>(ea k,eb k)).Perm ((ea k,eb k)::(left.erase k).map λk=>(ea k,eb k)):=(KP kl).map _;have ar:∀u∈left.erase k,ea u≠h/\eb u≠h:=λu hu=>by
      have ul:=Ff hu;have un:u≠k:=λc=>by rw[c] at hu;exact(List.Nodup.not_mem_erase nd) hu
      constructor
      .intro c
       have:u∈left.filter λk=>decide (ea k=h\/eb k=h):=BO.mpr ⟨ul,uE (.inl c)⟩;rw[es] at this;exact un (B2.mp this)
      .intro c
       have:u∈left.filter λk=>decide (ea k=h\/eb k=h):=BO.mpr ⟨ul,uE (.inr c)⟩;rw[es] at this;exact un (B2.mp this)
     have le:(left.erase k).length=n:=by rw[EM kl,ln];rfl
     have rL:∀u∈left.erase k,ea u<z/\eb u<z/\ea u≠eb u:=λu hu=>ok u (Ff hu);have main:∀x,x<z->x≠h->((ea k,eb k)=(h,x)\/(ea k,eb k)=(x,h))->(wlk ea eb e n x (left.erase k)=true↔acc z (idZ z) ((h,e)::left.map λk=>(ea k,eb k))):=λx xz xh hk=>by
      have ih:=Uh ez n x (left.erase k) le (nd.erase k) rL xz;have p1:((h,e)::left.map λk=>(ea k,eb k)).Perm ((ea k,eb k)::(h,e)::(left.erase k).map λk=>(ea k,eb k)):=(pm.cons _).trans (LP ..);have fl:acc z (idZ z) ((ea k,eb k)::(h,e)::(left.erase k).map λk=>(ea k,eb k))↔acc z (idZ z) ((h,x)::(h,e)::(left.erase k).map λk=>(ea k,eb k)):=by
       rcases hk with c| c
       .rw[c]
       .rw[c]
        exact⟨GJ (idZ_sym z) xh,GJ (idZ_sym z) (Bi xh)⟩
      have ed1:∀r∈(ea k,eb k)::(h,e)::(left.erase k).map (λk=>(ea k,eb k)),r.1≠r.2:=λr hr=>ed r (p1.mem_iff.mpr hr);have tot:acc z (idZ z) ((h,e)::left.map λk=>(ea k,eb k))↔acc z (idZ z) ((h,e)::(h,x)::(left.erase k).map λk=>(ea k,eb k)):=by
       refine(Iff.intro (JK p1 (idZ_sym z) (Fl z) ed) (JK p1.symm (idZ_sym z) (Fl z) ed1)).trans (fl.trans ?_);exact⟨acc_swap (idZ_sym z) (Fl z) (Bi xh) he,acc_swap (idZ_sym z) (Fl z) he (Bi xh)⟩
      rw[tot];by_cases xe:x=e
      .subst xe
       rw[ih.2 rfl,Tq hz xz (Bi xh)];exact⟨λc=>by rw[c];rfl,λc=>HH.mp c⟩
      .rw[ih.1 xe]
       exact(acc_step hz ez xz he (Bi xh) xe λr hr=>by
        obtain⟨u,hu,rfl⟩:=A7.mp hr;exact⟨(ar u hu).1,(ar u hu).2,(rL u hu).2.2⟩).symm
     rcases kh with c| c
     .have ex:ea k+eb k-h=eb k:=by lia
      rw[ex];exact main (eb k) bz (λd=>ab (c.trans d.symm)) (.inl (by rw[c]))
     .have ex:ea k+eb k-h=ea k:=by lia
      rw[ex];exact main (ea k) az (λd=>ab (d.trans c.symm)) (.inr (by rw[c]))
  .intro he
   refine⟨λw=>?_,λc=>uH c lne⟩;unfold wlk at w;split at w
   .rw[uD he] at w
    cases w
   .cases w
section
variable{ea eb:Nat->Nat}
abbrev edl(ea eb:Nat->Nat)(s:uL):List (Nat×Nat):=s.map λk=>(ea k,eb k)
def ConT(ea eb:Nat->Nat)(h:Nat)(s:uL):Prop:=∀S:Nat->Prop,S h->(∀k∈s,(S (ea k)↔S (eb k)))->∀k∈s,S (ea k)
structure WayD(z:Nat)(ea eb:Nat->Nat)(h e:Nat)(s:uL):Prop where
 dh:degE (edl ea eb s) h=1
 de:degE (edl ea eb s) e=1
 other:∀p,p<z->p≠h->p≠e->degE (edl ea eb s) p=0\/degE (edl ea eb s) p=2
def ZC{p:Nat}{s:uL}(h:degE (edl ea eb s) p≠0):∃k∈s,ea k=p\/eb k=p:=by
 unfold degE at h;obtain⟨r,hr⟩:=List.exists_mem_of_length_pos (Nat.pos_of_ne_zero h);obtain⟨h1,h2⟩:=BO.mp hr;obtain⟨k,hk,rfl⟩:=A7.mp h1;exact⟨k,hk,uG h2⟩
def Tv{p:Nat}{s:uL}(h:degE (edl ea eb s) p=0):∀k∈s,ea k≠p/\eb k≠p:=λk hk=>by
 unfold degE at h;have z:=CO.mp h;have nm:(ea k,eb k)∉(edl ea eb s).filter λe=>decide (e.1=p\/e.2=p):=by rw[z];exact Da
 have hm:(ea k,eb k)∈edl ea eb s:=A7.mpr ⟨k,hk,rfl⟩;exact⟨λc=>nm (BO.mpr ⟨hm,uE (.inl c)⟩),λc=>nm (BO.mpr ⟨hm,uE (.inr c)⟩)⟩
def Zf{s:uL}{k:Nat}(hk:k∈s)(p:Nat):degE (edl ea eb s) p=(if ea k=p\/eb k=p then 1 else 0)+degE (edl ea eb (s.erase k)) p:=by
 rw[AAa ((KP hk).map (λk=>(ea k,eb k))) p];exact Ew ..
def AAH{h e k x:Nat}{s:uL}(hz:h<z)(ez:e<z)(he:h≠e)(ok:∀k∈s,ea k<z/\eb k<z/\ea k≠eb k)(hk:k∈s)(xh:x≠h)(ek:(ea k,eb k)=(h,x)\/(ea k,eb k)=(x,h)):acc z (idZ z) ((h,e)::edl ea eb s)↔acc z (idZ z) ((h,e)::(h,x)::edl ea eb (s.erase k)):=by
 have pm:(edl ea eb s).Perm ((ea k,eb k)::edl ea eb (s.erase k)):=(KP hk).map _;have ed:∀r∈(h,e)::edl ea eb s,r.1≠r.2:=λr hr=>by
  rcases AW.mp hr with rfl| hr
  .exact he
  .obtain⟨k,hk,rfl⟩:=A7.mp hr
   exact(ok k hk).2.2
 have p1:((h,e)::edl ea eb s).Perm ((ea k,eb k)::(h,e)::edl ea eb (s.erase k)):=(pm.cons _).trans (LP ..);have fl:acc z (idZ z) ((ea k,eb k)::(h,e)::edl ea eb (s.erase k))↔acc z (idZ z) ((h,x)::(h,e)::edl ea eb (s.erase k)):=by
  rcases ek with c| c
  .rw[c]
  .rw[c]
   exact⟨GJ (idZ_sym z) xh,GJ (idZ_sym z) (Bi xh)⟩
 have ed1:∀r∈(ea k,eb k)::(h,e)::edl ea eb (s.erase k),r.1≠r.2:=λr hr=>ed r (p1.mem_iff.mpr hr);refine(Iff.intro (JK p1 (idZ_sym z) (Fl z) ed) (JK p1.symm (idZ_sym z) (Fl z) ed1)).trans (fl.trans ?_);exact⟨acc_swap (idZ_sym z) (Fl z) (Bi xh) he,acc_swap (idZ_sym z) (Fl z) he (Bi xh)⟩
theorem Yn{e:Nat}(ez:e<z):∀(n h:Nat) (s:uL),s.length=n->s.Nodup->(∀k∈s,ea k<z/\eb k<z/\ea k≠eb k)->h<z->h≠e->(acc z (idZ z) ((h,e)::edl ea eb s)↔WayD z ea eb h e s/\ConT ea eb h s)
 | 0,h,s,ln,nd,ok,hz,he=>by
  have l0:s=[]:=CO.mp ln;subst l0;exact⟨λa=>((Hu (Cd hz) (Cd ez) he).mp a).elim,λ⟨w,_⟩=>by have:=w.dh;cases this⟩
 | n+1,h,s,ln,nd,ok,hz,he=>by
  have ed:∀r∈(h,e)::edl ea eb s,r.1≠r.2:=λr hr=>by
   rcases AW.mp hr with rfl| hr
   .exact he
   .obtain⟨k,hk,rfl⟩:=A7.mp hr
    exact(ok k hk).2.2
  have deg:acc z (idZ z) ((h,e)::edl ea eb s)->WayD z ea eb h e s:=λa=>by
   have d:∀p,p<z->degE ((h,e)::edl ea eb s) p=0\/degE ((h,e)::edl ea eb s) p=2:=λp pz=>(Qi (idZ_sym z) ed a p pz).2.1 (Cd pz);refine⟨?_,?_,λp pz ph pe=>?_⟩
   .have:=d h hz;rw[Ew,uD (.inl rfl)] at this;exact zE this
   .have:=d e ez;rw[Ew,uD (.inr rfl)] at this;exact zE this
   .have:=d p pz;rw[Ew,uC (λc=>c.elim (λc=>ph c.symm) (λc=>pe c.symm))] at this;lia
  have main:WayD z ea eb h e s->(acc z (idZ z) ((h,e)::edl ea eb s)↔ConT ea eb h s):=λw=>by
   obtain⟨k,hk,kh⟩:=ZC (show degE (edl ea eb s) h≠0 by rw[w.dh];decide);obtain⟨az,bz,ab⟩:=ok k hk;obtain⟨x,xz,xh,ek⟩:∃x,x<z/\x≠h/\((ea k,eb k)=(h,x)\/(ea k,eb k)=(x,h)):=by
    rcases kh with c| c
    .exact⟨eb k,bz,λd=>ab (c.trans d.symm),.inl (by rw[c])⟩
    .exact⟨ea k,az,λd=>ab (d.trans c.symm),.inr (by rw[c])⟩
   have two:∀p,(ea k=p\/eb k=p)↔(p=h\/p=x):=λp=>by
    rcases ek with c| c
    .injection c with c1 c2;rw[c1,c2];exact⟨λd=>d.elim (λd=>.inl d.symm) (λd=>.inr d.symm),λd=>d.elim (λd=>.inl d.symm) (λd=>.inr d.symm)⟩
    .injection c with c1 c2;rw[c1,c2];exact⟨λd=>d.elim (λd=>.inr d.symm) (λd=>.inl d.symm),λd=>d.elim (λd=>.inr d.symm) (λd=>.inl d.symm)⟩
   have sJ:∀p,degE (edl ea eb s) p=(if p=h\/p=x then 1 else 0)+degE (edl ea eb (s.erase k)) p:=λp=>by
    rw[Zf hk p];by_cases c:p=h\/p=x
    .rw[uD c,uD ((two p).mpr c)]
    .rw[uC c,uC λd=>c ((two p).mp d)]
   have rL:∀u∈s.erase k,ea u<z/\eb u<z/\ea u≠eb u:=λu hu=>ok u (Ff hu);have le:(s.erase k).length=n:=by rw[EM hk,ln];rfl
   have dh0:degE (edl ea eb (s.erase k)) h=0:=by have:=sJ h;rw[w.dh,uD (.inl rfl)] at this;exact zF this
   have nh:=Tv dh0;have split:∀{u:Nat},u∈s->u=k\/u∈s.erase k:=λ{u} hu=>by
    by_cases c:u=k
    .exact .inl c
    .exact .inr ((IF c).mpr hu)
   rw[AAH hz ez he ok hk xh ek];by_cases xe:x=e
   .subst xe
    rw[Tq hz xz (Bi xh)];have de0:degE (edl ea eb (s.erase k)) x=0:=by have:=sJ x;rw[w.de,uD (.inr rfl)] at this;exact zF this
    have nx:=Tv de0;constructor
    .intro c S sh cl u hu
     have c':=HH.mp c;rcases split hu with rfl| hu
     .rcases ek with c| c
      .injection c with c1 _;rw[c1];exact sh
      .injection c with c1 c2
       exact(cl u hk).mpr (by rw[c2];exact sh)
     .rw[c'] at hu;cases hu
    .intro p6
     have all:=p6 (λp=>p=h\/p=x) (.inl rfl) λu hu=>by
      rcases split hu with rfl| hu
      .exact⟨λ_=>(two _).mp (.inr rfl),λ_=>(two _).mp (.inl rfl)⟩
      .obtain⟨h1,h2⟩:=nh u hu
       obtain⟨h3,h4⟩:=nx u hu;exact⟨λd=>(d.elim h1 h3).elim,λd=>(d.elim h2 h4).elim⟩
     rw[HH];apply List.eq_nil_iff_forall_not_mem.mpr;intro u hu;exact(all u (Ff hu)).elim (nh u hu).1 (nx u hu).1
   .have nr:∀r∈edl ea eb (s.erase k),r.1≠h/\r.2≠h/\r.1≠r.2:=λr hr=>by
     obtain⟨u,hu,rfl⟩:=A7.mp hr;exact⟨(nh u hu).1,(nh u hu).2,(rL u hu).2.2⟩
    rw[acc_step hz ez xz he (Bi xh) xe nr,Yn ez n x (s.erase k) le (nd.erase k) rL xz xe];have wd:WayD z ea eb x e (s.erase k):=by
     refine⟨?_,?_,λp pz px pe=>?_⟩
     .have h1:=sJ x;rw[uD (.inr rfl)] at h1
      have:=w.other x xz xh xe;lia
     .have h1:=sJ e;rw[w.de,uC (λc=>c.elim (λc=>he c.symm) (λc=>xe c.symm))] at h1
      lia
     .by_cases ph:p=h
      .rw[ph];exact .inl dh0
      .have h1:=sJ p;rw[uC (λc=>c.elim ph px)] at h1
       have:=w.other p pz ph pe;lia
    constructor
    .rintro⟨_,p6⟩ S sh cl u hu
     have sx:S x:=by
      rcases ek with c| c
      .injection c with c1 c2
       have:=(cl k hk).mp (by rw[c1];exact sh)
       rwa [c2] at this
      .injection c with c1 c2
       have:=(cl k hk).mpr (by rw[c2];exact sh)
       rwa [c1] at this
     rcases split hu with rfl| hu
     .rcases ek with c| c
      .injection c with c1 _;rw[c1];exact sh
      .injection c with c1 _;rw[c1];exact sx
     .exact p6 S sx (λv hv=>cl v (Ff hv)) u hu
    .intro p6
     refine⟨wd,λS sx cl u hu=>?_⟩;have:=p6 (λp=>p=h\/S p) (.inl rfl) (λv hv=>by
      rcases split hv with rfl| hv
      .rcases ek with c| c
       .injection c with c1 c2;rw[c1,c2];exact⟨λ_=>.inr sx,λ_=>.inl rfl⟩
       .injection c with c1 c2;rw[c1,c2];exact⟨λ_=>.inl rfl,λ_=>.inr sx⟩
      .obtain⟨h1,h2⟩:=nh v hv
       exact⟨λd=>.inr ((cl v hv).mp (d.resolve_left h1)),λd=>.inr ((cl v hv).mpr (d.resolve_left h2))⟩) u (Ff hu)
     exact this.resolve_left (nh u hu).1
  exact⟨λa=>⟨deg a,(main (deg a)).mp a⟩,by rintro⟨w,c⟩;exact(main w).mpr c⟩
end
end G
namespace G
open L2
section
variable{h:uI}{es:uJ}
def BigH(n:Nat)(h:uI)(r:Nat):Prop:=gh h (r:Int)=(r:Int)/\1<(under n h (r:Int)).length
instance (r:Nat):Decidable (BigH n h r):=by unfold BigH;infer_instance
theorem Oj:∀i,(Bx n h i).filter (λt=>decide (1<t.length))=((AR i).filter λr=>decide (BigH n h r)).map λ(r:Nat)=>under n h (r:Int)
 | 0=>rfl
 | i+1=>by
  show(Bx n h i++_).filter _=_;rw[CM,Oj i,Fa,CM,BG]
  congr 1
  by_cases c:gh h (i:Int)=(i:Int)
  .rw[uD c]
   by_cases d:1<(under n h (i:Int)).length
   .rw[DT (p:=λ(t:uI)=>decide (1<t.length)) (uE d),DT (p:=λr=>decide (BigH n h r)) (uE (show BigH n h i from⟨c,d⟩))];rfl
   .rw[Dx (p:=λ(t:uI)=>decide (1<t.length)) (by rw[decide_eq_true_iff];exact d),Dx (p:=λr=>decide (BigH n h r)) (by rw[decide_eq_true_iff];exact λb=>d b.2)];rfl
  .rw[uC c,Dx (p:=λr=>decide (BigH n h r)) (by rw[decide_eq_true_iff];exact λb=>c b.1)];rfl
def AFM:((Bx n h n).filter λt=>decide (1<t.length)).length=1↔∃r,(r<n/\BigH n h r)/\∀r',r'<n->BigH n h r'->r'=r:=by
 rw[Oj,AB];constructor
 .intro e
  obtain⟨r,er⟩:=My.mp e;have hm:∀x,x∈(AR n).filter (λr=>decide (BigH n h r))↔x<n/\BigH n h x:=λx=>by rw[BO,AZ,decide_eq_true_iff]
  refine⟨r,(hm r).mp (by rw[er];exact AJ ..),λr' h1 h2=>?_⟩;have:=(hm r').mpr ⟨h1,h2⟩;rw[er] at this;exact B2.mp this
 .rintro⟨r,⟨rn,rb⟩,un⟩
  have hm:∀x,x∈(AR n).filter (λr=>decide (BigH n h r))↔x<n/\BigH n h x:=λx=>by rw[BO,AZ,decide_eq_true_iff]
  have nd:((AR n).filter λr=>decide (BigH n h r)).Nodup:=HL.filter _
  match e:(AR n).filter (λr=>decide (BigH n h r)),nd with
  | [],_=>have:=(hm r).mpr ⟨rn,rb⟩;rw[e] at this;cases this
  | [_],_=>rfl
  | a::b::l,nd =>
   have ha:=(hm a).mp (by rw[e];simp);have hb:=(hm b).mp (by rw[e];simp);have:a=b:=(un a ha.1 ha.2).trans (un b hb.1 hb.2).symm;exact uH this λc=>(DM.mp nd).1 (by rw[c];simp)
def Xj(H:Heads n es h){p q:Nat}(pn:p<n)(qn:q<n)(pq:p≠q)(e:gh h (p:Int)=gh h (q:Int)):∃r,r<n/\gh h (p:Int)=(r:Int)/\BigH n h r:=by
 have l:=H.le (p:Int) fv (uz pn);refine⟨(gh h (p:Int)).toNat,by lia,by lia,?_⟩;have er:(((gh h (p:Int)).toNat:Nat):Int)=gh h (p:Int):=by lia
 unfold BigH;rw[er];refine⟨H.idem _ fv (uz pn),?_⟩;have hp:(p:Int)∈under n h (gh h (p:Int)):=mem_upTo.mpr ⟨⟨fv,uz pn⟩,uE rfl⟩;have hq:(q:Int)∈under n h (gh h (p:Int)):=mem_upTo.mpr ⟨⟨fv,uz qn⟩,uE e.symm⟩
 match eu:under n h (gh h (p:Int)),hp,hq with
 | [],hp,_=>cases hp
 | [a],hp,hq =>
  have h1:=B2.mp hp;have h2:=B2.mp hq;lia
 | _::_::_,_,_=>simp
def AGQ(H:Heads n es h){r:Nat}(rn:r<n)(b:BigH n h r):∃q:Nat,q<n/\q≠r/\gh h (q:Int)=(r:Int):=by
 have asc:=ABX n λp=>decide (gh h p=(r:Int))
 match eu:under n h (r:Int),b.2 with
 | x::y::l,_ =>
  have hx:x∈under n h (r:Int):=by rw[eu];simp
  have hy:y∈under n h (r:Int):=by rw[eu];simp
  obtain⟨⟨x0,x1⟩,ex⟩:=mem_upTo.mp hx;obtain⟨⟨y0,y1⟩,ey⟩:=mem_upTo.mp hy;have ex:=uG ex;have ey:=uG ey;have xy:x<y:=by
   have a:(under n h (r:Int)).Pairwise (· < ·):=asc;rw[eu] at a;exact(Cs.mp a).1 y (by simp)
  by_cases c:x.toNat=r
  .exact⟨y.toNat,by lia,by lia,by rw[show((y.toNat:Nat):Int)=y from wg y0];exact ey⟩
  .exact⟨x.toNat,by lia,c,by rw[show((x.toNat:Nat):Int)=x from wg x0];exact ex⟩
def AAv{ea eb:Nat->Nat}{s:uL}(H:Heads n es h)(e9:∀t:uI,t∈es↔∃k∈s,t=[(ea k:Int),(eb k:Int)])(ok:∀k∈s,ea k<n/\eb k<n/\ea k≠eb k){h0 k0:Nat}(hk:k0∈s)(at0:ea k0=h0\/eb k0=h0) :
  ((Bx n h n).filter λt=>decide (1<t.length)).length=1↔ConT ea eb h0 s:=by
 have edge:∀k∈s,gh h (ea k:Int)=gh h (eb k:Int):=λk hk=>H.edge _ ((e9 _).mpr ⟨k,hk,rfl⟩) _ (by simp) _ (by simp);have h0n:h0<n:=by
  obtain⟨a,b,_⟩:=ok k0 hk;rcases at0 with c| c
  .rw[<- c];exact a
  .rw[<- c];exact b
 have e0:gh h (ea k0:Int)=gh h (h0:Int):=by
  rcases at0 with c| c
  .rw[c]
  .rw[<- c];exact edge k0 hk
 rw[AFM];constructor
 .rintro⟨r,⟨rn,rb⟩,un⟩ S sh cl k a6
  obtain⟨a,b,ab⟩:=ok k a6;obtain⟨a0,b0,ab0⟩:=ok k0 hk;obtain⟨r1,r1n,e1,b1⟩:=Xj H a b ab (edge k a6);obtain⟨r2,r2n,e2,b2⟩:=Xj H a0 b0 ab0 (edge k0 hk);have er:=(un r1 r1n b1).trans (un r2 r2n b2).symm;have eq:gh h (h0:Int)=gh h (ea k:Int):=by rw[<- e0,e2,e1,er]
  have clI:Cl (λx=>S x.toNat) es:=λt ht x hx y hy sx=>by
   obtain⟨u,hu,c⟩:=(e9 t).mp ht;rw[c] at hx hy;simp only[AW,Da,or_false] at hx hy;rcases hx with rfl| rfl<;>rcases hy with rfl| rfl<;>simp only[Cn] at sx ⊢
   .exact sx
   .exact(cl u hu).mp sx
   .exact(cl u hu).mpr sx
   .exact sx
  have:=H.reach (λx=>S x.toNat) clI (h0:Int) (ea k:Int) fv (uz h0n) fv (uz a) eq (by simpa using sh);simpa using this
 .intro p6
  have all:=p6 (λp=>gh h (p:Int)=gh h (h0:Int)) rfl λk a6=>by rw[edge k a6]
  obtain⟨a0,b0,ab0⟩:=ok k0 hk;obtain⟨r,rn,er,rb⟩:=Xj H a0 b0 ab0 (edge k0 hk);refine⟨r,⟨rn,rb⟩,λr' rn' rb'=>?_⟩;obtain⟨q,qn,qr,eq⟩:=AGQ H rn' rb';have tie:∃k∈s,ea k=q\/eb k=q:=by
   apply CD;intro no;have clI:Cl (λx=>x=(q:Int)) es:=λt ht x hx y hy sx=>by
    obtain⟨u,hu,c⟩:=(e9 t).mp ht;rw[c] at hx;simp only[AW,Da,or_false] at hx;rcases hx with rfl| rfl
    .exact uH ⟨u,hu,.inl (uy sx)⟩ no
    .exact uH ⟨u,hu,.inr (uy sx)⟩ no
   have:=H.reach (λx=>x=(q:Int)) clI (q:Int) (r':Int) fv (uz qn) fv (uz rn') (by rw[eq,rb'.1]) rfl;lia
  obtain⟨k,a6,kq⟩:=tie;have e1:=all k a6;have e2:gh h (q:Int)=gh h (h0:Int):=by
   rcases kq with c| c
   .rw[<- c];exact e1
   .rw[<- c,<- edge k a6];exact e1
  have:(r':Int)=(r:Int):=by rw[<- eq,e2,<- e0,er]
  lia
end
end G
namespace K31
open PySem L2 G
noncomputable def none2(cs:uI):Bool:=cs.all λc=>decide (c=0\/c=2)
def YC(K:As):Sp:=λvs H Q _=>∃(l:Addr) (cs:uI),vs=[.ref l]/\SqL K H l (cs.map V.int)/\cs.length<=10/\∀H',Same H H'->Q (.bl (none2 cs)) H'
abbrev bigs(ts:uJ):uJ:=ts.filter λt=>decide (1<t.length)
def ABl(K:As)(C:Addr):Sp:=λvs H Q _=>∃(p s:Addr) (z:Int) (as:uJ) (ms:uI),vs=[.ref p,.ref s]/\WebAt K C H p z as/\rRow K H s ms/\1<=z/\z<=10/\as.length<=12/\(∀t∈as,OkTie z t) /\
 ∀(hs:uI) (H':Hp),Same H H'->Heads z.toNat (sel as ms as.length) hs->Q (.bl (decide ((bigs (Bx z.toNat hs z.toNat)).length=1))) H'
def AHx(c:Int):inV (V.int c) [V.int 0,V.int 2]=decide (c=0\/c=2):=by
 have e:=CZ c [0,2];rw[show([0,2]:uI).map V.int=[V.int 0,V.int 2] from rfl] at e;rw[e];exact decide_eq_decide.mpr (by simp)
theorem KD(n:Nat)(h:uI):∀i,(Bx n h i).length<=i
 | 0=>AF _
 | i+1=>by
  show(Bx n h i++_).length<=_;rw[BF];have:=KD n h i;split
  .show _+1<=_;exact vD this
  .show _+0<=_;lia
def AEg:FnScope zl19 zl19 (Ae Qs):=fscp (by decide+kernel)
def ABP(F:Fun K "none_or_two" "none_or_two" Qs f fd)(bp:mg "all" = uB):FnOk P w K mg base CX0 1 f fd zl19 (YC K):=by
 refine F.ok AEg (λvs H Q E h=>?_) (λa7 A outer s H vs Q E hr h=>?_)
 .obtain⟨l,cs,rfl,_⟩:=h
  rfl
 obtain⟨l,cs,rfl,hl,c10,q⟩:=h;refine⟨_,Ag (Ao (Ax (HS rfl) rfl bp Q4 (Aa (Bp (Ae Qs) ["count"] [] [] rfl rfl (by decide+kernel) trivial (CQ (pv 0))
   (λ_ _ _=>BJ (i:=0)) (λ_ _ _=>Dl)
   (λ_ _ _=>Cw (Ey (K:=K) rfl) (pv 0) (Cr (Aa Af (Aa Af Ac))) rfl)) Ac))),?_⟩
 refine⟨_,rfl,l,rfl,⟨_,hl⟩,λZ hZ=>?_⟩;refine Cj (K:=K) (a:=l) (xs:=cs.map V.int) (λj τ H2=>∃o:Option V,τ=[o]/\Same H H2/\H2 Z=uA (.lst (((cs.take j).map λc=>decide (c=0\/c=2)).map V.bl))) ⟨uB,rfl,uw hZ _,Ab⟩ (by rintro j τ H2 _ ⟨_,_,sm,_⟩;exact sm.seq hl) ?_ ?_
 .rintro j y τ H2 hy ⟨o,rfl,s2,eZ⟩
  obtain⟨c,hc,rfl⟩:=int_at hy;have jl:=(AG.mp hc).1;refine yesN ⟨_,rfl,(by decide),λt ht=>?_⟩;have s3:=s2.trans (uw ht (.tup [V.int 0,V.int 2]));refine⟨t,_,rfl,.inr (uk Ab),rfl,rfl,?_⟩;rw[uC (show ¬ (false=true) by decide),AHx];refine⟨_,uw ht _ _ _ eZ,Az (by rw[AB,AB,B4];exact zD c10),_,rfl,s3.put hZ _,?_⟩
  .rw[Ab,K31s.take_snoc hc,BG,BG]
   rfl
 rintro τ H2 ⟨o,rfl,s2,eZ⟩;rw[AB,CU] at eZ;refine⟨Z,_,rfl,uj eZ,?_⟩;have:=q _ s2;unfold none2 at this;rw[S4];exact this
def AGF:FnScope zl18 zl18 (Ae YW):=fscp (by decide+kernel)
def AEJ(F:Fun K "is_one_piece" "is_one_piece" YW f fd)(T:Txt K mg C)
  (GP:Cal P w K mg base 3 fP ie "web_parts" zl18 (Yy K C)) :
  FnOk P w K mg base CX0 4 f fd zl18 (ABl K C):=by
 refine F.ok AGF (λvs H Q E h=>?_) (λa7 A outer s H vs Q E hr h=>?_)
 .obtain⟨p,s,z,as,ms,rfl,_⟩:=h
  rfl
 obtain⟨p,s0,z,as,ms,rfl,hW,hrow,z1,z10,a12,okt,q⟩:=h;have ny:Room 3 _:=hr.mono (by decide);refine⟨_,Ag (Ao (Cw Cp (Ax Av rfl T.len CI (Aa (Bp (Ae YW) ["part"] [] [] rfl rfl (by decide+kernel) trivial (CQ (BL GP ny rfl (Aa (pv 0) (Aa (pv 1) Ac))))
   (λ_ _ _=>BJ (i:=0))
   (λ_ _ _=>Br (Am Yh (Ax (Ii (K:=K) rfl) rfl T.len CI (Aa (pv 0) Ac)) Af))
   (λ_ _ _=>pv 0)) Ac)) Af)),?_⟩
 refine⟨_,rfl,_,rfl,p,s0,z,as,ms,rfl,hW,hrow,z1,z10,a12,okt,λL hs H1 s1 nL hH hq=>?_⟩;obtain⟨qs,eL,pq⟩:=hq;have lq:=AY pq;have lt:=KD z.toNat hs z.toNat;refine⟨L,rfl,⟨_,uj eL⟩,λZ hZ=>?_⟩;refine Cj (K:=K) (a:=L) (xs:=qs.map V.ref) (λj τ H2=>∃(o:Option V) (ys:List V),τ=[o]/\Same H1 H2/\H2 Z=uA (.lst ys)/\ys.length=(bigs ((Bx z.toNat hs z.toNat).take j)).length) ⟨uB,[],rfl,uw hZ _,Ab,rfl⟩ (by rintro j τ H2 _ ⟨_,_,_,sm,_⟩;exact uj (sm _ _ eL)) ?_ ?_
 .rintro j y τ H2 hy ⟨o,ys,rfl,s2,eZ,ly⟩
  rw[AU] at hy;cases eq:qs[j]? with
  | none=>rw[eq] at hy;cases hy
  | some b =>
   rw[eq] at hy;cases hy;obtain⟨t,ht,_,_,hb⟩:=Paired.get pq eq;have qO:=s2 _ _ hb;have bl:(bigs ((Bx z.toNat hs z.toNat).take j)).length<=10:=BV (CS ..) (by rw[B4];lia);refine⟨_,rfl,b,_,rfl,.inl (uj qO),_,_,rfl,rfl,_,rfl,?_⟩;have es:bigs ((Bx z.toNat hs z.toNat).take (j+1))=bigs ((Bx z.toNat hs z.toNat).take j)++if 1<t.length then [t] else []:=by
    unfold bigs;rw[K31s.take_snoc ht,CM];by_cases c:1<t.length
    .rw[uD c,DT (p:=λ(t:uI)=>decide (1<t.length)) (uE c)];rfl
    .rw[uC c,Dx (p:=λ(t:uI)=>decide (1<t.length)) (by rw[decide_eq_true_iff];exact c)];rfl
   rw[es];by_cases c:1<t.length
   .refine iteP (by rw[AB];lia) ⟨_,rfl,_,eZ,Az (by lia),_,_,rfl,λb o e=>?_,Ab,?_⟩
    .rw[Ah (Ai e hZ)]
     exact s2 b o e
    .rw[uD c,BF,BF,ly]
     rfl
   .refine iteN (by rw[AB];lia) ⟨_,ys,rfl,s2,eZ,?_⟩
    rw[uC c,Cc];exact ly
 rintro τ H2 ⟨o,ys,rfl,s2,eZ,ly⟩;rw[AB,<- lq,CU] at ly;refine⟨Z,_,rfl,.inl (uj eZ),rfl,?_⟩;have:=q hs H2 (s1.trans s2) hH;have e:decide (V.int ((ys.length:Nat):Int)=V.int 1)=decide ((bigs (Bx z.toNat hs z.toNat)).length=1):=decide_eq_decide.mpr ⟨λh=>by injection h with h;lia,λh=>by rw[ly,h];rfl⟩;rw[e];exact this
def HN{s:uL}{k:Nat}:((k:Int)∈up s)↔k∈s:=by
 unfold up;rw[A7];exact⟨by rintro⟨x,hx,e⟩;exact(MA e) ▸ hx,λh=>⟨k,h,rfl⟩⟩
theorem Yg(as:uJ)(ms:uI):∀{i p:Nat},p<i->(cnts as ms i)[p]?=uA ((((hits (p:Int) as).filter λk=>decide (k∈ms)).length:Nat):Int)
 | 0,p,h=>uH h (K4 _)
 | i+1,p,h=>by
  show(cnts as ms i++_)[p]?=_;by_cases c:p<i
  .rw[Be (by rw[Gd];exact c)]
   exact Yg as ms c
  .have e:p=i:=wC h c
   subst e;rw[CH (by rw[Gd];exact AF _),Gd,IQ];rfl
def ACW{bs:uJ}(cK:OkB z bs){s:uL}(nd:s.Nodup)(lt:∀x∈s,x<bs.length)(p:Nat):((hits (p:Int) bs).filter λk=>decide (k∈up s)).length=degE (edl (ea bs) (eb bs) s) p:=by
 have on:∀k,k<bs.length->((p:Int)∈bs.getD k []↔(ea bs k=p\/eb bs k=p)):=λk hk=>by
  obtain⟨x,y,e,_,_⟩:=cK bs[k] (FA hk);have gd:bs.getD k []=[(x:Int),(y:Int)]:=by rw[AD,AI hk,e];rfl
  unfold ea eb;rw[gd];simp;lia
 have e1:degE (edl (ea bs) (eb bs) s) p=(s.filter λk=>decide (ea bs k=p\/eb bs k=p)).length:=by
  unfold degE;rw[K7,AB];rfl
 rw[e1];have n1:((hits (p:Int) bs).filter λk=>decide (k∈up s)).Nodup:=((Hz (p:Int) 0 bs).filter _).imp λ{a b} h=>by lia
 have n2:((s.filter λk=>decide (ea bs k=p\/eb bs k=p)).map λ(k:Nat)=>(k:Int)).Nodup:=by
  unfold LN;rw[C0];exact(nd.filter _).imp λh e=>h (MA e)
 have pm:((hits (p:Int) bs).filter λk=>decide (k∈up s)).Perm ((s.filter λk=>decide (ea bs k=p\/eb bs k=p)).map λ(k:Nat)=>(k:Int)):=by
  rw[Sf];intro x;rw[n1.count,n2.count];have nc:x∈(hits (p:Int) bs).filter (λk=>decide (k∈up s))↔x∈(s.filter λk=>decide (ea bs k=p\/eb bs k=p)).map λ(k:Nat)=>(k:Int):=by
   rw[BO,decide_eq_true_iff,A7];constructor
   .rintro⟨h1,h2⟩
    obtain⟨i,t,e1,e2,e3⟩:=L2.Fz.mp h1;have ex:x=(i:Int):=by lia
    subst ex;have hs:=HN.mp h2;have il:=lt i hs;refine⟨i,BO.mpr ⟨hs,uE ((on i il).mp ?_)⟩,rfl⟩;rw[AD,e1];exact e2
   .rintro⟨k,hk,rfl⟩
    obtain⟨h1,h2⟩:=BO.mp hk;have kl:=lt k h1;have h3:=(on k kl).mpr (uG h2);refine⟨L2.Fz.mpr ⟨k,bs[k],AI kl,?_,yJ⟩,HN.mpr h1⟩;rw[AD,AI kl] at h3;exact h3
  by_cases c:x∈(hits (p:Int) bs).filter (λk=>decide (k∈up s))
  .rw[uD c,uD (nc.mp c)]
  .rw[uC c,uC λd=>c (nc.mpr d)]
 rw[pm.length_eq,AB]
def ADw(hK:X.K=K){o:Expr}(he:PE X o ta)(hb:K0 o x X.env (eval o X.env)=eval o X.env):PE X (.Attribute o x pos) (AHy K ta x):=by subst hK;exact Bg he hb
def Wa{bs:uJ}(cK:OkB z bs){k:Nat}(h:k<bs.length):bs.getD k []=[(ea bs k:Int),(eb bs k:Int)]:=by
 obtain⟨x,y,e,_,_⟩:=cK bs[k] (FA h);have gd:bs.getD k []=[(x:Int),(y:Int)]:=by rw[AD,AI h,e];rfl
 unfold ea eb;rw[gd];rfl
def AGP{bs:uJ}(cK:OkB z bs)(ap:Apart bs):∀t∈bs,OkTie (z:Int) t:=λt ht=>by
 obtain⟨k,hk,e⟩:=Se ht;have g:=Wa cK hk;rw[AD,AI hk,e] at g;obtain⟨a,b,_⟩:=RZ cK hk;have n:=ap k hk;exact⟨_,_,g,fv,uz a,fv,uz b,by lia⟩
noncomputable def btw(cs:uI)(a b j:Nat):uI:=((AR j).filter λ(p:Nat)=>!decide ((p:Int)∈[(a:Int),(b:Int)])).map λ(p:Nat)=>cs.getD p 0
def Ye(cs:uI)(a b j:Nat):(btw cs a b j).length<=j:=by
 unfold btw;rw[AB];exact BV (CS ..) (by rw[Cf];exact AF _)
def Ur(cs:uI)(a b j:Nat):btw cs a b (j+1)=btw cs a b j++if(j:Int)∈[(a:Int),(b:Int)] then [] else [cs.getD j 0]:=by
 unfold btw;rw[Fa,CM,BG];by_cases c:(j:Int)∈[(a:Int),(b:Int)]
 .rw[uD c,Dx (by rw[uE c];decide)];rfl
 .rw[uC c,DT (by rw[uF c];rfl)];rfl
def ACq{a b:Nat}{bs:uJ}(cK:OkB z bs)(ap:Apart bs)(pw:su.Pairwise (· < ·))(lt:∀x∈su,x<bs.length)(az:a<z)(bz:b<z)(ab:a≠b) :
  (((cnts bs (up su) z).getD a 0=1/\(cnts bs (up su) z).getD b 0=1)/\none2 (btw (cnts bs (up su) z) a b z)=true/\ConT (ea bs) (eb bs) a su↔acc z (idF z) ((a,b)::edg bs su))/\((cnts bs (up su) z).getD a 0=1->∀{hs:uI},Heads z (sel bs (up su) bs.length) hs->((bigs (Bx z hs z)).length=1↔ConT (ea bs) (eb bs) a su)):=by
 have nd:=pw.imp λh=>BY h;have cd:∀p,p<z->(cnts bs (up su) z).getD p 0=((degE (edl (ea bs) (eb bs) su) p:Nat):Int):=λp hp=>by
  rw[AD,Yg bs (up su) hp,ACW cK nd lt p];rfl
 have ok:∀k∈su,ea bs k<z/\eb bs k<z/\ea bs k≠eb bs k:=λk hk=>by
  obtain⟨h1,h2,_⟩:=RZ cK (lt k hk);exact⟨h1,h2,ap k (lt k hk)⟩
 have n2:none2 (btw (cnts bs (up su) z) a b z)=true↔∀p,p<z->p≠a->p≠b->degE (edl (ea bs) (eb bs) su) p=0\/degE (edl (ea bs) (eb bs) su) p=2:=by
  unfold none2 btw;rw[EW];constructor
  .intro h p pz pa pb
   have:=uG (h _ (A7.mpr ⟨p,BO.mpr ⟨AZ.mpr pz,by rw[uF (by simp;lia)];rfl⟩,rfl⟩));rw[cd p pz] at this;lia
  .intro h c hc
   obtain⟨p,hp,rfl⟩:=A7.mp hc;obtain⟨h1,h2⟩:=BO.mp hp;have pz:=AZ.mp h1;have nin:(p:Int)∉[(a:Int),(b:Int)]:=λc=>by rw[uE c] at h2;cases h2
   have:=h p pz (λe=>nin (by rw[e];simp)) (λe=>nin (by rw[e];simp));rw[cd p pz];exact uE (by lia)
 have e9:∀t:uI,t∈sel bs (up su) bs.length↔∃k∈su,t=[(ea bs k:Int),(eb bs k:Int)]:=λt=>by
  rw[Gk];constructor
  .rintro⟨i,il,h1,h2⟩
   exact⟨i,HN.mp h1,by rw[h2,Wa cK il]⟩
  .rintro⟨k,hk,h⟩
   exact⟨k,lt k hk,HN.mpr hk,by rw[h,Wa cK (lt k hk)]⟩
 constructor
 .show _↔acc z (idZ z) ((a,b)::edl (ea bs) (eb bs) su)
  rw[Yn bz su.length a su rfl nd ok az ab,n2,cd a az,cd b bz];constructor
  .rintro⟨⟨h1,h2⟩,h3,h4⟩
   exact⟨⟨wj h1,wj h2,h3⟩,h4⟩
  .rintro⟨⟨h1,h2,h3⟩,h4⟩
   exact⟨⟨zG h1,zG h2⟩,h3,h4⟩
 .intro e hs H
  rw[cd a az] at e;obtain⟨k0,hk,at0⟩:=ZC (ea:=ea bs) (eb:=eb bs) (p:=a) (s:=su) (by lia);exact AAv H e9 ok hk at0
def Vv(K:As)(C D:Addr):Sp:=λvs H Q _=>∃(r p so dx et:Addr) (z a b:Nat) (bs:uJ) (su:uL),vs=[.ref r,.ref p,.ref so]/\H r=uA (.ins D dx (wf et))/\SqT K H et [.int (a:Int),.int (b:Int)]/\WebAt K C H p z bs/\a<z/\b<z/\a≠b/\rRow K H so (up su)/\su.Pairwise (· < ·)/\(∀x∈su,x<bs.length)/\z<=10/\bs.length<=12/\OkB z bs/\Apart bs /\
 ∀(v:Bool) (H':Hp),Same H H'->(v=true↔acc z (idF z) ((a,b)::edg bs su))->Q (.bl v) H'
def XM:FnScope ["self","web","some","counts","between"] zl32 (Ae Rv):=fscp (by decide+kernel)
def AEh(F:Fun K "fits" "Ways.fits" Rv f fd)(T:Txt K mg C)(cD:Cls K D)(nE:NoAttr K D "ends")
  (GR:FnOk P w K mg base CX0 2 fR lT zl14 (WQ K C D)) (bR:Binds K lT zl14 []) (mR:Meth K D "refuse_web" fR)
  (GC:Cal P w K mg base 2 fC sZ "tie_counts" zl18 (Tg K C))
  (GN:Cal P w K mg base 1 fN qm "none_or_two" zl19 (YC K))
  (GO:Cal P w K mg base 4 fO tj "is_one_piece" zl18 (ABl K C)) :
  FnOk P w K mg base CX0 5 f fd zl32 (Vv K C D):=by
 refine F.ok XM (λvs H Q E h=>?_) (λa7 A outer s H vs Q E hr h=>?_)
 .obtain⟨r,p,so,dx,et,z,a,b,bs,su,rfl,_⟩:=h
  rfl
 obtain⟨r,p,so,dx,et,z,a,b,bs,su,rfl,h0,ht,hW,az,bz,ab,gv,pw,lt,z10,b12,cK,ap,q⟩:=h;have bb:Room 1 _:=hr.mono (by decide);have dm:Room 2 _:=hr.mono (by decide);have p9:Room 4 _:=hr.mono (by decide);refine⟨_,Ad (Ck (Bq (pv 0) cD mR GR dm bR .nil pass0 (Aa (pv 1) Ac)))
  (Ad (Ak (i:=3) XM.nd (BL GC dm rfl (Aa (pv 1) (Aa (pv 2) Ac))))
  (Ad (Jh (i:=4) (Ae Rv) ["point","count"] ["self"] [0] XM.nd rfl (KW rfl) rfl rfl (by decide+kernel) ⟨⟨rfl,by decide+kernel⟩,trivial⟩ (GD rfl T.enum (Aa (pv 3) Ac))
    (λ_ _ _=>Gh (K:=K) (n:=2) rfl rfl (BW (BJ (i:=0)) (BW (BJ (i:=1)) DK)))
    (λ_ _ _=>Br (Am (Eb (K:=K) rfl) (pv 0) (ADw (K:=K) rfl (pv 2) rfl) rfl))
    (λ_ _ _=>pv 1))
  (Ag (Ao (Mp (Cw (RP DX (CN hr)) (Bp (Ae Rv) ["end"] ["counts"] [3] rfl rfl (by decide+kernel) ⟨⟨rfl,by decide+kernel⟩,trivial⟩ (Qh (Bg (pv 0) rfl))
    (λ_ _ _=>BJ (i:=0)) (λ_ _ _=>Dl)
    (λ_ _ _=>Ay (Ly (K:=K) rfl) (pv 1) (pv 0) (λ_ _=>rfl))) (Cu (Aa Af (Aa Af Ac))) rfl)
   (Mp (BL GN bb rfl (Aa (pv 4) Ac)) (Rm (BL GO p9 rfl (Aa (pv 1) (Aa (pv 2) Ac)))))))))),?_⟩
 refine⟨_,rfl,r,dx,_,rfl,h0,Fg et (by decide+kernel),_,rfl,r,p,dx,et,z,a,b,bs,rfl,h0,ht,hW,az,bz,ab,?_⟩;refine⟨_,rfl,_,rfl,p,so,z,bs,up su,rfl,hW,gv,zH bz,wu z10,b12,λL H1 s1 nL eL=>?_⟩;rw[Cn] at eL;have cl:=Gd bs (up su) z;have fi:=ACq cK ap pw lt az bz ab;generalize cnts bs (up su) z=cs at eL cl fi;refine⟨_,rfl,L,rfl,⟨_,uj eL⟩,λZ hZ=>?_⟩;refine FP (xs:=cs.map V.int) (λi τ H2=>∃n t:Option V,τ=[n,t,uA (.ref r)]/\Same H1 H2/\H2 Z=uA (.lst ((btw cs a b i).map V.int))) ⟨uB,uB,rfl,uw hZ _,Ab⟩ (by rintro i τ H2 _ ⟨_,_,_,sm,_⟩;exact sm.seq (uj eL)) ?_ ?_
 .rintro i y τ H2 T1 hy dL ⟨n,t,rfl,sm,eZ⟩
  obtain⟨c,hc,rfl⟩:=int_at hy;have il:=(AG.mp hc).1;have gc:cs.getD i 0=c:=by rw[AD,hc];rfl
  have s2:Same H2 (upd H2 T1 (.tup [.int i,.int c])):=uw dL _;have gX:=s1.trans (sm.trans s2);refine⟨T1,_,rfl,uk Ab,rfl,_,_,rfl,_,_,rfl,rfl,?_⟩;refine⟨_,rfl,_,rfl,r,D,dx,_,_,rfl,gX _ _ h0,cD,nE,Ib et,et,[.int (a:Int),.int (b:Int)],rfl,.inr (gX.ts.seq ht),rfl,rfl,_,rfl,?_⟩;rw[uD rfl,show inV (V.int (i:Int)) [V.int (a:Int),V.int (b:Int)]=decide ((i:Int)∈[(a:Int),(b:Int)]) from CZ (i:Int) [(a:Int),(b:Int)]];by_cases c1:(i:Int)∈[(a:Int),(b:Int)]
  .rw[uE c1]
   refine iteF ⟨_,_,rfl,sm.trans s2,?_⟩;rw[Ur,uD c1,Cc];exact s2 _ _ eZ
  .rw[uF c1]
   refine iteT ⟨_,rfl,_,s2 _ _ eZ,Az (by rw[AB];have:=Ye cs a b i;lia),_,_,rfl,(sm.trans s2).put hZ _,?_⟩
   .rw[Ab,Ur,uC c1,gc,BG]
    rfl
 rintro τ H2 ⟨n,t,rfl,s2,eZ⟩;rw[AB,cl] at eZ;have gX:=s1.trans s2;refine⟨_,rfl,r,D,dx,_,_,rfl,gX _ _ h0,cD,nE,Ib et,et,rfl,⟨_,gX.ts.seq ht⟩,λY hY=>?_⟩;refine Jj (K:=K) (a:=et) (xs:=[V.int (a:Int),V.int (b:Int)]) (λj τ H3=>∃o:Option V,τ=[o,uA (.ref L)]/\Same H2 H3/\H3 Y=uA (.lst ((([cs.getD a 0,cs.getD b 0]:uI).take j).map V.int))) ⟨uB,rfl,uw hY _,Ab⟩ (by rintro j τ H3 _ ⟨_,_,sm,_⟩;exact(gX.trans sm).ts.seq ht) ?_ ?_
 .rintro j y τ H3 hy ⟨o,rfl,sm,eY⟩
  obtain⟨c,rfl,cz,hj⟩:∃c:Nat,y=.int (c:Int)/\c<z/\([cs.getD a 0,cs.getD b 0]:uI)[j]?=uA (cs.getD c 0):=by
   match j,hy with
   | 0,hy=>cases hy;exact⟨a,rfl,az,rfl⟩
   | 1,hy=>cases hy;exact⟨b,rfl,bz,rfl⟩
   | j+2,hy=>cases hy
  have gc:(cs.map V.int)[c]?=uA (V.int (cs.getD c 0)):=by rw[AU,AD,AI (dl cz cl)];rfl
  refine yesN ⟨_,rfl,_,rfl,L,_,_,_,rfl,rfl,uj ((s2.trans sm) _ _ eL),Bk gc,?_⟩;refine⟨_,eY,Az (by rw[AB,B4];show min _ 2<=_;lia),_,rfl,sm.put hY _,?_⟩
  .rw[Ab,K31s.take_snoc hj,BG]
   rfl
 rintro τ H3 ⟨o,rfl,s3,eY⟩;have eY:=eY;refine⟨(by decide),λO1 md=>?_⟩;have s4:=uw md (.lst [V.int 1,V.int 1]);have s24:=s3.trans s4;refine⟨[cs.getD a 0,cs.getD b 0],[1,1],⟨Y,_,rfl,uj (s4 _ _ eY),paired_ints _⟩,⟨O1,_,rfl,uj Ab,paired_ints [1,1]⟩,_,rfl,?_⟩;have e8:=s24 _ _ eZ;have pV:=gX.trans s24;generalize upd H3 O1 (.lst [V.int 1,V.int 1])=H4 at s4 s24 e8 pV;refine ite2 (λc1=>?_) (λc1=>?_)
 .have c1:=uG c1
  have c1a:cs.getD a 0=1/\cs.getD b 0=1:=by
   injection c1 with e1 e2
   injection e2 with e2 _
   exact⟨e1,e2⟩
  have bl:=Ye cs a b z;refine⟨_,rfl,Z,btw cs a b z,rfl,uj e8,vg bl z10,λH5 s5=>⟨_,rfl,?_⟩⟩;have s5':=pV.trans s5;refine ite2 (λc2=>?_) (λc2=>?_)
  .refine⟨_,rfl,_,rfl,p,so,z,bs,up su,rfl,hW.same s5',gv.same s5',zH az,wu z10,b12,AGP cK ap,λhs H6 s6 hh=>?_⟩
   rw[Cn] at hh ⊢;exact q _ H6 (s5'.trans s6) ⟨λe=>fi.1.mp ⟨c1a,c2,(fi.2 c1a.1 hh).mp (uG e)⟩,λe=>uE ((fi.2 c1a.1 hh).mpr (fi.1.mpr e).2.2)⟩
  .exact q _ H5 s5' ⟨λe=>(by cases e),λe=>uH (fi.1.mpr e).2.1 c2⟩
 .refine q _ H4 pV ⟨λe=>(by cases e),λe=>uH ?_ c1⟩
  obtain⟨⟨e1,e2⟩,_⟩:=fi.1.mpr e;rw[e1,e2];exact uE rfl
def Ls(su:uL):(up su).map V.int=nI su:=by
 unfold up nI;rw[G0];rfl
def Ma(su:uL):(up su).length=su.length:=by unfold up;rw[AB]
def JG(ks:uL)(k:Nat):nI (ks++[k])=nI ks++[V.int (k:Int)]:=by unfold nI;rw[BG];rfl
def Ky(K:As):Sp:=λvs H Q _=>∃(l so:Addr) (z a b:Nat) (as:uJ) (su:uL),vs=[.ref l,.ref so,.int (a:Int),.int (b:Int)]/\TlAt K H l as/\OkTies (z:Int) as/\as.length<=12/\rRow K H so (up su)/\su.Pairwise (· < ·)/\(∀x∈su,x<as.length)/\a<z/\b<z/\a≠b /\
 ∀(v:Bool) (H':Hp),Same H H'->(v=true↔RingS z as (a,b) su)->Q (.bl v) H'
def BZ(ok:OkTies (z:Int) as){k:Nat}(h:k<as.length):∃x y:Nat,as[k]?=uA [(x:Int),(y:Int)]/\x<z/\y<z/\x≠y/\((ea (as.map srt) k=x/\eb (as.map srt) k=y)\/(ea (as.map srt) k=y/\eb (as.map srt) k=x)):=by
 obtain⟨x,y,e,xz,yz,n⟩:=Xq ok h;exact⟨x,y,e,xz,yz,n,VD e⟩
def AFY(ok:OkTies (z:Int) as){a b:Nat}(pw:su.Pairwise (· < ·))(lt:∀x∈su,x<as.length)(az:a<z)(bz:b<z)(ab:a≠b):wlk (ea (as.map srt)) (eb (as.map srt)) b su.length a su=true↔RingS z as (a,b) su:=by
 have:=(Uh (z:=z) (ea:=ea (as.map srt)) (eb:=eb (as.map srt)) bz su.length a su rfl (pw.imp λh=>BY h) (λk hk=>by
  obtain⟨x,y,e,xz,yz,n,h⟩:=BZ ok (lt k hk);rcases h with⟨h1,h2⟩| ⟨h1,h2⟩<;>rw[h1,h2]
  .exact⟨xz,yz,n⟩
  .exact⟨yz,xz,Bi n⟩) az).1 ab
 exact this
noncomputable abbrev stepsL(bs:uJ)(h:Nat)(left:uL):uL:=left.filter λk=>decide (ea bs k=h\/eb bs k=h)
theorem KH{k:Nat}:∀{l:uL}{j:Nat},l.Nodup->l[j]?=uA k->l.eraseIdx j=l.erase k
 | [],j,_,e=>by cases e
 | x::l,0,_,e=>by cases e;simp
 | x::l,j+1,nd,e=>by
  have e:l[j]?=uA k:=e;have hm:=AT e;have ne:x≠k:=λh=>(DM.mp nd).1 (h ▸ hm);show x::l.eraseIdx j=_;rw[List.erase_cons_tail (by simpa using ne),KH (DM.mp nd).2 e]
theorem Jb{α β:Type}(f:α->β):∀(l:List α) (j:Nat),(l.eraseIdx j).map f=(l.map f).eraseIdx j
 | [],_=>rfl
 | _::_,0=>rfl
 | x::l,j+1=>by show f x::_=f x::_;rw[Jb f l j]
set_option tactic.hygienic true in
theorem AHL{bs:uJ}{e h:Nat}{left:uL}(n0:left.length≠0)(c:(stepsL bs h left).length≠1\/h=e):wlk (ea bs) (eb bs) e left.length h left=false:=by
 obtain⟨n,en⟩:=Nat.exists_eq_succ_of_ne_zero n0;rw[en];unfold wlk;split
 .rename_i k hk
  rcases c with c| c
  .rw[show stepsL bs h left=[k] from hk] at c
   exact uH rfl c
  .rw[uD c]
 .rfl
def AGw{bs:uJ}{e h k:Nat}{left:uL}(en:left.length=n+1)(c:stepsL bs h left=[k])(he:h≠e):wlk (ea bs) (eb bs) e left.length h left=wlk (ea bs) (eb bs) e n (ea bs k+eb bs k-h) (left.erase k):=by
 rw[en];unfold wlk;rw[show(left.filter λk=>decide (ea bs k=h\/eb bs k=h))=[k] from c];show(if h=e then false else _)=_;rw[uC he];cases n<;>rfl
noncomputable abbrev iwN:uU:=["_law_rows_here","_law_some","_law_begin","_law_end","_law_here","_law_left","_law_before","_law_turn","_law_steps"]
def Fi:FnScope iwN ["_law_rows_here","_law_some","_law_begin","_law_end"] (Ae RM):=fscp (by decide+kernel)
def ABk(F:Fun K "_law_is_way" "_law_is_way" RM f fd)(T:Txt K mg C):FnOk P w K mg base CX0 1 f fd zl35 (Ky K):=by
 refine F.ok Fi (λvs H Q E h=>?_) (λa7 A outer s H vs Q E hr h=>?_)
 .obtain⟨l,so,z,a,b,as,su,rfl,_⟩:=h
  rfl
 obtain⟨l,so,z,a,b,as,su,rfl,hT,ok,a12,gv,pw,lt,az,bz,ab,q⟩:=h;refine⟨_,Ad (Ak (i:=4) Fi.nd (pv 2))
  (Ad (Ak (i:=5) Fi.nd (BX Dp rfl T.list EG (Aa (pv 1) Ac)))
  (Ad (Ak (i:=6) Fi.nd Ft)
  (Ad (Cv CY rfl (Cq rfl T.range (Aa (Ax Av rfl T.len CI (Aa (pv 1) Ac)) Ac)) (BP (i:=7) Fi.nd)
   (Ad (Jh (i:=8) (Ae RM) ["_law_k"] ["_law_here","_law_rows_here"] [4,0] Fi.nd rfl (KW rfl) rfl rfl (by decide+kernel) ⟨⟨rfl,by decide+kernel⟩,⟨rfl,by decide+kernel⟩,trivial⟩ (CQ (pv 5))
     (λ_ _ _=>BJ (i:=0))
     (λ_ _ _=>Br (Am (Ey (K:=K) rfl) (pv 1) (Ay (Ly (K:=K) rfl) (pv 2) (pv 0)) rfl))
     (λ_ _ _=>pv 0))
   (Ad (Bl (ud (Fd (Am Jf (Ax Av rfl T.len CI (Aa (pv 8) Ac)) Af) (Ek (Am Cp (pv 4) (pv 3))))) (Ag (Ao FZ)) BK)
   (Ad (Ck (Ih Do Pc Pd (Ov DX (CN hr)) (pv 5) (Aa (Ay Bm (pv 8) Af) Ac)))
   (Ad (Ak (i:=6) Fi.nd (pv 4))
   (Ag (Ak (i:=4) Fi.nd (Ar Em (Ar Bv (Ay Bc (Ay Bm (pv 0) (Ay Bm (pv 8) Af)) Af) (Ay Bc (Ay Bm (pv 0) (Ay Bm (pv 8) Af)) Af)) (pv 6)))))))))
  (Ag (Ao (Mp (Cw Cp (pv 4) (pv 3)) (Rm (Cw (RP DX (CN hr)) (pv 5) (Cu Ac) rfl)))))))),?_⟩
 refine⟨_,rfl,_,rfl,so,_,rfl,gv,λL0 lP=>?_⟩;have sl:=K31s.JM pw lt;have wk:=AFY ok pw lt az bz ab;have s0:=uw lP (.lst ((up su).map V.int));have eL0:(upd H L0 (.lst ((up su).map V.int))) L0=uA (.lst (nI su)):=by rw[Ab,Ls]
 generalize upd H L0 (.lst ((up su).map V.int))=H1 at s0 eL0;refine⟨_,rfl,so,_,rfl,gv.same s0,_,rfl,by lia,by rw[AB,Ma];lia,?_⟩;rw[AB,Ma];refine Jw (lo:=0) (n:=((su.length:Nat):Int).toNat) (λi σ H2=>∃(o6 o7 o8:Option V) (h:Nat) (left:uL),σ=[uA (.ref l),uA (.ref so),uA (.int (a:Int)),uA (.int (b:Int)),uA (.int (h:Int)),uA (.ref L0),o6,o7,o8]/\Same H H2/\H2 L0=uA (.lst (nI left))/\left.length+i=su.length/\left.Nodup/\(∀x∈left,x<as.length)/\h<z/\wlk (ea (as.map srt)) (eb (as.map srt)) b left.length h left=wlk (ea (as.map srt)) (eb (as.map srt)) b su.length a su)
  ⟨_,_,_,a,su,rfl,s0,eL0,rfl,pw.imp λh=>BY h,lt,az,rfl⟩ ?_ ?_
 .rintro i σ H2 hi ⟨o6,o7,o8,h,left,rfl,s2,eL,ll,nd,lt2,hz,ew⟩
  rw[Cn] at hi;obtain⟨xs,hl,pl⟩:=id hT;have lx:=AY pl;have lf:left.length<=12:=by lia
  refine⟨_,rfl,L0,rfl,⟨_,uj eL⟩,λZ hZ=>?_⟩;refine Cj (K:=K) (a:=L0) (xs:=nI left) (λj τ H3=>∃o:Option V,τ=[o,uA (.int (h:Int)),uA (.ref l)]/\Same H2 H3/\H3 Z=uA (.lst (nI (stepsL (as.map srt) h (left.take j))))) ⟨uB,rfl,uw hZ _,Ab⟩ (by rintro j τ H3 _ ⟨_,_,sm,_⟩;exact sm.seq (uj eL)) ?_ ?_
  .rintro j v τ H3 hv ⟨o,rfl,s3,eZ⟩
   obtain⟨k,hk,rfl⟩:=RX hv;obtain⟨x,y,e,xz,yz,ne,ends⟩:=BZ ok (lt2 k (AT hk));obtain⟨v,hv,rv⟩:=ug pl e;obtain⟨tq,rfl,eQ⟩:=CG rv;have g7:=s2.trans s3;have lj:(stepsL (as.map srt) h (left.take j)).length<=12:=BV (CS ..) (by rw[B4];exact ww lf);refine⟨_,rfl,_,rfl,_,rfl,l,xs,_,_,rfl,rfl,g7.seq hl,Bk hv,tq,_,rfl,.inr (g7.ts.seq eQ),rfl,K31s.Dj _,_,rfl,?_⟩;rw[uC (show ¬ (false=true) by decide),CZ];have nc:(h:Int)∈[(x:Int),(y:Int)]↔(ea (as.map srt) k=h\/eb (as.map srt) k=h):=by
    simp only[AW,Da,or_false];lia
   have es:stepsL (as.map srt) h (left.take (j+1))=stepsL (as.map srt) h (left.take j)++if(h:Int)∈[(x:Int),(y:Int)] then [k] else []:=by
    unfold stepsL;rw[K31s.take_snoc hk,CM];by_cases c:(h:Int)∈[(x:Int),(y:Int)]
    .rw[uD c,DT (p:=λk=>decide (ea (as.map srt) k=h\/eb (as.map srt) k=h)) (uE (nc.mp c))];rfl
    .rw[uC c,Dx (p:=λk=>decide (ea (as.map srt) k=h\/eb (as.map srt) k=h)) (by rw[decide_eq_true_iff];exact λd=>c (nc.mpr d))];rfl
   rw[es];by_cases c:(h:Int)∈[(x:Int),(y:Int)]
   .refine iteP c ⟨_,rfl,_,eZ,Az (by rw[DQ];exact we lj),_,rfl,λb o e=>?_,?_⟩
    .rw[Ah (Ai e hZ)]
     exact s3 b o e
    .rw[Ab,uD c,JG]
   .refine iteN c ⟨_,rfl,s3,?_⟩
    rw[uC c,Cc];exact eZ
  rintro τ H3 ⟨o,rfl,s3,eZ⟩;rw[DQ,CU] at eZ;have g7:=s2.trans s3;have no:(stepsL (as.map srt) h left).length≠1\/h=b->Q (.bl false) H3:=λc=>q false H3 g7 (by
   rw[<- wk,<- ew,AHL (by lia) c])
  refine⟨_,rfl,Z,_,rfl,.inl (uj eZ),rfl,_,rfl,?_⟩;rw[DQ];by_cases c1:(stepsL (as.map srt) h left).length=1
  .refine iteNP (by rw[c1];rfl) ⟨_,rfl,_,rfl,rfl,_,rfl,?_⟩
   by_cases c2:h=b
   .exact iteP (by rw[c2]) (no (.inr c2))
   refine iteN (λe=>c2 (by injection e with e;exact uy e)) ?_;obtain⟨k,ek⟩:=My.mp c1;rw[ek] at eZ;have km:k∈stepsL (as.map srt) h left:=by rw[ek];exact AJ ..
   obtain⟨kl,kp⟩:=BO.mp km;have kp:=uG kp;obtain⟨j,hj⟩:=List.getElem?_of_mem kl;have jl:=(AG.mp hj).1;have qu:=s3 _ _ eL;have az0:atI (nI [k]) ((0:Nat):Int)=uA (V.int (k:Int)):=Bk rfl;refine⟨_,rfl,.inl ⟨rfl,_,uj qu⟩,_,rfl,Z,_,_,_,rfl,rfl,uj eZ,az0,?_⟩;refine⟨L0,nI left,_,(k:Int),up left,j,rfl,rfl,qu,by rw[<- Ls];exact paired_ints _,rfl,by unfold up;rw[AU,hj];rfl,λm hm e=>?_,?_⟩
   .unfold up at e
    rw[AU] at e;obtain⟨m',e1,e2⟩:=J5.mp e;have e3:left[m]?=left[j]?:=by rw[e1,hj,show m'=k from uy e2]
    have:=(J9 (uP hm jl) nd).mp e3;exact vd hm this
   have eE:(nI left).eraseIdx j=nI (left.erase k):=by
    rw[<- KH nd hj];exact(Jb _ _ _).symm
   rw[eE];have s4:Same H (upd H3 L0 (.lst (nI (left.erase k)))):=g7.put lP _;have e8:(upd H3 L0 (.lst (nI (left.erase k)))) Z=uA (.lst (nI [k])):=by
    rw[Ah (λe=>by rw[e,eL] at hZ;cases hZ)];exact eZ
   have eL4:(upd H3 L0 (.lst (nI (left.erase k)))) L0=uA (.lst (nI (left.erase k))):=Ab;generalize upd H3 L0 (.lst (nI (left.erase k)))=H4 at s4 e8 eL4;obtain⟨x,y,e,xz,yz,ne,ends⟩:=BZ ok (lt2 k kl);obtain⟨v,hv,rv⟩:=ug pl e;obtain⟨tq,rfl,eQ⟩:=CG rv;have eQ:=eQ;have ex:=Bk hv;refine⟨_,rfl,_,rfl,_,rfl,Z,_,_,_,rfl,rfl,uj e8,az0,l,xs,_,_,rfl,rfl,s4.seq hl,ex,tq,_,_,_,rfl,rfl,s4.ts.seq eQ,at0,_,rfl,_,rfl,Z,_,_,_,rfl,rfl,uj e8,az0,l,xs,_,_,rfl,rfl,s4.seq hl,ex,tq,_,_,_,rfl,rfl,s4.ts.seq eQ,at1,_,_,rfl,rfl,_,rfl,_,_,rfl,rfl,?_⟩;have sum:(x:Int)+(y:Int)-(h:Int)=((ea (as.map srt) k+eb (as.map srt) k-h:Nat):Int):=by lia
   have el:=EM kl;obtain⟨n,en⟩:∃n,left.length=n+1:=⟨left.length-1,by lia⟩;have st:=AGw (e:=b) en ek c2;refine⟨uA (.int (h:Int)),uA (.int (0+(i:Int))),uA (.ref Z),ea (as.map srt) k+eb (as.map srt) k-h,left.erase k,?_,s4,eL4,by lia,nd.erase k,λx hx=>lt2 x (Ff hx),by lia,?_⟩
   .rw[<- sum]
    rfl
   .rw[el,en,D2,<- st,ew]
  .exact iteNN (λe=>c1 (by injection e with e;exact wj e)) (no (.inl c1))
 .rintro σ H2 ⟨o6,o7,o8,h,left,rfl,s2,eL,ll,nd,lt2,hz,ew⟩
  rw[Cn] at ll;have l0:left=[]:=CO.mp (by lia);subst l0;have wq:=λH' (s':Same H2 H')=>q (decide (h=b)) H' (s2.trans s') (by
   rw[<- wk,<- ew];show _↔(decide (h=b)&&decide (([]:uL)=[]))=true;rw[uE (rfl:([]:uL)=[]),WC])
  refine⟨_,rfl,_,rfl,rfl,_,rfl,?_⟩;by_cases c:h=b
  .rw[uE c] at wq
   refine iteP (by rw[c]) ⟨_,rfl,By _,λO1 md=>?_⟩;have s4:=uw md (.lst []);exact⟨[],[],⟨L0,_,rfl,uj (s4 _ _ eL),.nil⟩,⟨O1,_,rfl,uj Ab,.nil⟩,wq _ s4⟩
  .rw[uF c] at wq
   exact iteN (λe=>c (by injection e with e;exact uy e)) (wq _ (um _))
structure SetT(K:As)(H:Hp)(t:Addr)(n:Nat)(su:uL):Prop where
 at_:SqT K H t ((up su).map V.int)
 pw:su.Pairwise (· < ·)
 lt:∀x∈su,x<n
def SetT.same{t:Addr}(h:SetT K H t n su)(e:Same H H'):SetT K H' t n su:=⟨e.ts.seq h.at_,h.pw,h.lt⟩
def Yj(K:As):Sp:=λvs H Q _=>∃(l:Addr) (c:Int) (as:uJ),vs=[.ref l,.int c]/\TlAt K H l as/\as.length<=12 /\
 ∀(t:Addr) (su:uL) (H':Hp),Same H H'->SetT K H' t as.length su->Q (.ref t) H'
def Uo(K:As):Sp:=λvs H Q _=>∃(l:Addr) (z:Nat) (a b c:Int) (as:uJ),vs=[.ref l,.int a,.int b,.int c]/\TlAt K H l as/\OkTies (z:Int) as/\as.length<=12 /\
 (∀H',Same H H'->Q .non H')/\∀(t:Addr) (su:uL) (H':Hp),Same H H'->SetT K H' t as.length su->Q (.ref t) H'
def AHD{sm:uL}(nd:sm.Nodup)(lt:∀x∈sm,x<n)(pm:ms.Perm (up sm))(so:ms.Pairwise (·<=·)):∃su:uL,ms=up su/\su.Pairwise (· < ·)/\∀x∈su,x<n:=by
 have mem:∀x∈ms,∃k∈sm,x=(k:Int):=λx hx=>by
  obtain⟨k,hk,e⟩:=A7.mp (pm.mem_iff.mp hx);exact⟨k,hk,e.symm⟩
 have e:ms=up (ms.map Fh):=by
  unfold up;rw[G0]
  conv=>lhs;rw[<- List.map_id ms]
  refine Hn λx hx=>?_;obtain⟨k,_,rfl⟩:=mem x hx;rfl
 refine⟨ms.map Fh,e,?_,λx hx=>?_⟩
 .have nd2:=pm.nodup_iff.mpr (by
   unfold up LN;rw[C0];exact Zl (λh e=>h (MA e)) nd)
  rw[C0];refine EQ (λ{a b} ha hb h=>?_) (List.pairwise_and_iff.mpr ⟨so,nd2⟩);obtain⟨i,_,rfl⟩:=mem a ha;obtain⟨j,_,rfl⟩:=mem b hb;obtain⟨h1,h2⟩:=h;have h2:=h2;lia
 .obtain⟨y,hy,rfl⟩:=A7.mp hx
  obtain⟨k,hk,rfl⟩:=mem y hy;exact lt k hk
def AFV:FnScope zl20 zl20 (Ae YT):=fscp (by decide+kernel)
def AAx(F:Fun K "_law_bits" "_law_bits" YT f fd)(T:Txt K mg C):FnOk P w K mg base CX0 1 f fd zl20 (Yj K):=by
 refine F.ok AFV (λvs H Q E h=>?_) (λa7 A outer s H vs Q E hr h=>?_)
 .obtain⟨l,c,as,rfl,_⟩:=h
  rfl
 obtain⟨l,c,as,rfl,⟨xs,hl,pl⟩,a12,q⟩:=h;have lx:=AY pl;refine⟨_,Ag (Ao (BX CT rfl T.tuple De (Aa (Bp (Ae YT) ["_law_k"] ["_law_cell"] [1] rfl rfl (by decide+kernel) ⟨⟨rfl,by decide+kernel⟩,trivial⟩ (Cq rfl T.range (Aa (Ax Av rfl T.len CI (Aa (pv 0) Ac)) Ac))
   (λ_ _ _=>BJ (i:=0))
   (λ_ _ _=>Br (Am Cp (Ar AGd (Ar AGR (pv 1) (pv 0)) Af) Af))
   (λ_ _ _=>pv 0)) Ac))),?_⟩
 refine⟨_,rfl,l,xs,rfl,.inl hl,_,rfl,by lia,by lia,λZ hZ=>?_⟩;refine Cg (lo:=0) (n:=((xs.length:Nat):Int).toNat) (λj τ H2=>∃(o:Option V) (su:uL),τ=[o,uA (.int c)]/\Same H H2/\H2 Z=uA (.lst (nI su))/\su.Pairwise (· < ·)/\(∀x∈su,x<j)) ⟨uB,[],rfl,uw hZ _,Ab,.nil,λx hx=>by cases hx⟩ ?_ ?_
 .rintro j τ H2 hj ⟨o,su,rfl,s2,eZ,pw,lt⟩
  have ej:(0:Int)+j=(j:Int):=vc;rw[ej];rw[Cn] at hj;have sl:=K31s.JM pw lt;refine⟨_,rfl,_,rfl,_,_,rfl,rfl,fv,_,_,rfl,rfl,rfl,_,rfl,ite2 (λ_=>?_) (λ_=>?_)⟩
  .refine⟨_,rfl,_,eZ,Az (by rw[DQ];lia),_,su++[j],rfl,λb o e=>?_,?_,?_,λx hx=>?_⟩
   .rw[Ah (Ai e hZ)]
    exact s2 b o e
   .rw[Ab,JG]
   .exact C9.mpr ⟨pw,Jn ..,λx hx y hy=>by rw[B2.mp hy];exact lt x hx⟩
   .rcases Co.mp hx with h| h
    .have:=lt x h;exact uW this
    .rw[B2.mp h];exact Fk _
  .exact⟨_,su,rfl,s2,eZ,pw,λx hx=>Ki (lt x hx)⟩
 .rintro τ H2 ⟨o,su,rfl,s2,eZ,pw,lt⟩
  rw[Cn,<- lx] at lt;refine⟨Z,_,rfl,.inl ⟨uj eZ,λt ht=>?_⟩⟩;exact q t su _ (s2.trans (uw ht _)) ⟨uk (by rw[Ab,Ls]),pw,lt⟩
noncomputable abbrev wkN:uU:=["_law_rows_here","_law_begin","_law_end","_law_cell","_law_here","_law_seen","_law_some","_law_turn","_law_steps","_law_k","_law_row"]
def Cz:FnScope wkN ["_law_rows_here","_law_begin","_law_end","_law_cell"] (Ae QW):=fscp (by decide+kernel)
def AAp(F:Fun K "_law_walked" "_law_walked" QW f fd)(T:Txt K mg C):FnOk P w K mg base CX0 1 f fd zl36 (Uo K):=by
 refine F.ok Cz (λvs H Q E h=>?_) (λa7 A outer s H vs Q E hr h=>?_)
 .obtain⟨l,z,a,b,c,as,rfl,_⟩:=h
  rfl
 obtain⟨l,z,a,b,c,as,rfl,hT,ok,a12,qN,q⟩:=h;refine⟨_,Ad (Ak (i:=4) Cz.nd (pv 1))
  (Ad (Ak (i:=5) Cz.nd (Cu (Aa (pv 1) Ac)))
  (Ad (Ak (i:=6) Cz.nd (Cu Ac))
  (Ad (Cv CY rfl (Cq rfl T.range (Aa Af Ac)) (BP (i:=7) Cz.nd)
   (Ad (Ak (i:=8) Cz.nd (Cu Ac))
   (Ad (Cv CY rfl (GD rfl T.enum (Aa (pv 0) Ac)) (Iv rfl (BW (BP (i:=9) Cz.nd) (BW (BP (i:=10) Cz.nd) DK)))
    (Ag (Bl (ud (Ir (Am Fx (pv 4) (pv 10) rfl) (Gm (Am JR (Ar Em (Ar Bv (Ay Bc (pv 10) Af) (Ay Bc (pv 10) Af)) (pv 4)) (pv 5) rfl))))
     (Ag (Ck (Ih Do EN EO Dd (pv 8) (Aa (pv 9) Ac)))) BK)))
   (Ag (Bl (ud (Ir (Am Jf (pv 4) (pv 2)) (Gm (Am (Rr DX (CN hr)) (pv 8) (Cu Ac) rfl))))
    (Ad (Ak (i:=9) Cz.nd (Ay Bm (pv 8) (Ar Bu (pv 3) (Ax Av rfl T.len CI (Aa (pv 8) Ac)))))
    (Ad (Ak (i:=3) Cz.nd (Ar Et (pv 3) (Ax Av rfl T.len CI (Aa (pv 8) Ac))))
    (Ad (Ak (i:=4) Cz.nd (Ar Em (Ar Bv (Ay Bc (Ay Bm (pv 0) (pv 9)) Af) (Ay Bc (Ay Bm (pv 0) (pv 9)) Af)) (pv 4)))
    (Ad (Ck (Ih Do EN EO Dd (pv 5) (Aa (pv 4) Ac)))
    (Ag (Ck (Ih Do EN EO Dd (pv 6) (Aa (pv 9) Ac)))))))) BK)))))
  (Ad (Bl (Am Jf (pv 4) (pv 2)) (Ag (Ao Ft)) BK)
  (Ag (Ao (BX CT rfl T.tuple De (Aa (Ax KN rfl T.sorted LH (Aa (pv 6) Ac)) Ac)))))))),?_⟩
 obtain⟨xs,hl,pl⟩:=id hT;have lx:=AY pl;have row:∀{k:Nat},k<as.length->∃x y:Int,as[k]?=uA [x,y]/\∀{H':Hp},Same H H'->∃tq,xs[k]?=uA (.ref tq)/\SqT K H' tq [.int x,.int y]:=λ{k} kl=>by
  obtain⟨x,y,e,_⟩:=BZ ok kl;obtain⟨v,hv,rv⟩:=ug pl e;obtain⟨tq,rfl,eQ⟩:=CG rv;exact⟨x,y,e,λs=>⟨tq,hv,s.ts.seq eQ⟩⟩
 refine⟨_,rfl,_,rfl,(by show 1<=sizeLine;decide),λS0 hS0=>⟨By _,λM0 tw=>?_⟩⟩;have s1:=(uw hS0 (.lst [V.int a])).trans (uw tw (.lst []));have eS1:(upd (upd H S0 (.lst [V.int a])) M0 (.lst [])) S0=uA (.lst (([a]:uI).map V.int)):=(uw tw _) _ _ Ab;have eM1:(upd (upd H S0 (.lst [V.int a])) M0 (.lst [])) M0=uA (.lst (nI [])):=Ab;have SM:S0≠M0:=λe=>by rw[<- e,Ab] at tw;cases tw
 have hM0':=(uw hS0 _).free tw;generalize upd (upd H S0 (.lst [V.int a])) M0 (.lst [])=H1 at s1 eS1 eM1;refine⟨_,rfl,by decide,by decide,?_⟩;refine Jw (lo:=0) (n:=(9:Int).toNat) (λi σ H2=>∃(o7 o8 o9 o10:Option V) (h cc:Int) (seen:uI) (sm:uL),σ=[uA (.ref l),uA (.int a),uA (.int b),uA (.int cc),uA (.int h),uA (.ref S0),uA (.ref M0),o7,o8,o9,o10]/\Same H H2/\H2 S0=uA (.lst (seen.map V.int))/\H2 M0=uA (.lst (nI sm))/\seen.length<=i+1/\sm.length<=i/\h∈seen/\sm.Nodup/\∀k∈sm,k<as.length/\∀t,as[k]?=uA t->∀x∈t,x∈seen)
  ⟨uB,uB,uB,uB,a,c,[a],[],rfl,s1,eS1,eM1,AF _,AF _,by simp,LM,λk hk=>by cases hk⟩ ?_ ?_
 .rintro i σ H2 hi ⟨o7,o8,o9,o10,h,cc,seen,sm,rfl,s2,eS,eM,sl,ml,hs,nd,hk⟩
  have hi:=hi;refine⟨By _,λZ hZ=>?_⟩;have s3:=uw hZ (.lst []);have SZ:=Ai eS hZ;have MZ:=Ai eM hZ;refine⟨_,rfl,l,rfl,⟨_,(s2.trans s3).seq hl⟩,?_⟩;refine Lx (xs:=xs) (λj σ H3=>∃(o9 o10:Option V) (ks:uL),σ=[uA (.ref l),uA (.int a),uA (.int b),uA (.int cc),uA (.int h),uA (.ref S0),uA (.ref M0),uA (.int (0+(i:Int))),uA (.ref Z),o9,o10]/\Same H2 H3/\H3 Z=uA (.lst (nI ks))/\ks.length<=j/\∀k∈ks,∃x y:Int,as[k]?=uA [x,y]/\h∈[x,y]/\x+y-h∉seen)
   ⟨_,_,[],rfl,s3,Ab,AF _,λk hk=>by cases hk⟩ (by rintro j σ H3 _ ⟨_,_,_,_,sm,_⟩;exact(s2.trans sm).seq hl) ?_ ?_
  .rintro j v σ H3 T1 hv dL ⟨o9,o10,ks,rfl,s3,eZ,kl,kp⟩
   have jl:j<as.length:=by rw[lx];exact(AG.mp hv).1
   obtain⟨x,y,e,at_⟩:=row jl;have sT:Same H3 (upd H3 T1 (.tup [.int j,v])):=uw dL _;have eT:(upd H3 T1 (.tup [.int j,v])) T1=uA (.tup [.int j,v]):=Ab;generalize upd H3 T1 (.tup [.int j,v])=H4 at sT eT;have dQ:=s3.trans sT;obtain⟨tq,e2,eQ⟩:=at_ (s2.trans dQ);cases hv.symm.trans e2;have eS4:=dQ _ _ eS;have e8:=sT _ _ eZ;have go:∃(o9 o10:Option V) (ks:uL),[uA (V.ref l),uA (.int a),uA (.int b),uA (.int cc),uA (.int h),uA (.ref S0),uA (.ref M0),uA (.int (0+(i:Int))),uA (.ref Z),uA (.int (j:Int)),uA (.ref tq)]=[uA (.ref l),uA (.int a),uA (.int b),uA (.int cc),uA (.int h),uA (.ref S0),uA (.ref M0),uA (.int (0+(i:Int))),uA (.ref Z),o9,o10]/\Same H2 H4/\H4 Z=uA (.lst (nI ks))/\ks.length<=j+1/\∀k∈ks,∃x y:Int,as[k]?=uA [x,y]/\h∈[x,y]/\x+y-h∉seen:=⟨_,_,ks,rfl,dQ,e8,u4 kl,kp⟩;refine⟨T1,_,rfl,uk eT,rfl,_,_,rfl,_,_,rfl,rfl,?_⟩;refine⟨_,rfl,_,rfl,tq,_,rfl,.inr eQ,rfl,rfl,_,rfl,?_⟩;rw[uC (show ¬ (false=true) by decide),show inV (V.int h) [V.int x,V.int y]=decide (h∈[x,y]) from CZ h [x,y]];by_cases c1:h∈[x,y]
   .refine iteP c1 ?_
    refine⟨_,rfl,tq,_,_,_,rfl,rfl,eQ,at0,_,rfl,tq,_,_,_,rfl,rfl,eQ,at1,_,_,rfl,rfl,_,rfl,_,_,rfl,rfl,_,rfl,S0,_,rfl,.inl (uj eS4),rfl,K31s.Dj _,_,rfl,?_⟩;rw[uD rfl,CZ];by_cases c2:x+y-h∈seen
    .exact iteNP c2 go
    .refine iteNN c2 ⟨_,rfl,.inl ⟨rfl,_,uj e8⟩,_,rfl,Z,nI ks,_,rfl,rfl,e8,Az (by rw[DQ];lia),_,_,ks++[j],rfl,λb o e=>?_,?_,by rw[BF];show _+1<=_;lia,λk hk=>?_⟩
     .rw[Ah (Ai e hZ)]
      exact dQ b o e
     .rw[Ab,JG]
     .rcases Co.mp hk with h| h
      .exact kp k h
      .rw[B2.mp h];exact⟨x,y,e,c1,c2⟩
   .exact iteN c1 (iteF go)
  rintro σ H3 ⟨o9,o10,ks,rfl,s3,eZ,kl,kp⟩;have g7:=s2.trans s3;have kX:=s3 _ _ eS;have eM3:=s3 _ _ eM;have stay:∀{o9 o10:Option V} (H4:Hp),Same H3 H4->∃(o7 o8 o9' o10':Option V) (h' cc':Int) (seen:uI) (sm:uL),[uA (V.ref l),uA (.int a),uA (.int b),uA (.int cc),uA (.int h),uA (.ref S0),uA (.ref M0),uA (.int (0+(i:Int))),uA (.ref Z),o9,o10]=[uA (.ref l),uA (.int a),uA (.int b),uA (.int cc'),uA (.int h'),uA (.ref S0),uA (.ref M0),o7,o8,o9',o10']/\Same H H4/\H4 S0=uA (.lst (seen.map V.int))/\H4 M0=uA (.lst (nI sm))/\seen.length<=(i+1)+1/\sm.length<=i+1/\h'∈seen/\sm.Nodup/\∀k∈sm,k<as.length/\∀t,as[k]?=uA t->∀x∈t,x∈seen:=λH4 s4=>⟨_,_,_,_,h,cc,seen,sm,rfl,g7.trans s4,s4 _ _ kX,s4 _ _ eM3,u4 sl,u4 ml,hs,nd,hk⟩;refine⟨_,rfl,_,rfl,rfl,_,rfl,?_⟩;refine ite2 (λ_=>?_) (λ_=>iteF (stay H3 (um _)));refine⟨_,rfl,By _,λO1 md=>?_⟩;have sO:=uw md (.lst []);have eO:(upd H3 O1 (.lst [])) O1=uA (.lst []):=Ab;have e8:=sO _ _ eZ;have dQ:=s3.trans sO;have st4:=λ{o9 o10:Option V}=>stay (o9:=o9) (o10:=o10) _ sO;generalize upd H3 O1 (.lst [])=H4 at sO eO e8 dQ st4;refine⟨up ks,[],⟨Z,_,rfl,uj e8,by rw[<- Ls];exact paired_ints _⟩,⟨O1,_,rfl,uj eO,.nil⟩,_,rfl,?_⟩;by_cases c0:ks=[]
  .exact iteNP (by rw[c0];rfl) st4
  refine iteNN (λe=>c0 (HH.mp e)) ?_;have kn:=IX.mpr c0;have zp:(0:Int)<(((nI ks).length:Nat):Int):=by rw[DQ];exact xT kn
  have m0:=EC cc (show(((nI ks).length:Nat):Int)≠0 from wF zp);have m1:=DB cc zp;obtain⟨m,em⟩:=FH m0;have ml':m<ks.length:=by rw[DQ] at em m1;exact wm m1 em
  obtain⟨k,ek⟩:∃k,ks[m]?=uA k:=⟨_,AI ml'⟩;have atk:atI (nI ks) (cc%(((nI ks).length:Nat):Int))=uA (.int (k:Int)):=by
   rw[em];exact Bk (by unfold nI;rw[AU,ek];rfl)
  refine⟨_,rfl,_,rfl,_,rfl,Z,_,rfl,.inl (uj e8),_,_,rfl,rfl,zp,Z,_,_,_,rfl,rfl,uj e8,atk,?_⟩;refine⟨_,rfl,_,rfl,Z,_,rfl,.inl (uj e8),_,_,rfl,rfl,⟨zp,by rw[DQ];lia⟩,?_⟩;obtain⟨x,y,e,hm,hn⟩:=kp k (AT ek);have rB:=(AG.mp e).1;obtain⟨x',y',e',at_⟩:=row rB;cases e.symm.trans e';obtain⟨tq,hv,eQ⟩:=at_ (s2.trans dQ);have qS:=(s2.trans dQ).seq hl;have av:=Bk hv;refine⟨_,rfl,_,rfl,l,xs,_,_,rfl,rfl,qS,av,tq,_,_,_,rfl,rfl,eQ,at0,_,rfl,_,rfl,l,xs,_,_,rfl,rfl,qS,av,tq,_,_,_,rfl,rfl,eQ,at1,_,_,rfl,rfl,_,rfl,_,_,rfl,rfl,?_⟩;have eS4:=dQ _ _ eS;refine⟨_,rfl,.inl ⟨rfl,_,uj eS4⟩,_,rfl,S0,_,_,rfl,rfl,eS4,Az (by rw[AB];lia),?_⟩;have eM5:(upd H4 S0 (.lst (seen.map V.int++[V.int (x+y-h)]))) M0=uA (.lst (nI sm)):=by rw[Ah (Bi SM)];exact dQ _ _ eM
  refine⟨_,rfl,.inl ⟨rfl,_,uj eM5⟩,_,rfl,M0,_,_,rfl,rfl,eM5,Az (by rw[DQ];lia),?_⟩;have nk:k∉sm:=λh'=>hn ((hk k h').2 _ e _ (by simp only[AW,Da,or_false] at hm ⊢;lia));refine⟨uA (.int (0+(i:Int))),uA (.ref Z),uA (.int (k:Int)),o10,x+y-h,cc / (((nI ks).length:Nat):Int),seen++[x+y-h],sm++[k],rfl,λb o e=>?_,?_,?_,by rw[BF];show _+1<=_;exact vD sl,by rw[BF];show _+1<=_;exact vD ml,by simp,?_,λk' a6=>?_⟩
  .rw[Ah (Ai e hM0'),Ah (Ai e hS0)]
   exact dQ _ _ (s2 b o e)
  .rw[Ah SM,Ab,BG]
   rfl
  .rw[Ab,JG]
  .exact L7.mpr ⟨nd,DM.mpr ⟨Da,LM⟩,λp hp q hq e=>nk (by rw[<- B2.mp hq,<- e];exact hp)⟩
  .rcases Co.mp a6 with h' | h'
   .exact⟨(hk k' h').1,λt ht x hx=>Ev _ ((hk k' h').2 t ht x hx)⟩
   .rw[B2.mp h']
    refine⟨rB,λt ht u hu=>?_⟩;cases e.symm.trans ht;simp only[AW,Da,or_false] at hm hu;by_cases c:u=h
    .exact Ev _ (c ▸ hs)
    .exact Ct _ (B2.mpr (by lia))
 .rintro σ H2 ⟨o7,o8,o9,o10,h,cc,seen,sm,rfl,s2,eS,eM,sl,ml,hs,nd,hk⟩
  have ml:=ml;refine⟨_,rfl,_,rfl,rfl,_,rfl,ite2 (λ_=>qN _ s2) (λ_=>?_)⟩;refine⟨_,rfl,M0,up sm,rfl,.inl (uj (by rw[Ls];exact eM)),by rw[Ma];lia,λl5 ms hl5 pm so=>⟨l5,_,rfl,.inl ⟨uj Ab,λt ht=>?_⟩⟩⟩;obtain⟨su,rfl,pw,lt⟩:=AHD nd (λx hx=>(hk x hx).1) pm so;exact q t su _ (s2.trans ((uw hl5 _).trans (uw ht _))) ⟨uk Ab,pw,lt⟩
end K31
namespace G
theorem Pn{n:Nat}:∀{s u:uL},s.Pairwise (· < ·)->u.Pairwise (· < ·)->(∀x∈s,x<n)->(∀x∈u,x<n)->num n s<num n u->∃m,m∈u/\m∉s/\∀x,x<m->(x∈s↔x∈u)
 | s,[],_,_,_,_,h=>uH h (K4 _)
 | [],b::u,_,pu,_,_,_=>⟨b,AJ ..,Da,λx hx=>⟨λh=>(by cases h),λh=>by
   rcases AW.mp h with h| h
   ·lia
   .have:=(Cs.mp pu).1 x h;lia⟩⟩
 | a::s,b::u,ps,pu,ls,lu,h=>by
  obtain⟨sa,ps'⟩:=Cs.mp ps;obtain⟨ub,pu'⟩:=Cs.mp pu;rcases L5 a b with c| c| c
  .have l:=Qc (n:=n) (s:=b::u) (t:=a+1) pu λx hx=>⟨by
    rcases AW.mp hx with h| h
    ·lia
    .have:=ub x h;lia,lu x hx⟩
   have e:n-(a+1)=n-1-a:=vV;rw[e] at l;have h:2 ^ (n-1-a)+num n s<num n (b::u):=h;lia
  .subst c
   have h:=h;obtain⟨m,hm,nm,nc⟩:=Pn ps' pu' (λx hx=>ls x (AK _ hx)) (λx hx=>lu x (AK _ hx)) (Nat.lt_of_add_lt_add_left h);have am:=ub m hm;refine⟨m,AK _ hm,λh=>?_,λx hx=>?_⟩
   .rcases AW.mp h with h| h
    ·lia
    .exact nm h
   .rw[AW,AW,nc x hx]
  .have nb:∀x,x<=b->x∉a::s:=λx hx h=>by
    rcases AW.mp h with h| h
    ·lia
    .have:=sa x h;lia
   refine⟨b,AJ ..,nb b (AF _),λx hx=>⟨λh=>uH h (nb x (C1 hx)),λh=>?_⟩⟩;rcases AW.mp h with h| h
   ·lia
   .have:=ub x h;lia
noncomputable def apart(s u:uL):uL:=(s.filter λk=>!decide (k∈u))++u.filter λk=>!decide (k∈s)
def Oq{s u:uL}{k:Nat}:k∈apart s u↔((k∈s/\k∉u)\/(k∈u/\k∉s)):=by
 unfold apart;rw[Co,BO,BO];simp
def ZF{s u:uL}(ps:s.Pairwise (· < ·))(pu:u.Pairwise (· < ·))(ls:∀x∈s,x<n)(lu:∀x∈u,x<n)(h:num n s<num n u):apart s u≠[]/\∀m,m∈apart s u->(∀a∈apart s u,m<=a)->m∉s:=by
 obtain⟨k,ku,ks,nc⟩:=Pn ps pu ls lu h;have hk:=Oq.mpr (.inr ⟨ku,ks⟩);refine⟨λe=>(by rw[e] at hk;cases hk),λm hm le=>?_⟩;have:=le k hk;by_cases c:m=k
 .rw[c];exact ks
 .have i:=nc m (vK this c)
  rcases Oq.mp hm with⟨h1,h2⟩| ⟨h1,h2⟩
  .exact uH (i.mp h1) h2
  .exact h2
end G
namespace L2
open PySem PySem.Spec PyProof.Rows
def Izip(S1 S2:Hp->List V->Prop):It :=
 ⟨λi H=>∃xs ys x y,S1 H xs/\S2 H ys/\xs[i]?=uA x/\ys[i]?=uA y,
  λi H v H'=>∃T x y,v=.ref T/\H T=uB/\H'=upd H T (.tup [x,y])/\(∀xs,S1 H xs->xs[i]?=uA x)/\∀ys,S2 H ys->ys[i]?=uA y,
  λi H=>∃xs ys,S1 H xs/\S2 H ys/\(xs.length<=i\/ys.length<=i)⟩
structure ZipOwn(z TI TO i1 i2:Addr):Prop where
 TIz:TI≠z
 TOz:TO≠z
 i1z:i1≠z
 i2z:i2≠z
 TITO:TI≠TO
 TIi1:TI≠i1
 TIi2:TI≠i2
 TOi1:TO≠i1
 TOi2:TO≠i2
 i12:i1≠i2
def AEc(n:Nat):ZipOwn (n+4) (n+2) (n+3) n (n+1):=⟨λe=>uH (show n+2=n+4 from e) (by lia),λe=>uH (show n+3=n+4 from e) (by lia),λe=>uH (show n=n+4 from e) (by lia),λe=>uH (show n+1=n+4 from e) (by lia),λe=>uH (show n+2=n+3 from e) (by lia),
 λe=>uH (show n+2=n from e) (by lia),λe=>uH (show n+2=n+1 from e) (by lia),λe=>uH (show n+3=n from e) (by lia),λe=>uH (show n+3=n+1 from e) (by lia),λe=>uH (show n=n+1 from e) (by lia)⟩
def zipTn(z TI TO i1 i2 l1 l2:Addr)(i:Nat)(h:Heap):Prop:=IsZip h z TI TO .none/\IsPair h TI (.ref i1) (.ref i2)/\(∃a b,IsPair h TO a b)/\h.IsListIter i1 l1 i/\h.IsListIter i2 l2 i
def PB{z TI TO:Addr}{xs ys:Array AA}(O:ZipOwn z TI TO i1 i2)(st:zipTn z TI TO i1 i2 l1 l2 i h)(h1:h.IsList l1 xs)(h2:h.IsList l2 ys):ZipApart z TI TO i1 i2 l1 l2:=by
 obtain⟨hz,h8,⟨a,b,g6⟩,⟨o1,e1,c1,_⟩,⟨o2,e2,c2,_⟩⟩:=st;obtain⟨u1,f1,d1,_⟩:=h1;obtain⟨u2,f2,d2,_⟩:=h2;refine⟨O.TIz,O.TOz,O.i1z,O.i2z,O.TITO,O.TIi1,O.TIi2,O.TOi1,O.TOi2,O.i12,?_,?_,?_,?_,?_,?_,?_,?_⟩
 .exact En f1 hz (by rw[d1];show C3 "list"≠C3 "zip";decide)
 .exact En f1 g6 (by rw[d1];show C3 "list"≠C3 "tuple";decide)
 .exact En f1 e1 (by rw[d1,c1];decide)
 .exact En f1 e2 (by rw[d1,c2];decide)
 .exact En f2 hz (by rw[d2];show C3 "list"≠C3 "zip";decide)
 .exact En f2 g6 (by rw[d2];show C3 "list"≠C3 "tuple";decide)
 .exact En f2 e1 (by rw[d2,c1];decide)
 .exact En f2 e2 (by rw[d2,c2];decide)
def ADT{k:Nat}{z TI TO:Addr}(O:ZipOwn z TI TO i1 i2) :
  Turn P w K (.Tuple ci k tp) (Izip (λH xs=>SqL K H l1 xs) (λH xs=>SqL K H l2 xs)) [z,TI,TO,i1,i2] z (zipTn z TI TO i1 i2 l1 l2) where
 mem:=by simp
 obj:=λi h st b hb=>by
  obtain⟨hz,h8,⟨a,c,g6⟩,⟨o1,e1,c1,d1⟩,⟨o2,e2,c2,d2⟩⟩:=st;simp only[AW,Da,or_false] at hb;rcases hb with rfl| rfl| rfl| rfl| rfl
  .exact⟨_,hz,λv q=>by have q':Data.fields _=Wl v:=q;cases q'⟩
  .exact⟨_,h8,λv q=>by have q':UE _ _=Wl v:=q;cases q'⟩
  .exact⟨_,g6,λv q=>by have q':UE _ _=Wl v:=q;cases q'⟩
  .exact⟨_,e1,λv q=>by rw[d1] at q;cases q⟩
  .exact⟨_,e2,λv q=>by rw[d2] at q;cases q⟩
 keep:=λi h h' st kp=>by
  obtain⟨hz,h8,⟨a,c,g6⟩,h1,h2⟩:=st;exact⟨kp z (by simp) _ hz,kp TI (by simp) _ h8,⟨a,c,kp TO (by simp) _ g6⟩,h1.at λo e=>kp i1 (by simp) o e,h2.at λo e=>kp i2 (by simp) o e⟩
 item:=by
  intro X hP hw hK hc i aa s σ H E I hf st hg;obtain⟨xs,ys,x,y,kT,qU,hx,hy⟩:=hg;subst hP hw hK;obtain⟨ag,rv,pl,_⟩:=I.list kT;obtain⟨db,rv2,p8,_⟩:=I.list qU;obtain⟨u,hu,ru⟩:=rv.get hx;obtain⟨u2,hu2,ru2⟩:=rv2.get hy;have kx:ag.toArray[i]?=uA u:=by simpa using hu
  have hu2':db.toArray[i]?=uA u2:=by simpa using hu2
  have D:=PB O st pl.isList p8.isList;obtain⟨hz,h8,⟨a,c,g6⟩,h1,h2⟩:=st;refine wpAny_pyNext_zip_item D hz h8 g6 h1 h2 pl.isList p8.isList kx hu2' λh' sR hTO' h1' h7 hT' hsz kp=>⟨.ref s.heap.objs.size,rfl,?_⟩;have lt:∀b∈[z,TI,TO,i1,i2],b≠s.heap.objs.size:=λb hb=>by
   have:∃o,s.heap.get? b=uA o:=by
    simp only[AW,Da,or_false] at hb;rcases hb with rfl| rfl| rfl| rfl| rfl
    .exact⟨_,hz⟩
    .exact⟨_,h8⟩
    .exact⟨_,g6⟩
    .obtain⟨o,e,_⟩:=h1;exact⟨_,e⟩
    .obtain⟨o,e,_⟩:=h2;exact⟨_,e⟩
   obtain⟨o,e⟩:=this;exact BY (BH e)
  have hTI':IsPair h' TI (.ref i1) (.ref i2):=kp _ _ O.TIz O.TITO O.TIi1 O.TIi2 h8;have I1:Inv X aa σ H {s with heap:=h',toks:=s.toks}:=I.walked (wr:=[z,TI,TO,i1,i2]) (λb o nb e=>kp b o (λq=>nb (by rw[q];simp)) (λq=>nb (by rw[q];simp)) (λq=>nb (by rw[q];simp)) (λq=>nb (by rw[q];simp)) e) hf;have rV:H s.heap.objs.size=uB:=I.hok.fresh (AF _);have I2:Inv X aa σ (upd H s.heap.objs.size (.tup [x,y])) {s with heap:=h',toks:=s.toks}:=by
   refine I1.track (I.fpOk (AF _) rV) ⟨by show 2<=sizeLine;decide,[u,u2],.cons ru (.cons ru2 .nil),?_⟩;exact⟨_,hT',rfl,0,rfl⟩
  have hf2:∀b∈[z,TI,TO,i1,i2],FpOk X aa (upd H s.heap.objs.size (.tup [x,y])) b:=λb hb=>by
   obtain⟨f0,fr⟩:=hf b hb;exact⟨by rw[Ah (lt b hb)];exact f0,fr⟩
  refine wpAny_letOwnedTupleGo_zip (s:={s with heap:=h'}) sR λh'' hz'' hs=>?_;refine⟨.ref s.heap.objs.size,_,I2.walked (t':=s.toks) (wr:=[z,TI,TO,i1,i2]) (λb o nb e=>hs.extBut _ _ (λq=>nb (by rw[q];simp)) e) hf2,rfl,⟨_,x,y,rfl,rV,rfl,λzs hz=>?_,λzs hz=>?_⟩,⟨hz'',hs.extBut _ _ O.TIz hTI',⟨_,_,hs.extBut _ _ O.TOz hTO'⟩,h1'.at λo e=>hs.extBut _ o O.i1z e,h7.at λo e=>hs.extBut _ o O.i2z e⟩,λb hb=>(hf2 b hb).1⟩
  .rw[I.list_inj hz kT];exact hx
  .rw[I.list_inj hz qU];exact hy
 done:=by
  intro X hP hw hK hc i aa s σ H E I hf st hg;obtain⟨xs,ys,kT,qU,hx⟩:=hg;subst hP hw hK;obtain⟨ag,rv,pl,_⟩:=I.list kT;obtain⟨db,rv2,p8,_⟩:=I.list qU;have l1':=rv.length;have l2':=rv2.length;have D:=PB O st pl.isList p8.isList;obtain⟨hz,h8,⟨a,c,g6⟩,h1,h2⟩:=st;refine wpAny_pyNext_zip_end (I.ok.hd hc) D hz h8 g6 h1 h2 pl.isList p8.isList ?_ λh' kp=>⟨rfl,?_⟩
  .rcases hx with hx| hx
   .left
    rw[E3];rw[AV];exact uT l1' hx
   .right
    rw[E3];rw[AV];exact uT l2' hx
  .exact I.walked (t':=s.toks) (wr:=[z,TI,TO,i1,i2]) (λb o nb e=>kp b o (λq=>nb (by rw[q];simp)) (λq=>nb (by rw[q];simp)) (λq=>nb (by rw[q];simp)) (λq=>nb (by rw[q];simp)) e) hf
 self:=λA i s Q E st h=>UM st.1 h
section
variable{k:Nat}
def AIW(K:As)(ta:TA):TI:=λσ H R=>ta σ H λvs H1=>∃a b,vs=[.ref a,.ref b]/\(∃xs,SqL K H1 a xs)/\(∃ys,SqL K H1 b ys)/\R (Izip (λH xs=>SqL K H a xs) (λH xs=>SqL K H b xs)) H1
def AGl{l m:Expr}{ta:TA}{p:Pos}(hg:Gl X "zip")(hm:X.mg "zip" = uB)(ha:PA X [l,m] ta)(hs:autoParam (CC [l,m] X.env=(false,eval l X.env)::CC [m] X.env) zA0._auto_1)(eW:autoParam ((JO pos (CC [m] X.env)).any (·.1)=false) zA0._auto_1) :
  PI X (.Tuple ci k tp) (.Call (.Name "zip" p) [l,m] [] pos) (AIW X.K ta):=by
 intro aa s σ H R I h;refine US (FJ I hg hm boot_zip (DJ (thn (ha pos aa s σ H _ I h) λus s1 hq=>?_) hs eW));obtain⟨vs,H1,I1,r1,q1⟩:=hq;obtain⟨a,b,rfl,⟨xs,kT⟩,⟨ys,qU⟩,q⟩:=q1;obtain⟨u,v,rfl,ru,rv⟩:=r1.two;cases ru;cases rv;obtain⟨ag,_,pl,_⟩:=I1.list kT;obtain⟨db,_,p8,_⟩:=I1.list qU;refine call_zip_2 pl.isList p8.isList λh' hz h8 g6 h1 h2 hsz hk=>UM hz ?_;have I2:Inv X aa σ H1 {s1 with heap:=h'}:=I1.kept (t':=s1.toks) hk;refine⟨s1.heap.objs.size+4,[s1.heap.objs.size+4,s1.heap.objs.size+2,s1.heap.objs.size+3,s1.heap.objs.size,s1.heap.objs.size+1],_,_,H1,rfl,I2,ADT (AEc _),⟨hz,h8,⟨_,_,g6⟩,h1,h2⟩,λb hb=>?_,q⟩;have e:s1.heap.objs.size<=b:=by
  simp only[AW,Da,or_false] at hb;rcases hb with rfl| rfl| rfl| rfl| rfl
  .exact HI _ _
  .exact HI _ _
  .exact HI _ _
  .exact AF _
  .exact HI _ _
 exact I1.fpOk e (I1.hok.fresh e)
end
end L2
namespace K31
open PySem L2 G
def AEb{S1 S2:Hp->List V->Prop}{g:TG}{tb:TS}{D:Ends}(m:Nat)(hm1:m<=xs.length)(hm2:m<=ys.length)(g9:xs.length<=m\/ys.length<=m)(Pv:Nat->St->Hp->Prop)(h0:Pv 0 σ H)(du:∀i σ H,i<=m->Pv i σ H->S1 H xs)(gz:∀i σ H,i<=m->Pv i σ H->S2 H ys)
  (hs:∀i x y σ H T,xs[i]?=uA x->ys[i]?=uA y->H T=none->Pv i σ H->g (.ref T) σ (upd H T (.tup [x,y])) λσ2 H2=>tb {D with nx:=Pv (i+1),ct:=Pv (i+1),bk:=D.nx} σ2 H2) (hd:∀σ H,Pv m σ H->D.nx σ H) :
  ∃W:Nat->Nat->St->Hp->Prop,(∃m,W 0 m σ H)/\∀i m σ H,W i m σ H ->
   ((Izip S1 S2).stop i H/\D.nx σ H)\/((Izip S1 S2).go i H/\∃N:St->Hp->Prop,(∀σ' H',N σ' H'->∃m',m'<m/\W (i+1) m' σ' H')/\∀x H',(Izip S1 S2).yld i H x H'->g x σ H' λσ2 H2=>tb {D with nx:=N,ct:=N,bk:=D.nx} σ2 H2):=by
 refine ABR m Pv h0 (λi σ H hi p=>⟨xs,ys,xs[i]'(ux hi hm1),ys[i]'(ux hi hm2),du i σ H (C1 hi) p,gz i σ H (C1 hi) p,AI _,AI _⟩) (λσ H p=>⟨xs,ys,du _ σ H (AF _) p,gz _ σ H (AF _) p,g9⟩) (λi σ H x H' hi p y=>?_) hd;obtain⟨T,x,y,rfl,hT,rfl,y1,y2⟩:=y;exact hs i x y σ H T (y1 xs (du i σ _ (C1 hi) p)) (y2 ys (gz i σ _ (C1 hi) p)) hT p
def Hy(p:BN (rPair K H) (ss.map up) ys)(h:ys[i]?=uA v):∃s t,ss[i]?=uA s/\v=.ref t/\SqT K H t ((up s).map V.int):=by
 obtain⟨u,hu,rv⟩:=Paired.get p h;obtain⟨t,rfl,ht⟩:=CG rv;rw[AU] at hu;obtain⟨s,hs,rfl⟩:=J5.mp hu;exact⟨s,t,hs,rfl,ht⟩
def AHE(ys:List V):cutV ys (uA 1) uB=ys.drop 1:=by
 match ys with
 | []=>rfl
 | y::r =>
  have e1:HT.sIx (y::r).length 0 (uA 1)=1:=by
   unfold HT.sIx;simp
  show((y::r).drop (HT.sIx (y::r).length 0 (uA 1))).take ((y::r).length-HT.sIx (y::r).length 0 (uA 1))=_;rw[e1];exact Mn (MQ (FU ..))
def ACT(K:As):Sp:=λvs H Q _=>∃(l L:Addr) (z:Nat) (a b c k:Int) (as:uJ) (ss:List uL),vs=[.ref l,.int a,.int b,.ref L,.int c,.int k]/\TlAt K H l as/\OkTies (z:Int) as/\as.length<=12/\Told K H L ss/\(∀s∈ss,s.Pairwise (· < ·)/\∀x∈s,x<as.length) /\
 ∀(t:Addr) (su:uL) (H':Hp),Same H H'->SetT K H' t as.length su->Q (.ref t) H'
def Yz(K:As):Sp:=λvs H Q _=>∃(L:Addr) (n:Nat) (ss:List uL),vs=[.ref L]/\Told K H L ss/\n<=12/\(∀s∈ss,s.Pairwise (· < ·)/\∀x∈s,x<n)/\ss.Pairwise (λs u=>num n s<num n u) /\
 ∀H',Same H H'->Q (.bl true) H'
noncomputable abbrev stN:uU:=["_law_rows_here","_law_begin","_law_end","_law_told","_law_cell","_law_k","_law_some"]
def ABr:FnScope stN ["_law_rows_here","_law_begin","_law_end","_law_told","_law_cell","_law_k"] (Ae ACQ):=fscp (by decide+kernel)
def ADs(F:Fun K "_law_set" "_law_set" ACQ f fd)(T:Txt K mg C)
  (GW:Cal P w K mg base 1 fW fdW "_law_walked" zl36 (Uo K))
  (GB:Cal P w K mg base 1 fB nz "_law_bits" zl20 (Yj K)) :
  FnOk P w K mg base CX0 2 f fd zl37 (ACT K):=by
 refine F.ok ABr (λvs H Q E h=>?_) (λa7 A outer s H vs Q E hr h=>?_)
 .obtain⟨l,L,z,a,b,c,k,as,ss,rfl,_⟩:=h
  rfl
 obtain⟨l,L,z,a,b,c,k,as,ss,rfl,hT,ok,a12,⟨ys,hL,pL⟩,sg,q⟩:=h;refine⟨_,JF (Bl (ud (Ir (Am Cp (Ar Bu (pv 5) Af) Af) (Gm (Am (Rr (Gp DX) (CN hr)) (pv 3) (Cu Ac) rfl))))
   (Ag (Ao (Ay Bm (pv 3) (Ar Bu (pv 4) (Ax Av rfl T.len CI (Aa (pv 3) Ac)))))) BK)
  (JF (Bl (Am Cp (Ar Bu (pv 5) Af) Af)
   (Ad (Ak (i:=6) ABr.nd (BL GW hr rfl (Aa (pv 0) (Aa (pv 1) (Aa (pv 2) (Aa (pv 4) Ac))))))
   (Ag (Bl (Am AFR (pv 6) Ft) (Ag (Ao (pv 6))) BK))) BK)
  (Ag (Ao (BL GB hr rfl (Aa (pv 0) (Aa (pv 4) Ac)))))),?_⟩
 refine⟨λσ H1=>σ=[uA (.ref l),uA (.int a),uA (.int b),uA (.ref L),uA (.int c),uA (.int k),uB]/\Same H H1,?_,?_⟩
 .refine⟨_,rfl,_,_,rfl,rfl,(by show(0:Int)<3;decide),rfl,_,rfl,?_⟩
  refine ite2 (λ_=>?_) (λ_=>iteF ⟨rfl,um _⟩);refine⟨_,rfl,By _,λO1 md=>?_⟩;have s1:=uw md (.lst []);have eO:(upd H O1 (.lst [])) O1=uA (.lst []):=Ab;generalize upd H O1 (.lst [])=H1 at s1 eO;have qt:=s1.seq hL;have pL1:=ut (λ_ _ r=>Aq Aw _ _ _ _ s1.ts r) pL;have lL:=AY pL;rw[AB] at lL;refine⟨_,_,⟨L,_,rfl,qt,pL1⟩,⟨O1,_,rfl,uj eO,.nil⟩,_,rfl,?_⟩;by_cases c0:ss.map up=[]
  .exact iteNP c0 ⟨rfl,s1⟩
  refine iteNN c0 ?_;have sp:0<ys.length:=by
   rw[<- lL];exact IX.mpr λe=>c0 (by rw[e];rfl)
  have zp:(0:Int)<((ys.length:Nat):Int):=xT sp;have m0:=EC c (show((ys.length:Nat):Int)≠0 by lia);have m1:=DB c zp;obtain⟨m,em⟩:=FH m0;have ml:m<ys.length:=wm m1 em;obtain⟨su,t,es,ev,ht⟩:=Hy pL1 (AI ml);have av:atI ys (c%((ys.length:Nat):Int))=uA (.ref t):=by
   rw[em];exact Bk (by rw[AI ml,ev])
  obtain⟨pw,lt⟩:=sg su (AT es);exact⟨_,rfl,_,rfl,_,rfl,L,_,rfl,.inl qt,_,_,rfl,rfl,zp,L,_,_,_,rfl,rfl,qt,av,q t su _ s1 ⟨ht,pw,lt⟩⟩
 rintro σ H1 ⟨rfl,s1⟩;refine⟨λσ H2=>∃o6:Option V,σ=[uA (.ref l),uA (.int a),uA (.int b),uA (.ref L),uA (.int c),uA (.int k),o6]/\Same H H2,?_,?_⟩
 .refine⟨_,rfl,_,_,rfl,rfl,(by show(0:Int)<3;decide),rfl,_,rfl,?_⟩
  refine ite2 (λ_=>?_) (λ_=>⟨uB,rfl,s1⟩);refine⟨_,rfl,_,rfl,_,rfl,_,rfl,l,z,a,b,c,as,rfl,hT.same s1,ok,a12,λH2 s2=>?_,λt su H2 s2 st=>?_⟩
  .exact⟨_,rfl,rfl,_,rfl,iteNP rfl ⟨_,rfl,s1.trans s2⟩⟩
  .exact⟨_,rfl,rfl,_,rfl,iteNN (λe=>by cases e) ⟨_,rfl,q t su H2 (s1.trans s2) st⟩⟩
 rintro σ H2 ⟨o6,rfl,s2⟩;exact⟨_,rfl,_,rfl,l,c,as,rfl,hT.same s2,a12,λt su H3 s3 st=>q t su H3 (s2.trans s3) st⟩
def tell{H3:Hp}{Z1 t':Addr}{sv:uL}(hZ1:H3 Z1=uB)(ul:su.length<=n)(l9:n<=12)(m3:∀H',Same H3 H'->SqT K H' t' ((up sv).map V.int))(j:Nat)(x:V)(τ:St)(H4:Hp)(hx:((up su).map V.int)[j]?=uA x)(h:∃o:Option V,τ=[o,uA (.ref t')]/\Same H3 H4/\H4 Z1=uA (.lst (nI ((su.take j).filter λk=>!decide (k∈sv))))) :
  gName 0 x τ H4 λτ2 H2=>AFl (tOp (rIn K true) (ACO 0) (ACO 1)) τ2 H2 (putD Z1 (λτ H4=>∃o:Option V,τ=[o,uA (.ref t')]/\Same H3 H4/\H4 Z1=uA (.lst (nI ((su.take (j+1)).filter λk=>!decide (k∈sv))))) (ACO 0) τ2):=by
 obtain⟨o,rfl,s4,eZ⟩:=h;rw[Ls] at hx;obtain⟨k,hk,rfl⟩:=RX hx;have lj:((su.take j).filter λk=>!decide (k∈sv)).length<=12:=BV (CS ..) (by rw[B4];lia);refine⟨_,rfl,_,rfl,t',_,rfl,.inr (m3 _ s4),rfl,K31s.Dj _,_,rfl,?_⟩;rw[uD rfl,CZ];have es:(su.take (j+1)).filter (λk=>!decide (k∈sv))=((su.take j).filter λk=>!decide (k∈sv))++if k∈sv then [] else [k]:=by
  rw[K31s.take_snoc hk,CM];by_cases c:k∈sv
  .rw[uD c,Dx (by rw[uE c];decide)];rfl
  .rw[uC c,DT (by rw[uF c];rfl)];rfl
 rw[es];by_cases c:k∈sv
 .refine iteNP (HN.mpr c) ⟨_,rfl,s4,?_⟩
  rw[uD c,Cc];exact eZ
 .refine iteNN (λh=>c (HN.mp h)) ⟨_,rfl,_,eZ,Az (by rw[DQ];exact we lj),_,rfl,λb o e=>?_,?_⟩
  .rw[Ah (Ai e hZ1)]
   exact s4 b o e
  .rw[Ab,uC c,JG]
def Kp:FnScope ["_law_told","_law_one","_law_other","_law_apart"] zl33 (Ae Gs):=fscp (by decide+kernel)
def ACZ(F:Fun K "_law_in_order" "_law_in_order" Gs f fd)(T:Txt K mg C)(hzip:mg "zip" = uB):FnOk P w K mg base CX0 1 f fd zl33 (Yz K):=by
 refine F.ok Kp (λvs H Q E h=>?_) (λa7 A outer s H vs Q E hr h=>?_)
 .obtain⟨L,n,ss,rfl,_⟩:=h
  rfl
 obtain⟨L,n,ss,rfl,⟨ys,hL,pL⟩,l9,sg,so,q⟩:=h;refine⟨_,Ad (Cv CY rfl (AGl rfl hzip (Aa (pv 0) (Aa (TX Ys (pv 0) (Qq Af) AFh) Ac))) (Iv rfl (BW (BP (i:=1) Kp.nd) (BW (BP (i:=2) Kp.nd) DK)))
   (Ad (Ak (i:=3) Kp.nd (Ar RW (Bp (Ae Gs) ["_law_k"] ["_law_other"] [2] rfl rfl (by decide+kernel) ⟨⟨rfl,by decide+kernel⟩,trivial⟩ (Qh (pv 1))
      (λ_ _ _=>BJ (i:=0)) (λ_ _ _=>Br (Am (Eb (K:=K) rfl) (pv 0) (pv 1) rfl)) (λ_ _ _=>pv 0))
     (Bp (Ae Gs) ["_law_k"] ["_law_one"] [1] rfl rfl (by decide+kernel) ⟨⟨rfl,by decide+kernel⟩,trivial⟩ (Qh (pv 2))
      (λ_ _ _=>BJ (i:=0)) (λ_ _ _=>Br (Am (Eb (K:=K) rfl) (pv 0) (pv 1) rfl)) (λ_ _ _=>pv 0))))
   (Ag (Bl (ud (Fd (Am (RP DX (CN hr)) (pv 3) (Cu Ac) rfl) (Ek (Am Fx (Ax (min_list rfl) rfl T.min MO (Aa (pv 3) Ac)) (pv 1) rfl)))) (Ag (Ao FZ)) BK))))
  (Ag (Ao FZ)),?_⟩
 have lL:=AY pL;rw[AB] at lL;refine⟨_,rfl,_,rfl,_,rfl,L,_,rfl,hL,λSl hSl=>?_⟩;rw[AHE];have s1:=uw hSl (.lst (ys.drop 1));have eS:(upd H Sl (.lst (ys.drop 1))) Sl=uA (.lst (ys.drop 1)):=Ab;generalize upd H Sl (.lst (ys.drop 1))=H1 at s1 eS;refine⟨L,Sl,rfl,⟨_,s1.seq hL⟩,⟨_,uj eS⟩,?_⟩;refine AEb (xs:=ys) (ys:=ys.drop 1) (ys.length-1) (YR _ _) (by rw[FU];exact AF _) (.inr (by rw[FU];exact AF _))
  (λi σ H2=>∃o1 o2 o3:Option V,σ=[uA (.ref L),o1,o2,o3]/\Same H1 H2) ⟨uB,uB,uB,rfl,um _⟩ (by rintro i σ H2 _ ⟨_,_,_,_,sm⟩;exact(s1.trans sm).seq hL) (by rintro i σ H2 _ ⟨_,_,_,_,sm⟩;exact uj (sm _ _ eS)) ?_ ?_
 .rintro i x y σ H2 T1 hx hy dL ⟨o1,o2,o3,rfl,s2⟩
  rw[N5] at hy;obtain⟨su,t,es,rfl,ht⟩:=Hy pL hx;obtain⟨sv,t',bn,rfl,m3⟩:=Hy pL hy;obtain⟨pu,lu⟩:=sg su (AT es);obtain⟨pv',lv⟩:=sg sv (AT bn);have nlt:num n su<num n sv:=by
   obtain⟨h1,e1⟩:=AG.mp es;obtain⟨h2,e2⟩:=AG.mp bn;have:=CL.mp so i (1+i) h1 h2 (by lia);rw[e1,e2] at this;exact this
  obtain⟨ne,mn⟩:=ZF pu pv' lu lv nlt;have ul:=K31s.JM pu lu;have vl:=K31s.JM pv' lv;have sT:Same H2 (upd H2 T1 (.tup [.ref t,.ref t'])):=uw dL _;have eT:(upd H2 T1 (.tup [.ref t,.ref t'])) T1=uA (.tup [.ref t,.ref t']):=Ab;generalize upd H2 T1 (.tup [.ref t,.ref t'])=H3 at sT eT;have s3:=s1.trans (s2.trans sT);refine⟨T1,_,rfl,uk eT,rfl,_,_,rfl,_,_,rfl,rfl,?_⟩;refine⟨_,rfl,t,rfl,⟨_,s3.ts.seq ht⟩,λZ1 hZ1=>?_⟩;refine Jj (K:=K) (a:=t) (xs:=(up su).map V.int) (λj τ H4=>∃o:Option V,τ=[o,uA (.ref t')]/\Same H3 H4/\H4 Z1=uA (.lst (nI ((su.take j).filter λk=>!decide (k∈sv))))) ⟨uB,rfl,uw hZ1 _,Ab⟩ (by rintro j τ H4 _ ⟨_,_,sm,_⟩;exact(s3.trans sm).ts.seq ht) (tell (K:=K) hZ1 ul l9 λH' s'=>(s3.trans s').ts.seq m3) ?_;rintro τ H4 ⟨o,rfl,s4,eZ1⟩;rw[AB,Ma,CU] at eZ1;have pV:=s3.trans s4;refine⟨_,rfl,t',rfl,⟨_,pV.ts.seq m3⟩,λZ2 hZ2=>?_⟩;refine Jj (K:=K) (a:=t') (xs:=(up sv).map V.int) (λj τ H5=>∃o:Option V,τ=[o,uA (.ref t)]/\Same H4 H5/\H5 Z2=uA (.lst (nI ((sv.take j).filter λk=>!decide (k∈su))))) ⟨uB,rfl,uw hZ2 _,Ab⟩ (by rintro j τ H5 _ ⟨_,_,sm,_⟩;exact(pV.trans sm).ts.seq m3) (tell (K:=K) hZ2 vl l9 λH' s'=>(pV.trans s').ts.seq ht) ?_;rintro τ H5 ⟨o',rfl,s5,eZ2⟩;rw[AB,Ma,CU] at eZ2;have f1:(su.filter λk=>!decide (k∈sv)).length<=12:=BV (CS ..) (vg ul l9);have f2:(sv.filter λk=>!decide (k∈su)).length<=12:=BV (CS ..) (vg vl l9);refine⟨Z1,Z2,_,_,rfl,rfl,uj (s5 _ _ eZ1),uj eZ2,by rw[DQ,DQ];exact C1 (Az (by lia)),λAp hAp=>?_⟩;have eAp:nI (su.filter λk=>!decide (k∈sv))++nI (sv.filter λk=>!decide (k∈su))=(up (apart su sv)).map V.int:=by
   rw[Ls];unfold apart nI;rw[BG]
  rw[eAp];have s6:=uw hAp (.lst ((up (apart su sv)).map V.int));have eA:(upd H5 Ap (.lst ((up (apart su sv)).map V.int))) Ap=uA (.lst ((up (apart su sv)).map V.int)):=Ab;have s6':=pV.trans (s5.trans s6);have s16:=s2.trans (sT.trans (s4.trans (s5.trans s6)));generalize upd H5 Ap (.lst ((up (apart su sv)).map V.int))=H6 at s6 eA s6' s16;refine⟨_,rfl,By _,λO1 md=>?_⟩;have s7:=uw md (.lst []);have eO:(upd H6 O1 (.lst [])) O1=uA (.lst []):=Ab;have eA7:=s7 _ _ eA;have s7':=s6'.trans s7;have s17:=s16.trans s7;generalize upd H6 O1 (.lst [])=H7 at s7 eO eA7 s7' s17;have neU:up (apart su sv)≠[]:=λe=>ne (HH.mp e);refine⟨up (apart su sv),[],⟨Ap,_,rfl,uj eA7,paired_ints _⟩,⟨O1,_,rfl,uj eO,.nil⟩,_,rfl,iteN neU ?_⟩;refine⟨_,rfl,Ap,up (apart su sv),rfl,uj eA7,IX.mpr neU,λm hm le=>?_⟩;refine⟨_,rfl,t,_,rfl,.inr (s7'.ts.seq ht),rfl,K31s.Dj _,_,rfl,?_⟩;rw[uC (show ¬ (false=true) by decide),CZ];obtain⟨k,hk,rfl⟩:=A7.mp hm;have nk:=mn k hk λa ha=>by have:=le (a:Int) (HN.mpr ha);lia
  exact iteN (λh=>nk (HN.mp h)) ⟨_,_,_,rfl,s17⟩
 .rintro σ H2 ⟨o1,o2,o3,rfl,s2⟩
  exact q H2 (s1.trans s2)
end K31
namespace K31s
open PySem L2 G
def AHq{s:uI}{i:Int}{v:Int}{Q:VK}(h:Sq K H p (s.map V.int))(e:atI (s.map V.int) i=uA (.int v))(q:Q (.int v) H):rIxA K (.ref p) (.int i) H Q :=
 h.elim (λz=>.inl ⟨p,_,i,_,rfl,rfl,z,e,q⟩) λz=>.inr ⟨p,_,i,_,rfl,rfl,z,e,q⟩
def meets(rows:List Row)(k:Nat)(s:uI):Bool:=hasW rows (k+1) k s
def Il{rows:List Row}(o:Ok n rows){f k:Nat}(h:k<f)(kn:Knot rows k)(s:uI):hasW rows f k s=meets rows k s:=by
 unfold meets;rw[Ex,Lz o f k s h kn,Lz o (k+1) k s (Fk k) kn]
def Zm{rows:List Row}{k:Nat}(h:k<=1)(s:uI):meets rows k s=decide (k=1/\s=[]):=by
 unfold meets hasW;rw[uD h]
def Zc{rows:List Row}(o:Ok n rows){k:Nat}(h:2<=k)(kn:Knot rows k):meets rows k []=meets rows (rows.getD (k-2) (0,0,0)).2.1 []:=by
 obtain⟨t1,z1,z2,r1,r2,n1,n2⟩:=o.low (BZ kn h);rw[<- Il o (f:=k) (va z1 h) n1];show hasW rows (k+1) k []=_
 conv=>lhs;unfold hasW
 rw[uC (vX h)]
def XD{rows:List Row}(o:Ok n rows){k:Nat}(h:2<=k)(kn:Knot rows k)(x:Int)(xs:uI):meets rows k (x::xs)=if x=((rows.getD (k-2) (0,0,0)).1:Int) then meets rows (rows.getD (k-2) (0,0,0)).2.2 xs else meets rows (rows.getD (k-2) (0,0,0)).2.1 (x::xs):=by
 obtain⟨t1,z1,z2,r1,r2,n1,n2⟩:=o.low (BZ kn h);rw[<- Il o (f:=k) (va z1 h) n1,<- Il o (f:=k) (va z2 h) n2];show hasW rows (k+1) k (x::xs)=_
 conv=>lhs;unfold hasW
 rw[uC (vX h)]
def ACV(K:As)(C:Addr):Sp:=λvs H Q _=>∃(p t:Addr) (n hd:Nat) (rows:List Row) (s:uI),vs=[.ref p,.ref t]/\SvAt K C H p n rows hd/\Ok n rows/\Knot rows hd/\Sq K H t (s.map V.int) /\
 ∀(H':Hp),Same H H'->Q (.bl (meets rows hd s)) H'
def Jz:FnScope ["sieve","some","rows","knot","met","row"] zl34 (Ae AGJ):=fscp (by decide+kernel)
def AHO(F:Fun K "has_set" "has_set" AGJ f fd)(T:Txt K mg C)
  (GK:FnOk P w K mg base CX0 1 fK kF zl3 (Kr K C)) (bK:Binds K kF zl3 []) (mK:Meth K C "knots" fK)
  (GT:FnOk P w K mg base CX0 1 fT cm zl3 (ADL K C)) (bT:Binds K cm zl3 []) (mT:Meth K C "top" fT) :
  FnOk P w K mg base CX0 2 f fd zl34 (ACV K C):=by
 refine F.ok Jz (λvs H Q E h=>?_) (λa7 A outer s H vs Q E hr h=>?_)
 .obtain⟨p,t,n,hd,rows,s,rfl,_⟩:=h
  rfl
 obtain⟨p,t,n,hd,rows,s0,rfl,hV,ok,kn,hS,q⟩:=h;have bb:Room 1 _:=hr.mono (by decide);refine⟨_,Ad (Ak (i:=2) Jz.nd (Bt (pv 0) T.cl mK GK bb bK .nil pass0))
  (Ad (Ak (i:=3) Jz.nd (Bt (pv 0) T.cl mT GT bb bT .nil pass0))
  (Ad (Ak (i:=4) Jz.nd Af)
  (Ad (Rt CY (Am Yh (pv 3) Af)
   (Ad (Ak (i:=5) Jz.nd (Ay Bm (pv 2) (Ar Em (pv 3) Af)))
   (Ag (Bl (ud (Ir (Am Px (pv 4) (Ax Av rfl T.len CI (Aa (pv 1) Ac))) (Gm (Am Cp (Ay Gf (pv 1) (pv 4)) (Ay Bc (pv 5) Af)))))
    (Ad (Ak (i:=4) Jz.nd (Ar Bv (pv 4) Af)) (Ag (Ak (i:=3) Jz.nd (Ay Bc (pv 5) Af))))
    (Ag (Ak (i:=3) Jz.nd (Ay Bc (pv 5) Af)))))))
  (Ag (Ao (Mp (Cw Cp (pv 3) Af) (Rm (Cw Cp (pv 4) (Ax Av rfl T.len CI (Aa (pv 1) Ac)))))))))),?_⟩
 obtain⟨dx,jj,hp,_⟩:=id hV;refine⟨_,rfl,p,dx,_,rfl,hp,rfl,p,n,hd,rows,rfl,hV,λl ys H1 s1 hl el px=>?_⟩;refine⟨_,rfl,p,dx,_,rfl,s1 _ _ hp,rfl,p,n,hd,rows,rfl,hV.same s1,?_⟩;have hL:rLst K (rRow K) H1 rows (.ref l):=⟨l,ys,rfl,uj el,px⟩;have hT:=Sq.same hS s1;have lt:(((s0.map V.int).length:Nat):Int)=s0.length:=by rw[AB]
 refine⟨λm σ H2=>∃(k' at_:Nat) (o5:Option V),m=k'/\H2=H1/\σ=[uA (.ref p),uA (.ref t),uA (.ref l),uA (.int k'),uA (.int at_),o5]/\Knot rows k'/\at_<=s0.length/\meets rows hd s0=meets rows k' (s0.drop at_),⟨hd,hd,0,uB,rfl,rfl,rfl,kn,By _,rfl⟩,?_⟩;rintro m σ H2 ⟨k',at_,o5,rfl,rfl,rfl,kn',al,e⟩;refine⟨_,rfl,_,_,rfl,rfl,_,rfl,?_⟩;refine ite2 (λc=>?_) (λc=>?_)
 .have m2:2<=m:=by have:=uG c;lia
  obtain⟨xs,b,hS2,ha,hb⟩:=ABf hL kn' m2;obtain⟨t1,z1,z2,r1,r2,n1,n2⟩:=ok.low (BZ kn' m2);refine⟨λσ' H'=>∃m',m'<m/\_,λσ' H' h=>h,?_⟩;refine⟨_,rfl,_,rfl,_,_,rfl,rfl,l,xs,_,_,rfl,rfl,hS2,ha,?_⟩;refine⟨_,rfl,_,rfl,t,_,rfl,hT,_,_,rfl,rfl,_,rfl,?_⟩;rw[lt];by_cases c1:at_<s0.length
  .have cr:=K9 c1
   have hv:atI (s0.map V.int) (at_:Int)=uA (.int s0[at_]):=Bk (by rw[AU,AI c1];rfl);have ec:=XD ok m2 kn' s0[at_] (s0.drop (at_+1));rw[cr,ec] at e;refine iteP (uz c1) ?_;refine⟨_,rfl,_,rfl,AHq hT hv ⟨_,rfl,b,_,_,_,rfl,rfl,hb,at0,rfl,_,rfl,?_⟩⟩;by_cases c3:s0[at_]=((rows.getD (m-2) (0,0,0)).1:Int)
   .refine iteP (by rw[c3]) ?_
    rw[uD c3] at e;exact⟨_,rfl,_,_,rfl,rfl,_,rfl,b,_,_,_,rfl,rfl,hb,at2,_,(va z2 m2),_,at_+1,_,rfl,rfl,rfl,n2,c1,e⟩
   .refine iteN (λz=>c3 (by injection z with z)) ?_
    rw[uC c3,<- cr] at e;exact⟨_,rfl,b,_,_,_,rfl,rfl,hb,at1,_,(va z1 m2),_,at_,_,rfl,rfl,rfl,n1,al,e⟩
  .have cr:s0.drop at_=[]:=FO (uN c1)
   refine iteN (by lia) (iteF ?_);rw[cr,Zc ok m2 kn',<- cr] at e;exact⟨_,rfl,b,_,_,_,rfl,rfl,hb,at1,_,(va z1 m2),_,at_,_,rfl,rfl,rfl,n1,al,e⟩
 .have m1:m<=1:=by
   have:¬ (1:Int)<m:=λz=>c (uE z);lia
  have q':=q H2 s1;rw[e,Zm m1] at q';refine⟨_,rfl,rfl,_,rfl,?_⟩;by_cases c1:m=1
  .subst c1
   refine iteP rfl ?_;refine⟨_,rfl,_,rfl,t,_,rfl,hT,rfl,?_⟩;rw[lt];have eb:decide (V.int (at_:Int)=V.int (s0.length:Int))=decide (1=1/\s0.drop at_=[]):=by
    by_cases c2:at_=s0.length
    .rw[uE (show V.int (at_:Int)=V.int (s0.length:Int) by rw[c2]),uE ⟨rfl,FO (vb c2)⟩]
    .rw[uF (λz=>c2 (by injection z with z;exact uy z)),uF (λz=>c2 (by have:=List.drop_eq_nil_iff.mp z.2;exact xx al this))]
   rw[eb];exact q'
  .refine iteN (λz=>by injection z with z;lia) ?_
   rw[uF (λz=>c1 z.1)] at q';exact q'
end K31s
namespace K31
open PySem L2 G
def Tp{rows:List Row}(ok:Ok n rows){k:Nat}(kn:Knot rows k)(s:uL):K31s.meets rows k (up s)=led rows k s:=by
 rw[Ex];refine(Lz ok (k+1) k (up s) (Fk k) kn).trans ⟨λhq=>?_,λh=>⟨s,rfl,h⟩⟩;obtain⟨u,e,h⟩:=hq;rw[Mj e];exact h
def RuleAt(K:As)(D:Addr)(H:Hp)(r:Addr)(a b:Nat):Prop:=∃dx et,H r=uA (.ins D dx (wf et))/\SqT K H et [.int (a:Int),.int (b:Int)]
def RuleAt.same{a b:Nat}(h:RuleAt K D H r a b)(e:Same H H'):RuleAt K D H' r a b:=by obtain⟨dx,et,h1,h2⟩:=h;exact⟨dx,et,e _ _ h1,e.ts.seq h2⟩
structure Grw(K:As)(S:Addr)(H:Hp)(p:Addr)(z:Nat)(as:uJ)(a b:Nat)(ae:List Row)(hd:Nat):Prop where
 at_:K31s.SvAt K S H p as.length ae hd
 cn:Canon as.length ae hd
 ld:∀s:uL,s.Pairwise (· < ·)->(∀x∈s,x<as.length)->(led ae hd s=true↔RingS z as (a,b) s)
 few:ae.length<=4000
def Grw.same{a b:Nat}{ae:List Row}(h:Grw K S H p z as a b ae hd)(e:Same H H'):Grw K S H' p z as a b ae hd:=⟨h.at_.same e,h.cn,h.ld,h.few⟩
def Grw.sol{a b:Nat}{ae:List Row}(h:Grw K S H p z as a b ae hd):Sol as.length (RingS z as (a,b)) (setsOf ae hd):=WR h.cn h.ld
def AGg{z':Nat}{cs:uJ}(h:OkTies (z:Int) as)(zz:z<=z')(sb:cs.Sublist as):OkTies (z':Int) cs.reverse:=⟨λt ht=>by
  obtain⟨x,y,e,x0,x1,y0,y1,n⟩:=h.ok t (sb.subset (HM.mp ht));exact⟨x,y,e,x0,zB x1 zz,y0,zB y1 zz,n⟩,by
  rw[List.map_reverse];exact MM.mpr ((h.nd.sublist (sb.map srt)).imp Bi)⟩
def Wm{R:α->β->Prop}:∀{l:List α}{m:List β},BN R l m->BN R l.reverse m.reverse:=by
 intro l m h
 induction h with
 | nil=>exact .nil
 | cons h t ih=>rw[LX,LX];exact uo ih (uq h)
def ADl(K:As)(D:Addr):Sp:=λvs H Q _=>∃(r l:Addr) (z a b:Nat) (as:uJ),vs=[.ref r,.int (z:Int),.ref l,.int (a:Int),.int (b:Int)]/\RuleAt K D H r a b/\In K l z as H/\a<z/\b<z/\a≠b/\∀H',Same H H'->Q (.bl true) H'
noncomputable abbrev elN:uU:=["_law_rule","_law_many","_law_rows_here","_law_begin","_law_end","_law_others","_law_other","_law_some","_law_whole"]
def NP:FnScope elN ["_law_rule","_law_many","_law_rows_here","_law_begin","_law_end"] (Ae YF):=fscp (by decide+kernel)
def AFd(F:Fun K "_law_elsewhere" "_law_elsewhere" YF f fd)(T:Txt K mg C)(M:Mk K C fI)(cD:Cls K D)
  (GI:FnOk P w K mg base CX0 3 fI kR zl2 (Jv K C)) (bI:Binds K kR zl2 [])
  (GG:∀x,FnOk P w K mg base CX0 18 fG kS zl28 (Kw x K C D S)) (bG:Binds K kS zl28 []) (kG:DI K (.ref fG)=true) (mG:mg "grown" = uA (.ref fG))
  (GE:Cal P w K mg base 2 fE sN "sets_of" zl24 (K31s.Qt K S))
  (GF:FnOk P w K mg base CX0 5 fF tX zl32 (Vv K C D)) (bF:Binds K tX zl32 []) (mF:Meth K D "fits" fF)
  (GY:Cal P w K mg base 1 fY rG "_law_is_way" zl35 (Ky K)) :
  FnOk P w K mg base CX0 19 f fd zl38 (ADl K D):=by
 refine F.ok NP (λvs H Q E h=>?_) (λa7 A outer s H vs Q E hr h=>?_)
 .obtain⟨r,l,z,a,b,as,rfl,_⟩:=h
  rfl
 obtain⟨r,l,z,a,b,as,rfl,hR,B,az,bz,ab,q⟩:=h;have bb:Room 1 _:=hr.mono (by decide);have dm:Room 2 _:=hr.mono (by decide);have p9:Room (3+1) _:=hr.mono (by decide);have tY:Room 5 _:=hr.mono (by decide);have ff:Room 18 _:=hr.mono (by decide);have GX:=ACY GG;refine⟨_,Ad (Jh (i:=5) (Ae YF) ["_law_k","_law_row"] [] [] NP.nd rfl (KW rfl) rfl rfl (by decide+kernel) trivial (GD rfl T.enum (Aa (pv 2) Ac))
    (λ_ _ _=>Gh (K:=K) (n:=2) rfl rfl (BW (BJ (i:=0)) (BW (BJ (i:=1)) DK)))
    (λ_ _ _=>Br (Am Jf (Ar Bu (pv 0) Af) Af))
    (λ_ _ _=>pv 1))
  (Ad (Ck (AGc Do PySem.F.slot_list_reverse PySem.F.type_list_reverse Vc (pv 5)))
  (Ad (Ak (i:=6) NP.nd (Gg M GI p9 rfl T.mgC bI .nil pass0 (Aa (Ax (Oz rfl) rfl T.min MO (Aa Af (Aa (Ar Bv (pv 1) Af) Ac))) (Aa (pv 5) Ac))))
  (Ad (Cv CY rfl (CQ (BL GE dm rfl (Aa (Hw GX ff rfl mG kG bG .nil pass0 (Aa (pv 6) (Aa (pv 0) Ac))) Ac))) (BP (i:=7) NP.nd)
   (Ag (Bl (ud (Fd (Fp (Ds (BL GY bb rfl (Aa (pv 5) (Aa (pv 7) (Aa (pv 3) (Aa (pv 4) Ac))))))) (Ek (Fp (Ds (Bq (pv 0) cD mF GF tY bF .nil pass0 (Aa (pv 6) (Aa (pv 7) Ac)))))))) (Ag (Ao FZ)) BK)))
  (Ad (Ak (i:=8) NP.nd (BX (FN rfl) rfl T.tuple De (Aa (BX Fb rfl T.range JA (Aa (Ax Av rfl T.len CI (Aa (pv 5) Ac)) Ac)) Ac)))
  (Ag (Ao (Cw Cp (Bq (pv 0) cD mF GF tY bF .nil pass0 (Aa (pv 6) (Aa (pv 8) Ac))) (BL GY bb rfl (Aa (pv 5) (Aa (pv 8) (Aa (pv 3) (Aa (pv 4) Ac)))))))))))),?_⟩
 obtain⟨xs,hl,pl⟩:=B.tl;have lx:=AY pl;have a12:=B.a12;have z10:=B.z10;refine⟨_,rfl,l,rfl,⟨_,hl⟩,λZ hZ=>?_⟩;refine FP (xs:=xs) (λj τ H2=>∃(n t:Option V) (cs:uJ) (ys:List V),τ=[n,t]/\Same H H2/\H2 Z=uA (.lst ys)/\BN (rPair K H2) cs ys/\cs.Sublist (as.take j)) ⟨uB,uB,[],[],rfl,uw hZ _,Ab,.nil,List.nil_sublist _⟩ (by rintro j τ H2 _ ⟨_,_,_,_,_,sm,_⟩;exact sm.seq hl) ?_ ?_
 .rintro j v τ H2 T1 hv dL ⟨n,t,cs,ys,rfl,s2,eZ,pc,sb⟩
  obtain⟨tie,ht,rt⟩:=Paired.get pl hv;have sT:Same H2 (upd H2 T1 (.tup [.int j,v])):=uw dL _;have eT:(upd H2 T1 (.tup [.int j,v])) T1=uA (.tup [.int j,v]):=Ab;generalize upd H2 T1 (.tup [.int j,v])=H3 at sT eT;have s3:=s2.trans sT;have tP:BN (rPair K H3) cs ys:=ut (λ_ _ r=>Aq Aw _ _ _ _ sT.ts r) pc;have ot:=sT _ _ eZ;have tk:as.take (j+1)=as.take j++[tie]:=K31s.take_snoc ht;have cl:ys.length<=12:=by
   rw[<- AY pc];exact BV sb.length_le (by rw[B4];exact ww a12)
  refine⟨T1,_,rfl,uk eT,rfl,_,_,rfl,_,_,rfl,rfl,?_⟩;refine⟨_,rfl,_,_,rfl,rfl,(by show(0:Int)<3;decide),rfl,_,rfl,ite2 (λ_=>?_) (λ_=>?_)⟩
  .refine⟨_,rfl,_,ot,Az (we cl),?_⟩
   have tl:=ur (o:=.lst (ys++[v])) ot;refine⟨_,_,cs++[tie],ys++[v],rfl,s3.put hZ _,Ab,uo (ut (λ_ _ r=>Aq Aw _ _ _ _ tl r) tP) (uq (Aq Aw _ _ _ _ (s3.ts.trans tl) rt)),?_⟩
   .rw[tk]
    exact sb.append (Zp _)
  .refine⟨_,_,cs,ys,rfl,s3,ot,tP,?_⟩
   rw[tk];exact sb.trans (List.sublist_append_left ..)
 rintro τ H2 ⟨n,t,cs,ys,rfl,s2,eZ,pc,sb⟩;rw[<- lx,CU] at sb;have lc:=AY pc;refine⟨_,rfl,.inl ⟨rfl,_,uj eZ⟩,Z,ys,rfl,rfl,eZ,?_⟩;have tl:=ur (o:=.lst ys.reverse) eZ;have pr:=Wm (ut (λ_ _ r=>Aq Aw _ _ _ _ tl r) pc);have s3:Same H (upd H2 Z (.lst ys.reverse)):=s2.put hZ _;have ot:(upd H2 Z (.lst ys.reverse)) Z=uA (.lst ys.reverse):=Ab;generalize upd H2 Z (.lst ys.reverse)=H3 at s3 ot pr tl;obtain⟨zz,ezz,sX,zz2⟩:∃zz:Nat,(if(z:Int)+1<10 then(z:Int)+1 else 10)=(zz:Int)/\z<=zz/\zz<=10:=by
  by_cases c:(z:Int)+1<10
  .rw[uD c];exact⟨z+1,x8,uO,by lia⟩
  .rw[uC c];exact⟨10,rfl,z10,vn⟩
 have oQ:OkTies (zz:Int) cs.reverse:=AGg B.ok sX sb;have mE:cs.reverse.length<=12:=by
  rw[R9];exact BV sb.length_le a12
 generalize cs.reverse=ds at oQ mE pr;have tlZ:TlAt K H3 Z ds:=⟨_,uj ot,pr⟩;refine⟨_,rfl,_,_,rfl,rfl,_,_,rfl,?_⟩;rw[ezz];refine⟨_,rfl,λW dW nW ndW nWd=>?_⟩;have sW:Same H3 (upd (upd H3 dW (.own W)) W (.ins C dW [])):=Same.obj nW ndW _ _;refine⟨W,dW,Z,(zz:Int),_,ds,rfl,Ab,sW.seq (uj ot),ut (λt x h=>.inr (Aq Aw _ _ _ _ sW.ts h)) pr,oQ,mE,by lia,wu zz2,λH4 k4 hW=>⟨rfl,?_⟩⟩;have dQ:Same H3 H4:=λb o e=>k4 b o (sW b o e) (Ai e nW);have s4:=s3.trans dQ;have n9:=hR.same s4;have bl:(ds.map srt).length=ds.length:=AB ..;obtain⟨dx,et,hr4',het4⟩:=id n9;refine⟨_,rfl,_,rfl,(et,a,b),W,r,dx,zz,ds.map srt,rfl,hW,hr4',het4,⟨show a<zz from ux az sX,show b<zz from ux bz sX,ab⟩,by lia,zz2,by rw[bl];exact mE,Fj oQ,Dg oQ,λp ae hd H5 s5 hV cn ld r4=>?_⟩;rw[bl] at hV cn ld;refine⟨p,_,hd,ae,rfl,hV,cn.least.ok,cn.knot,mE,r4,λL us H6 s6 nL eL pL=>?_⟩;have sol:Sol ds.length (RingS zz ds (a,b)) (setsOf ae hd):=WR cn ld;have pL:=JT pL;have s46:=s5.trans s6;have tl4:=tlZ.same dQ;refine⟨L,rfl,⟨_,uj eL⟩,?_⟩;have az':a<zz:=ux az sX;have bz':b<zz:=ux bz sX;have oks:=Fj oQ;have aps:=Dg oQ;refine Ej (K:=K) (a:=L) (xs:=us) (λi σ H7=>∃o7:Option V,σ=[uA (.ref r),uA (.int (z:Int)),uA (.ref l),uA (.int (a:Int)),uA (.int (b:Int)),uA (.ref Z),uA (.ref W),o7,uB]/\Same H6 H7) ⟨uB,rfl,um _⟩ (by rintro i σ H7 _ ⟨_,_,sm⟩;exact uj (sm _ _ eL)) ?_ ?_
 .rintro i v σ H7 hv ⟨o7,rfl,s7⟩
  obtain⟨su,t,es,rfl,ht⟩:=Hy pL hv;obtain⟨pw,lt,g0⟩:=(sol.mem su).mp (AT es);have mI:=s46.trans s7;have st:SetT K H7 t ds.length su:=⟨s7.ts.seq ht,pw,lt⟩;refine⟨_,rfl,_,rfl,_,rfl,_,rfl,Z,t,zz,a,b,ds,su,rfl,tl4.same mI,oQ,mE,.inr st.at_,pw,lt,az',bz',ab,λv H8 s8 hv=>?_⟩;cases hv.mpr g0;refine⟨true,rfl,iteF ?_⟩;have qJ:=mI.trans s8;obtain⟨tM,tW,h1,h2⟩:=id (n9.same qJ);refine⟨_,rfl,r,tM,_,rfl,h1,Fg tW (by decide+kernel),_,rfl,_,rfl,r,W,t,tM,tW,zz,a,b,ds.map srt,su,rfl,h1,h2,hW.same qJ,az',bz',ab,.inr (st.same s8).at_,pw,by rw[bl];exact lt,zz2,by rw[bl];exact mE,oks,aps,λv H9 s9 hv=>?_⟩;cases hv.mpr g0;exact⟨true,rfl,iteF ⟨_,rfl,s7.trans (s8.trans s9)⟩⟩
 rintro σ H7 ⟨o7,rfl,s7⟩;have mI:=s46.trans s7;have yl:ys.reverse.length=ds.length:=(AY pr).symm;refine⟨_,rfl,Z,_,rfl,.inl (uj (mI _ _ (dQ _ _ ot))),_,rfl,λR8 hR8=>?_⟩;rw[yl];refine⟨R8,_,rfl,Ab,fv,zC mE,λt ht=>?_⟩;have s9:=mI.trans ((uw hR8 (.rng 0 ((ds.length:Nat):Int))).trans (uw ht (.tup ((below ((ds.length:Nat):Int).toNat).map V.int))));have s69:=s7.trans ((uw hR8 (.rng 0 ((ds.length:Nat):Int))).trans (uw ht (.tup ((below ((ds.length:Nat):Int).toNat).map V.int))));have et9:(upd (upd H7 R8 (.rng 0 ((ds.length:Nat):Int))) t (.tup ((below ((ds.length:Nat):Int).toNat).map V.int))) t=uA (.tup ((up (AR ds.length)).map V.int)):=by rw[Ab];rfl
 generalize upd (upd H7 R8 (.rng 0 ((ds.length:Nat):Int))) t (.tup ((below ((ds.length:Nat):Int).toNat).map V.int))=H9 at s9 s69 et9;have pw:(AR ds.length).Pairwise (· < ·):=J4;have lt:∀x∈AR ds.length,x<ds.length:=λx hx=>AZ.mp hx;have st:SetT K H9 t ds.length (AR ds.length):=⟨uk et9,pw,lt⟩;obtain⟨tM,tW,h1,h2⟩:=id (n9.same s9);refine⟨_,rfl,r,tM,_,rfl,h1,Fg tW (by decide+kernel),_,rfl,_,rfl,r,W,t,tM,tW,zz,a,b,ds.map srt,_,rfl,h1,h2,hW.same s9,az',bz',ab,.inr st.at_,pw,by rw[bl];exact lt,zz2,by rw[bl];exact mE,oks,aps,λv Ha sa hv=>?_⟩;refine⟨_,rfl,_,rfl,_,rfl,_,rfl,Z,t,zz,a,b,ds,_,rfl,tl4.same (s9.trans sa),oQ,mE,.inr (st.same sa).at_,pw,lt,az',bz',ab,λv' Hb sb i7=>⟨rfl,?_⟩⟩;have ev:v=v':=by
  rw[Ex];exact hv.trans i7.symm
 rw[ev];have:=q Hb (s4.trans (s9.trans (sa.trans sb)));show Q (.bl (decide (V.bl v'=V.bl v'))) Hb;rw[uE rfl];exact this
def UW(K:As)(C:Addr):Sp:=λvs H Q _=>∃(W l:Addr) (z a b:Nat) (as:uJ),vs=[.ref W,.ref l,.int (a:Int),.int (b:Int)]/\WebAt K C H W z (as.map srt)/\In K l z as H/\a<z/\b<z/\a≠b/\∀H',Same H H'->Q (.bl true) H'
noncomputable abbrev beN:uU:=["_law_web_here","_law_rows_here","_law_begin","_law_end","_law_other","_law_whole","_law_some"]
def JH:FnScope beN ["_law_web_here","_law_rows_here","_law_begin","_law_end"] (Ae Rj):=fscp (by decide+kernel)
def ZR(F:Fun K "_law_beside" "_law_beside" Rj f fd)(T:Txt K mg C)(MW:Mk K D fN)(mgW:mg "Ways" = uA (.ref D))
  (GN:FnOk P w K mg base CX0 1 fN qm zl13 (Qy K D)) (bN:Binds K qm zl13 [])
  (GG:∀x,FnOk P w K mg base CX0 18 fG kS zl28 (Kw x K C D S)) (bG:Binds K kS zl28 []) (kG:DI K (.ref fG)=true) (mG:mg "grown" = uA (.ref fG))
  (GE:Cal P w K mg base 2 fE sN "sets_of" zl24 (K31s.Qt K S))
  (GH:Cal P w K mg base 2 fH sQ "has_set" zl34 (K31s.ACV K S))
  (GY:Cal P w K mg base 1 fY rG "_law_is_way" zl35 (Ky K)) :
  FnOk P w K mg base CX0 19 f fd zl39 (UW K C):=by
 refine F.ok JH (λvs H Q E h=>?_) (λa7 A outer s H vs Q E hr h=>?_)
 .obtain⟨W,l,z,a,b,as,rfl,_⟩:=h
  rfl
 obtain⟨W,l,z,a,b,as,rfl,hW,B,az,bz,ab,q⟩:=h;have bb:Room 1 _:=hr.mono (by decide);have dm:Room 2 _:=hr.mono (by decide);have hrN:Room (1+1) _:=hr.mono (by decide);have ff:Room 18 _:=hr.mono (by decide);have GX:=ACY GG;refine⟨_,Ad (Ak (i:=4) JH.nd (Hw GX ff rfl mG kG bG .nil pass0 (Aa (pv 0) (Aa (Gg MW GN hrN rfl mgW bN .nil pass0 (Aa (pv 2) (Aa (pv 3) Ac))) Ac))))
  (Ad (Ak (i:=5) JH.nd (BX (FN rfl) rfl T.tuple De (Aa (BX Fb rfl T.range JA (Aa (Ax Av rfl T.len CI (Aa (pv 1) Ac)) Ac)) Ac)))
  (Ad (Cv CY rfl (CQ (BL GE dm rfl (Aa (pv 4) Ac))) (BP (i:=6) JH.nd)
   (Ag (Bl (Fp (Ds (BL GY bb rfl (Aa (pv 1) (Aa (pv 6) (Aa (pv 2) (Aa (pv 3) Ac))))))) (Ag (Ao FZ)) BK)))
  (Ag (Ao (Cw Cp (BL GH dm rfl (Aa (pv 4) (Aa (pv 5) Ac))) (BL GY bb rfl (Aa (pv 1) (Aa (pv 5) (Aa (pv 2) (Aa (pv 3) Ac)))))))))),?_⟩
 obtain⟨xs,hl,pl⟩:=B.tl;have lx:=AY pl;have a12:=B.a12;have z10:=B.z10;have z1:=B.z1;have ok:=B.ok;have bl:(as.map srt).length=as.length:=AB ..;refine⟨_,rfl,_,rfl,_,rfl,λr dr nr ndr nrd=>?_⟩;have sr:Same H (upd (upd H dr (.own r)) r (.ins D dr [])):=Same.obj nr ndr _ _;refine⟨r,dr,a,b,rfl,Ab,λet H2 k2 he hr'=>⟨rfl,?_⟩⟩;have s2:Same H H2:=λb o e=>k2 b o (sr b o e) (Ai e nr);refine⟨(et,a,b),W,r,dr,z,as.map srt,rfl,hW.same s2,hr',he,⟨az,bz,ab⟩,z1,z10,by rw[bl];exact a12,Fj ok,Dg ok,λp ae hd H3 s3 hV cn ld r4=>?_⟩;rw[bl] at hV cn ld;have G3:Grw K S H3 p z as a b ae hd:=⟨hV,cn,ld,r4⟩;have s03:=s2.trans s3;refine⟨_,rfl,l,_,rfl,.inl (s03.seq hl),_,rfl,λR8 hR8=>?_⟩;rw[<- lx];refine⟨R8,_,rfl,Ab,fv,zC a12,λt ht=>?_⟩;have s4:=(uw hR8 (.rng 0 ((as.length:Nat):Int))).trans (uw ht (.tup ((below ((as.length:Nat):Int).toNat).map V.int)));have et4:(upd (upd H3 R8 (.rng 0 ((as.length:Nat):Int))) t (.tup ((below ((as.length:Nat):Int).toNat).map V.int))) t=uA (.tup ((up (AR as.length)).map V.int)):=by rw[Ab];rfl
 generalize upd (upd H3 R8 (.rng 0 ((as.length:Nat):Int))) t (.tup ((below ((as.length:Nat):Int).toNat).map V.int))=H4 at s4 et4;have wp:(AR as.length).Pairwise (· < ·):=J4;have wl:∀x∈AR as.length,x<as.length:=λx hx=>AZ.mp hx;have wt:SetT K H4 t as.length (AR as.length):=⟨uk et4,wp,wl⟩;have s04:=s03.trans s4;have G4:=G3.same s4;refine⟨_,rfl,p,_,hd,ae,rfl,G4.at_,cn.least.ok,cn.knot,a12,r4,λL us H6 s6 nL eL pL=>?_⟩;have sol:=G4.sol;have pL:=JT pL;have s06:=s04.trans s6;refine⟨L,rfl,⟨_,uj eL⟩,?_⟩;refine Ej (K:=K) (a:=L) (xs:=us) (λi σ H7=>∃o6:Option V,σ=[uA (.ref W),uA (.ref l),uA (.int (a:Int)),uA (.int (b:Int)),uA (.ref p),uA (.ref t),o6]/\Same H6 H7) ⟨uB,rfl,um _⟩ (by rintro i σ H7 _ ⟨_,_,sm⟩;exact uj (sm _ _ eL)) ?_ ?_
 .rintro i v σ H7 hv ⟨o6,rfl,s7⟩
  obtain⟨su,u,es,rfl,hu⟩:=Hy pL hv;obtain⟨pw,lt,g0⟩:=(sol.mem su).mp (AT es);refine⟨_,rfl,_,rfl,_,rfl,_,rfl,l,u,z,a,b,as,su,rfl,B.tl.same (s06.trans s7),ok,a12,.inr (s7.ts.seq hu),pw,lt,az,bz,ab,λv H8 s8 hv=>?_⟩;cases hv.mpr g0;exact⟨true,rfl,iteF ⟨_,rfl,s7.trans s8⟩⟩
 rintro σ H7 ⟨o6,rfl,s7⟩;have mI:=s6.trans s7;refine⟨_,rfl,_,rfl,p,t,_,hd,ae,up (AR as.length),rfl,(G4.same mI).at_,cn.least.ok,cn.knot,.inr (wt.same mI).at_,λH8 s8=>?_⟩;have qJ:=mI.trans s8;refine⟨_,rfl,_,rfl,_,rfl,_,rfl,l,t,z,a,b,as,_,rfl,B.tl.same (s04.trans qJ),ok,a12,.inr (wt.same qJ).at_,wp,wl,az,bz,ab,λv H9 s9 hv=>⟨rfl,?_⟩⟩;have ev:K31s.meets ae hd (up (AR as.length))=v:=by
  rw[Tp cn.least.ok cn.knot,Ex,hv];exact ld _ wp wl
 rw[ev];have:=q H9 (s04.trans (qJ.trans s9));show Q (.bl (decide (V.bl v=V.bl v))) H9;rw[uE rfl];exact this
noncomputable abbrev lawN:uU:=["_law_script","_law_many","_law_rows_here","_law_begin","_law_end","_law_web_here","_law_rule","_law_sieve","_law_told","_law_some","_law_k","_law_cell","_law_due"]
def Ud{x:Nat}{r:Int}(z2:2<=z)(xz:x<z):∃y:Nat,((x:Int)+1+r%((z:Int)-1))%(z:Int)=(y:Int)/\y<z/\x≠y:=by
 have r0:=EC r (show(z:Int)-1≠0 by lia);have rz:=DB r (show(0:Int)<(z:Int)-1 from xf z2);generalize r%((z:Int)-1)=o at r0 rz;have h1:=EC ((x:Int)+1+o) (show(z:Int)≠0 from zx z2);have h2:=DB ((x:Int)+1+o) (show(0:Int)<z from xc z2);obtain⟨y,ey⟩:=FH h1;refine⟨y,ey,wm h2 ey,λe=>?_⟩;subst e;by_cases c:(x:Int)+1+o<z
 .rw[TD (by lia) c] at ey
  lia
 .have e2:((x:Int)+1+o)%(z:Int)=(x:Int)+1+o-z:=by
   rw[<- Int.sub_emod_right,TD (by lia) (by lia)]
  lia
def ABh(ns:uI)(lo hi:Option Int):∃cs:uI,cutV (ns.map V.int) lo hi=cs.map V.int:=by
 unfold cutV;exact⟨(ns.drop (HT.sIx (ns.map V.int).length 0 lo)).take (HT.sIx (ns.map V.int).length (ns.map V.int).length hi-HT.sIx (ns.map V.int).length 0 lo),by rw[RU,RY]⟩
def AGt{c:Prop}{i:Decidable c}{b:Bool}(h:b=true↔c):decide c=b:=by
 rw[Ex,decide_eq_true_iff];exact h.symm
def AEZ[DecidableEq α]{l m:List α}(hl:l.Nodup)(hm:m.Nodup)(h:∀x,x∈l↔x∈m):l.Perm m:=by
 rw[Sf];intro a;rw[hl.count,hm.count];by_cases c:a∈l
 .rw[uD c,uD ((h a).mp c)]
 .rw[uC c,uC λz=>c ((h a).mpr z)]
def Sol.nd{A:uL->Prop}(h:Sol n A ss):ss.Nodup:=h.ord.imp λ{a b} l e=>by rw[e] at l;exact FB _ l
def Sol.uniq{A B:uL->Prop}{uu:List uL}(h:Sol n A ss)(g:Sol n B uu)(ab:∀s,A s↔B s):ss=uu:=by
 have p:=AEZ h.nd g.nd λs=>(h.mem s).trans ((and_congr_right λ_=>and_congr_right λ_=>ab s).trans (g.mem s).symm);exact p.eq_of_pairwise (λa b _ _ h1 h2=>uH h1 (Nat.lt_asymm h2)) h.ord g.ord
def ZS{a b:Nat}(ab:a≠b)(s:uL):RingS z as (a,b) s↔RingS z as (b,a) s :=
 ⟨λh=>GJ (idZ_sym z) ab h,λh=>GJ (idZ_sym z) (Bi ab) h⟩
def Grw.uniq{p':Addr}{a b:Nat}{ae om:List Row}{cr:Nat}(h:Grw K S H p z as a b ae hd)(g:Grw K S H' p' z as a b om cr):ae=om:=by
 refine(ui h.cn g.cn λs=>?_).1;rw[Ex];have J:=h.sol;have J':=g.sol;have I:=GQ _ _ rfl h.cn.least.ok _ h.cn.knot;have I':=GQ _ _ rfl g.cn.least.ok _ g.cn.knot;exact(I.mem s).symm.trans ((J.mem s).trans ((J'.mem s).symm.trans (I'.mem s)))
structure Bs(K:As)(C D S a l W r p L:Addr)(ns:uI)(z x y:Nat)(as:uJ)(ae:List Row)(hd:Nat)(H:Hp):Prop where
 sc:SqL K H a (ns.map V.int)
 rows:In K l z as H
 z2:2<=z
 xz:x<z
 yz:y<z
 xy:x≠y
 web:WebAt K C H W z (as.map srt)
 rule:RuleAt K D H r x y
 sv:Grw K S H p z as x y ae hd
 told:Told K H L (setsOf ae hd)
def Bs.same{W L:Addr}{x y:Nat}{ae:List Row}(b:Bs K C D S a l W r p L ns z x y as ae hd H)(e:Same H H'):Bs K C D S a l W r p L ns z x y as ae hd H' :=
 ⟨e.seq b.sc,b.rows.same e,b.z2,b.xz,b.yz,b.xy,b.web.same e,b.rule.same e,b.sv.same e,b.told.same e⟩
def AHZ(e:TSm H H'){ds:uJ}(h:BN (rPair K H) ds ys):BN (rPair K H') ds ys:=ut (λa b r=>Aq Aw _ _ _ _ e r) h
def ABg(z:Int)(j:Addr)(h:Int){m:Str}(h1:¬ m = "head")(h2:¬ m = "rows")(h3:¬ m = "amount"):(K31s.flds z j h).lookup m=uB:=K31s.Yw z j h h1 h2 h3
noncomputable abbrev lawS(a l W r p L:Addr)(z x y:Nat)(o9 o10 fm fk:Option V):St:=[uA (.ref a),uA (.int (z:Int)),uA (.ref l),uA (.int (x:Int)),uA (.int (y:Int)),uA (.ref W),uA (.ref r),uA (.ref p),uA (.ref L),o9,o10,fm,fk]
def Pt(K:As)(C D S:Addr)(X:Cx)(n:Nat)(Q:VK):Prop:=∃t,PSs X ((DY QL).drop n) t/\∀(σ:St) (H0:Hp),(∃(a l W r p L:Addr) (ns:uI) (z x y:Nat) (as:uJ) (ae:List Row) (hd:Nat) (o9 o10 fm fk:Option V),σ=lawS a l W r p L z x y o9 o10 fm fk/\Bs K C D S a l W r p L ns z x y as ae hd H0)->t {nx:=λ_ H'=>Q .non H',rt:=Q} σ H0
def Fe:FnScope lawN ["_law_script"] (Ae QL):=fscp (by decide+kernel)
def AGD{fV fM:Addr}{fdV fdM:Bz}(F:Fun K "law" "law" QL f fd)(T:Txt K mg C)(TS:K31s.Txt K mg S)(M:Mk K C fI)(MW:Mk K D fN)(mgW:mg "Ways" = uA (.ref D))(cD:Cls K D)(oD:Own K D)(is:Q5 K (.ref D) (.ref R)=uA true)(mgR:mg "Rule" = uA (.ref R))
  (GC:Cal P w K mg base 1 fC sZ "_law_at" zl15 (ACz K))
  (GV:Cal P w K mg base 3 fV fdV "_law_web" zl29 (ADa K))
  (GI:FnOk P w K mg base CX0 3 fI kR zl2 (Jv K C)) (bI:Binds K kR zl2 [])
  (GN:FnOk P w K mg base CX0 1 fN qm zl13 (Qy K D)) (bN:Binds K qm zl13 [])
  (GG:∀x,FnOk P w K mg base CX0 18 fG kS zl28 (Kw x K C D S)) (bG:Binds K kS zl28 []) (kG:DI K (.ref fG)=true) (mG:mg "grown" = uA (.ref fG))
  (GE:Cal P w K mg base 2 fE sN "sets_of" zl24 (K31s.Qt K S))
  (GO:Cal P w K mg base 1 fO tj "_law_in_order" zl33 (Yz K))
  (GY:Cal P w K mg base 1 fY rG "_law_is_way" zl35 (Ky K))
  (GL:Cal P w K mg base 19 fL qg "_law_elsewhere" zl38 (ADl K D))
  (GT:Cal P w K mg base 2 fT cm "_law_set" zl37 (ACT K))
  (GH:Cal P w K mg base 2 fH sQ "has_set" zl34 (K31s.ACV K S))
  (GF:FnOk P w K mg base CX0 5 fF tX zl32 (Vv K C D)) (bF:Binds K tX zl32 []) (mF:Meth K D "fits" fF)
  (GB:Cal P w K mg base 19 fB nz "_law_beside" zl39 (UW K C))
  (GM:FnOk P w K mg base CX0 1 fM fdM zl3 (K31s.ADK K S)) (bM:Binds K fdM zl3 []) (mM:Meth K S "many" fM)
  (GK:FnOk P w K mg base CX0 1 fK kF zl3 (K31s.Kr K S)) (bK:Binds K kF zl3 []) (mK:Meth K S "knots" fK) :
  FnOk P w K mg base CX0 20 f fd ["_law_script"] (Tw K):=by
 refine F.ok Fe (λvs H Q E h=>?_) (λa7 A outer s H vs Q E hr h=>?_)
 .obtain⟨a,ns,rfl,_⟩:=h
  rfl
 obtain⟨a,ns,rfl,hS,n63,q⟩:=h;have bb:Room 1 _:=hr.mono (by decide);have dm:Room 2 _:=hr.mono (by decide);have hrN:Room (1+1) _:=hr.mono (by decide);have ny:Room 3 _:=hr.mono (by decide);have p9:Room (3+1) _:=hr.mono (by decide);have tY:Room 5 _:=hr.mono (by decide);have ff:Room 18 _:=hr.mono (by decide);have tV:Room 19 _:=hr.mono (by decide);have GX:=ACY GG;obtain⟨t5,h5,q5⟩:Pt K C D S (cxOf CX0 P w K mg base lawN "law" (Ae QL) f a7 A outer s H E).nox 11 Q:=by
  refine⟨_,Ad (Bl (Fp (Ds (BL GB tV rfl (Aa (pv 5) (Aa (pv 2) (Aa (pv 3) (Aa (Ar Bu (Ar Bv (Ar Bv (pv 3) Af) (Ar Bu (Ar Et (BL GC bb rfl (Aa (pv 0) (Aa Af Ac))) Af) (Ar Em (pv 1) Af))) (pv 1)) Ac))))))) (Ag (Ao FZ)) BK)
   (Ag (Ao (Mp (Cw Cp (Bt (pv 7) TS.cl mM GM bb bM .nil pass0) (Ax Av rfl T.len CI (Aa (pv 2) Ac)))
    (Rm (Cw (RP (Gp DX) (CN hr)) (Bt (Hw GX ff rfl mG kG bG .nil pass0 (Aa (pv 5) (Aa (pv 6) Ac))) TS.cl mK GK bb bK .nil pass0) (Bt (pv 7) TS.cl mK GK bb bK .nil pass0)))))),?_⟩
  rintro σ H0 ⟨a,l,W,r,p,L,ns,z,x,y,as,ae,hd,o9,o10,fm,fk,rfl,B⟩;have z2:=B.z2;refine⟨_,rfl,_,rfl,_,rfl,_,rfl,_,_,rfl,rfl,_,rfl,a,ns,1,rfl,B.sc,xg,λc=>?_⟩;have zp:(0:Int)<(z:Int):=xc z2;refine⟨_,_,rfl,rfl,⟨by decide,by decide⟩,_,rfl,_,_,rfl,rfl,_,_,rfl,rfl,(by show(0:Int)<(z:Int)-1;exact xf z2),_,_,rfl,rfl,_,rfl,_,_,rfl,rfl,zp,?_⟩;dsimp only;obtain⟨v,ev,vz,xv⟩:=Ud (r:=c / 81) z2 B.xz;rw[ev];refine⟨W,l,z,x,v,as,rfl,B.web,B.rows,B.xz,vz,xv,λH1 s1=>⟨true,rfl,iteF ?_⟩⟩;have B1:=B.same s1;obtain⟨dx,jj,hp,_⟩:=id B1.sv.at_;obtain⟨xs,hl,pl⟩:=B1.rows.tl;have lx:=AY pl;refine⟨_,rfl,p,dx,_,rfl,hp,ABg _ _ _ (by decide+kernel) (by decide+kernel) (by decide+kernel),p,_,_,ae,rfl,B1.sv.at_,_,rfl,l,_,rfl,.inl hl,rfl,_,rfl,iteP (by rw[lx]) ?_⟩;obtain⟨dr,er,hR,hE⟩:=id B1.rule;have bl:(as.map srt).length=as.length:=AB ..;have ok:=B1.rows.ok;refine⟨_,rfl,_,rfl,(er,x,y),W,r,dr,z,as.map srt,rfl,B1.web,hR,hE,⟨B.xz,B.yz,B.xy⟩,B1.rows.z1,B1.rows.z10,by rw[bl];exact B1.rows.a12,Fj ok,Dg ok,λp2 eI dP H2 s2 hV cn ld r4=>?_⟩;rw[bl] at hV cn ld;have G2:Grw K S H2 p2 z as x y eI dP:=⟨hV,cn,ld,r4⟩;obtain rfl:ae=eI:=B1.sv.uniq G2;obtain⟨sM,j2,kA,_⟩:=id hV;refine⟨p2,sM,_,rfl,kA,ABg _ _ _ (by decide+kernel) (by decide+kernel) (by decide+kernel),p2,_,_,ae,rfl,hV,λlk ks H3 s3 hlk elk px=>?_⟩;have B3:=B1.same (s2.trans s3);refine⟨_,rfl,p,dx,_,rfl,(s2.trans s3) _ _ hp,ABg _ _ _ (by decide+kernel) (by decide+kernel) (by decide+kernel),p,_,_,ae,rfl,B3.sv.at_,λlk2 ks2 H4 s4 hlk2 elk2 px2=>?_⟩;refine⟨_,_,⟨lk,ks,rfl,uj (s4 _ _ elk),AHZ s4.ts (K31s.Tj px)⟩,⟨lk2,ks2,rfl,uj elk2,K31s.Tj px2⟩,?_⟩;rw[uE rfl];exact q _
 obtain⟨t4,h4,q4⟩:Pt K C D S (cxOf CX0 P w K mg base lawN "law" (Ae QL) f a7 A outer s H E).nox 10 Q:=by
  refine⟨_,Ad (Cv CY rfl (GD rfl T.enum (Aa (TX Ys (pv 0) (Qq Af) (Qq Af)) Ac)) (Iv rfl (BW (BP (i:=10) Fe.nd) (BW (BP (i:=11) Fe.nd) DK)))
    (Ad (Ak (i:=9) Fe.nd (BL GT dm rfl (Aa (pv 2) (Aa (pv 3) (Aa (pv 4) (Aa (pv 8) (Aa (pv 11) (Aa (pv 10) Ac))))))))
    (Ad (Ak (i:=12) Fe.nd (BL GY bb rfl (Aa (pv 2) (Aa (pv 9) (Aa (pv 3) (Aa (pv 4) Ac))))))
    (JF (Bl (ud (Fd (Am Jf (BL GH dm rfl (Aa (pv 7) (Aa (pv 9) Ac))) (pv 12)) (Ek (Am Jf (Cw (ACo (Gp DX) (CN hr)) (pv 9) (pv 8) rfl) (pv 12))))) (Ag (Ao FZ)) BK)
    (Ag (Bl (ud (Fd (ud (Ir (Am Cp (Ar Bu (pv 10) Af) Af) (Gm (Am Jf (Bq (pv 6) cD mF GF tY bF .nil pass0 (Aa (pv 5) (Aa (pv 9) Ac))) (pv 12)))))
      (Ek (ud (Ir (Am Cp (Ar Bu (pv 10) Af) Af) (Gm (Am Jf (Bq (pv 6) cD mF GF tY bF .nil pass0 (Aa (pv 5) (Aa (BX Dp rfl T.list EG (Aa (pv 9) Ac)) Ac))) (pv 12)))))))) (Ag (Ao FZ)) BK)))))) h5,?_⟩
  rintro σ H0 ⟨a,l,W,r,p,L,ns,z,x,y,as,ae,hd,o9,o10,fm,fk,rfl,B⟩;obtain⟨cs,ec⟩:=ABh ns (uA 2) (uA 63);refine⟨_,rfl,_,rfl,_,rfl,a,_,rfl,B.sc,λSl hSl=>?_⟩;rw[ec];have s1:=uw hSl (.lst (cs.map V.int));have eSl:(upd H0 Sl (.lst (cs.map V.int))) Sl=uA (.lst (cs.map V.int)):=Ab;generalize upd H0 Sl (.lst (cs.map V.int))=H1 at s1 eSl;have B1:=B.same s1;clear B s1;have bl:(as.map srt).length=as.length:=AB ..;have sol:=B1.sv.sol;refine⟨Sl,rfl,⟨_,uj eSl⟩,?_⟩;refine Lx (xs:=cs.map V.int) (λi σ HA=>∃(o9 o10 fm fk:Option V),σ=lawS a l W r p L z x y o9 o10 fm fk/\Same H1 HA) ⟨_,_,_,_,rfl,um _⟩ (by rintro i σ HA _ ⟨_,_,_,_,_,sm⟩;exact uj (sm _ _ eSl)) ?_ ?_
  .rintro i v σ HA T1 hv dL ⟨o9,o10,fm,fk,rfl,sA⟩
   obtain⟨c,_,rfl⟩:=int_at hv;have sT:Same HA (upd HA T1 (.tup [.int i,.int c])):=uw dL _;have eT:(upd HA T1 (.tup [.int i,.int c])) T1=uA (.tup [.int i,.int c]):=Ab;generalize upd HA T1 (.tup [.int i,.int c])=HB at sT eT;have sB:=sA.trans sT;have BB:=B1.same sB;refine⟨T1,_,rfl,uk eT,rfl,_,_,rfl,_,_,rfl,rfl,?_⟩;refine⟨_,rfl,_,rfl,_,rfl,_,rfl,_,rfl,_,rfl,l,L,z,x,y,c,i,as,_,rfl,BB.rows.tl,BB.rows.ok,BB.rows.a12,BB.told,λs hs=>?_,λt su HC sC st=>?_⟩
   .obtain⟨h1,h2,_⟩:=(sol.mem s).mp hs
    exact⟨h1,h2⟩
   have BC:=BB.same sC;refine⟨_,rfl,_,rfl,_,rfl,_,rfl,l,t,z,x,y,as,su,rfl,BC.rows.tl,BC.rows.ok,BC.rows.a12,.inr st.at_,st.pw,st.lt,BC.xz,BC.yz,BC.xy,λdue HD sD qA=>?_⟩;have sD':=sB.trans (sC.trans sD);have st:=st.same sD;refine⟨λσ HE=>σ=lawS a l W r p L z x y (uA (.ref t)) (uA (.int i)) (uA (.int c)) (uA (.bl due))/\Same HD HE,?_,?_⟩
   .have BD:=B1.same sD'
    refine⟨_,rfl,_,rfl,p,t,_,hd,ae,up su,rfl,BD.sv.at_,BD.sv.cn.least.ok,BD.sv.cn.knot,.inr st.at_,λHE sE=>?_⟩;have e1:K31s.meets ae hd (up su)=due:=by
     rw[Tp BD.sv.cn.least.ok BD.sv.cn.knot,Ex,qA];exact BD.sv.ld su st.pw st.lt
    rw[e1];refine⟨_,rfl,rfl,_,rfl,iteNP rfl ?_⟩;obtain⟨us,hL,pL⟩:=(BD.same sE).told;refine⟨_,rfl,_,rfl,up su,_,⟨t,_,rfl,(st.same sE).at_,paired_ints _⟩,.inl ⟨L,us,rfl,hL,pL⟩,_,rfl,rfl,_,rfl,iteNP ?_ ⟨rfl,sE⟩⟩;rw[uC (show ¬ (false=true) by decide)]
    congr 1
    refine AGt (qA.trans ⟨λh=>A7.mpr ⟨su,(sol.mem su).mpr ⟨st.pw,st.lt,h⟩,rfl⟩,λh=>?_⟩);obtain⟨u,hu,eu⟩:=A7.mp h;rw[Mj eu] at hu;exact((sol.mem su).mp hu).2.2
   rintro σ HE ⟨rfl,sE⟩;have sE':=sD'.trans sE;have BE:=B1.same sE';have st:=st.same sE;have a12:=BE.rows.a12;obtain⟨dr,er,hR,hE⟩:=id BE.rule;refine⟨_,rfl,_,_,rfl,rfl,(by show(0:Int)<5;decide),rfl,_,rfl,?_⟩;have sr:∀{v:Bool},(v=true↔acc z (idF z) ((x,y)::edg (as.map srt) su))->v=due:=λhv=>by
    rw[Ex];exact hv.trans qA.symm
   by_cases c0:(i:Int)%5=0
   .refine iteP (congrArg V.int c0) ⟨_,rfl,r,dr,_,rfl,hR,Fg er (by decide+kernel),_,rfl,_,rfl,r,W,t,dr,er,z,x,y,as.map srt,su,rfl,hR,hE,BE.web,BE.xz,BE.yz,BE.xy,.inr st.at_,st.pw,by rw[bl];exact st.lt,BE.rows.z10,by rw[bl];exact a12,Fj BE.rows.ok,Dg BE.rows.ok,λv HF sF hv=>?_⟩
    cases sr hv;refine⟨_,rfl,rfl,_,rfl,iteNP rfl ?_⟩;refine⟨_,rfl,_,_,rfl,rfl,(by show(0:Int)<5;decide),rfl,_,rfl,iteN (λe=>by have:=V.int.inj e;lia) (iteF ⟨_,_,_,_,rfl,sE'.trans sF⟩)⟩
   .refine iteN (λe=>c0 (V.int.inj e)) (iteF ?_)
    refine⟨_,rfl,_,_,rfl,rfl,(by show(0:Int)<5;decide),rfl,_,rfl,ite2 (λ_=>?_) (λ_=>iteF ⟨_,_,_,_,rfl,sE'⟩)⟩;refine⟨_,rfl,r,dr,_,rfl,hR,Fg er (by decide+kernel),_,rfl,_,rfl,t,_,rfl,.inr st.at_,λY hY=>?_⟩;have sY:=uw hY (.lst ((up su).map V.int));have eY:(upd HE Y (.lst ((up su).map V.int))) Y=uA (.lst ((up su).map V.int)):=Ab;generalize upd HE Y (.lst ((up su).map V.int))=HY at sY eY;refine⟨r,W,Y,dr,er,z,x,y,as.map srt,su,rfl,sY _ _ hR,sY.ts.seq hE,BE.web.same sY,BE.xz,BE.yz,BE.xy,.inl (uj eY),st.pw,by rw[bl];exact st.lt,BE.rows.z10,by rw[bl];exact a12,Fj BE.rows.ok,Dg BE.rows.ok,λv HF sF hv=>?_⟩;cases sr hv;exact⟨_,rfl,rfl,_,rfl,iteNP rfl ⟨_,_,_,_,rfl,sE'.trans (sY.trans sF)⟩⟩
  rintro σ H2 ⟨o9,o10,fm,fk,rfl,s2⟩;exact q5 _ _ ⟨a,l,W,r,p,L,ns,z,x,y,as,ae,hd,o9,o10,fm,fk,rfl,B1.same s2⟩
 obtain⟨t3,h3,q3⟩:Pt K C D S (cxOf CX0 P w K mg base lawN "law" (Ae QL) f a7 A outer s H E).nox 8 Q:=by
  refine⟨_,Ad (Cv CY rfl (CQ (pv 8)) (BP (i:=9) Fe.nd)
    (Ag (Bl (ud (Fd (Fp (Ds (Ax ZM rfl T.isi KB (Aa (pv 9) (Aa (Yt (v:=.ty "tuple") rfl T.tuple De rfl) Ac)))))
     (Ek (Fp (Ds (BL GY bb rfl (Aa (pv 2) (Aa (pv 9) (Aa (pv 3) (Aa (pv 4) Ac)))))))))) (Ag (Ao FZ)) BK)))
   (Ad (Bl (ud (Fd (Fp (Ds (Ax (ABO cD oD is) rfl T.isi KB (Aa (pv 6) (Aa (Gn (v:=.ref R) rfl mgR rfl) Ac)))))
     (Ek (Fp (Ds (BL GL tV rfl (Aa (pv 6) (Aa (pv 1) (Aa (pv 2) (Aa (pv 3) (Aa (pv 4) Ac))))))))))) (Ag (Ao FZ)) BK)
   h4),?_⟩
  rintro σ H0 ⟨a,l,W,r,p,L,ns,z,x,y,as,ae,hd,o9,o10,fm,fk,rfl,B9⟩;obtain⟨us9,eL9,pL9⟩:=id B9.told;have sol:=B9.sv.sol;have ok:=B9.rows.ok;have a12:=B9.rows.a12;have xz:=B9.xz;have yz:=B9.yz;have xy:=B9.xy;refine⟨_,rfl,L,rfl,⟨_,eL9⟩,?_⟩;refine Ej (K:=K) (a:=L) (xs:=us9) (λi σ HA=>∃(o9:Option V),σ=lawS a l W r p L z x y o9 o10 fm fk/\Same H0 HA) ⟨_,rfl,um _⟩ (by rintro i σ HA _ ⟨_,_,sm⟩;exact sm.seq eL9) ?_ ?_
  .rintro i v σ HA hv ⟨o9,rfl,sA⟩
   obtain⟨su,u,es,rfl,hu⟩:=Hy pL9 hv;obtain⟨pw,lt,g0⟩:=(sol.mem su).mp (AT es);have BA:=B9.same sA;have hu:=sA.ts.seq hu;refine⟨_,rfl,u,_,rfl,hu,true,rfl,iteF ?_⟩;refine⟨_,rfl,_,rfl,_,rfl,_,rfl,l,u,z,x,y,as,su,rfl,BA.rows.tl,ok,a12,.inr hu,pw,lt,xz,yz,xy,λv HB sB hv=>?_⟩;cases hv.mpr g0;exact⟨true,rfl,iteF ⟨_,rfl,sA.trans sB⟩⟩
  rintro σ HA ⟨o9,rfl,sA⟩;have BA:=B9.same sA;obtain⟨dr9,er9,hR9,_⟩:=id BA.rule;refine⟨_,rfl,r,dr9,_,rfl,hR9,true,rfl,iteF ?_⟩;refine⟨_,rfl,_,rfl,_,rfl,_,rfl,_,rfl,r,l,z,x,y,as,rfl,BA.rule,BA.rows,xz,yz,xy,λHB sB=>⟨true,rfl,iteF ?_⟩⟩;exact q4 _ _ ⟨a,l,W,r,p,L,ns,z,x,y,as,ae,hd,o9,_,_,_,rfl,BA.same sB⟩
 obtain⟨t2,h2,q2⟩:Pt K C D S (cxOf CX0 P w K mg base lawN "law" (Ae QL) f a7 A outer s H E).nox 7 Q:=by
  refine⟨_,Ad (Bl (ud (Fd (Fp (Ds (Ax ABZ rfl T.isi KB (Aa (pv 8) (Aa (Yt (v:=.ty "list") rfl T.list EG rfl) Ac)))))
     (Fd (Fp (Ds (BL GO bb rfl (Aa (pv 8) Ac))))
     (Ek (Am (Rr (Gp DX) (CN hr)) (BL GE dm rfl (Aa (Hw GX ff rfl mG kG bG .nil pass0 (Aa (pv 5) (Aa (Gg MW GN hrN rfl mgW bN .nil pass0 (Aa (pv 4) (Aa (pv 3) Ac))) Ac))) Ac)) (pv 8)))))) (Ag (Ao FZ)) BK)
   h3,?_⟩
  rintro σ H0 ⟨a,l,W,r,p,L,ns,z,x,y,as,ae,hd,o9,o10,fm,fk,rfl,B5⟩;obtain⟨us,eL,pL⟩:=id B5.told;have sol:=B5.sv.sol;have z10:=B5.rows.z10;have z1:=B5.rows.z1;have ok:=B5.rows.ok;have a12:=B5.rows.a12;have xz:=B5.xz;have yz:=B5.yz;have xy:=B5.xy;have bl:(as.map srt).length=as.length:=AB ..;refine⟨_,rfl,L,us,rfl,eL,true,rfl,iteF ?_⟩;refine⟨_,rfl,L,as.length,_,rfl,B5.told,a12,λs hs=>?_,sol.ord,λH6 s6=>⟨true,rfl,iteF ?_⟩⟩
  .obtain⟨h1,h2,_⟩:=(sol.mem s).mp hs
   exact⟨h1,h2⟩
  have B6:=B5.same s6;refine⟨_,rfl,_,rfl,_,rfl,λr2 dr2 nr2 ndr2 nrd2=>?_⟩;have sr2:Same H6 (upd (upd H6 dr2 (.own r2)) r2 (.ins D dr2 [])):=Same.obj nr2 ndr2 _ _;refine⟨r2,dr2,y,x,rfl,Ab,λet2 H7 k7 he2 qD=>⟨rfl,?_⟩⟩;have s7:Same H6 H7:=λb o e=>k7 b o (sr2 b o e) (Ai e nr2);refine⟨(et2,y,x),W,r2,dr2,z,as.map srt,rfl,B6.web.same s7,qD,he2,⟨yz,xz,Bi xy⟩,z1,z10,by rw[bl];exact a12,Fj ok,Dg ok,λp2 eI dP H8 s8 hV2 cn2 tI r42=>?_⟩;rw[bl] at hV2 cn2 tI;refine⟨p2,_,dP,eI,rfl,hV2,cn2.least.ok,cn2.knot,a12,r42,λL2 se H9 s9 nL2 eL2 pL2=>?_⟩;have e2:setsOf eI dP=setsOf ae hd:=(WR cn2 tI).uniq sol λs=>ZS (Bi xy) s;have pL2:=JT pL2;rw[e2] at pL2;have B9:=B6.same (s7.trans (s8.trans s9));clear B6 B5 pL;obtain⟨us9,eL9,pL9⟩:=id B9.told;refine⟨_,rfl,_,_,⟨L2,se,rfl,uj eL2,pL2⟩,⟨L,us9,rfl,eL9,pL9⟩,_,rfl,iteNP rfl ?_⟩;exact q3 _ _ ⟨a,l,W,r,p,L,ns,z,x,y,as,ae,hd,o9,o10,fm,fk,rfl,B9⟩
 refine⟨_,Ad (Jr (BL GV ny rfl (Aa (BL GC bb rfl (Aa (pv 0) (Aa Af Ac))) Ac)) (Iv rfl (BW (BP (i:=1) Fe.nd) (BW (BP (i:=2) Fe.nd) DK))))
  (Ad (Ak (i:=3) Fe.nd (Ar Bu (BL GC bb rfl (Aa (pv 0) (Aa Af Ac))) (pv 1)))
  (Ad (Ak (i:=4) Fe.nd (Ar Bu (Ar Bv (Ar Bv (pv 3) Af) (Ar Bu (Ar Et (BL GC bb rfl (Aa (pv 0) (Aa Af Ac))) (pv 1)) (Ar Em (pv 1) Af))) (pv 1)))
  (Ad (Ak (i:=5) Fe.nd (Gg M GI p9 rfl T.mgC bI .nil pass0 (Aa (pv 1) (Aa (pv 2) Ac))))
  (Ad (Ak (i:=6) Fe.nd (Gg MW GN hrN rfl mgW bN .nil pass0 (Aa (pv 3) (Aa (pv 4) Ac))))
  (Ad (Ak (i:=7) Fe.nd (Hw GX ff rfl mG kG bG .nil pass0 (Aa (pv 5) (Aa (pv 6) Ac))))
  (Ad (Ak (i:=8) Fe.nd (BL GE dm rfl (Aa (pv 7) Ac)))
  h2)))))),?_⟩
 refine⟨_,rfl,a,ns,0,rfl,hS,by lia,λc0=>⟨c0,rfl,λt l z as H1 s1 ht hT ok z2 z10 a12=>?_⟩⟩;refine⟨t,_,rfl,ht,rfl,_,_,rfl,_,_,rfl,rfl,?_⟩;have zp:(0:Int)<(z:Int):=xc z2;have sc1:=s1.seq hS;refine⟨_,rfl,a,ns,1,rfl,sc1,xg,λc1=>⟨_,rfl,_,_,rfl,rfl,zp,?_⟩⟩;have x0:=EC c1 (show(z:Int)≠0 from zx z2);have xz:=DB c1 zp;dsimp only;obtain⟨x,ex⟩:=FH x0;rw[ex] at xz ⊢;have xz:x<z:=wx xz;refine⟨_,rfl,_,_,rfl,rfl,_,rfl,a,ns,1,rfl,sc1,xg,λc2=>⟨_,rfl,_,_,rfl,rfl,⟨zp,by lia⟩,_,rfl,_,_,rfl,rfl,_,_,rfl,rfl,(by show(0:Int)<(z:Int)-1;exact xf z2),_,_,rfl,rfl,_,rfl,_,_,rfl,rfl,zp,?_⟩⟩;dsimp only;obtain⟨y,ey,yz,xy⟩:=Ud (r:=c2 / (z:Int)) z2 xz;rw[ey];have B1:In K l z as H1:=⟨hT,ok,vN z2,z10,a12⟩;have bl:(as.map srt).length=as.length:=AB ..;obtain⟨ts,el,pl⟩:=id hT;refine⟨_,rfl,_,rfl,λW dW nW ndW nWd=>?_⟩;have sp:Same H1 (upd (upd H1 dW (.own W)) W (.ins C dW [])):=Same.obj nW ndW _ _;refine⟨W,dW,l,(z:Int),ts,as,rfl,Ab,sp.seq el,ut (λt x h=>.inr (Aq Aw _ _ _ _ sp.ts h)) pl,ok,a12,by lia,wu z10,λH2 k2 hW=>⟨rfl,?_⟩⟩;have s2:Same H1 H2:=λb o e=>k2 b o (sp b o e) (Ai e nW);refine⟨_,rfl,_,rfl,λr dr nr ndr nrd=>?_⟩;have sr:Same H2 (upd (upd H2 dr (.own r)) r (.ins D dr [])):=Same.obj nr ndr _ _;refine⟨r,dr,x,y,rfl,Ab,λet H3 k3 he hr'=>⟨rfl,?_⟩⟩;have s3:Same H2 H3:=λb o e=>k3 b o (sr b o e) (Ai e nr);have R3:RuleAt K D H3 r x y:=⟨dr,et,hr',he⟩;refine⟨_,rfl,_,rfl,(et,x,y),W,r,dr,z,as.map srt,rfl,hW.same s3,hr',he,⟨xz,yz,xy⟩,vN z2,z10,by rw[bl];exact a12,Fj ok,Dg ok,λp ae hd H4 s4 hV cn ld r4=>?_⟩;rw[bl] at hV cn ld;have G4:Grw K S H4 p z as x y ae hd:=⟨hV,cn,ld,r4⟩;refine⟨_,rfl,p,_,hd,ae,rfl,hV,cn.least.ok,cn.knot,a12,r4,λL us H5 s5 nL eL pL=>?_⟩;have pL:=JT pL;have qF:=s4.trans s5;have s15:=s2.trans (s3.trans qF);have B5:Bs K C D S a l W r p L ns z x y as ae hd H5:=⟨s15.seq sc1,B1.same s15,z2,xz,yz,xy,hW.same (s3.trans qF),R3.same qF,G4.same s5,us,uj eL,pL⟩;have sol:=G4.sol;exact q2 _ _ ⟨a,l,W,r,p,L,ns,z,x,y,as,ae,hd,uB,uB,uB,uB,rfl,B5⟩
end K31
namespace L2
open PySem PySem.Spec PyProof.Rows
section
variable{p r s:Str}
def cons1{us:List α}(h:us.length=n+1):∃a vs,us=a::vs/\vs.length=n:=by
 cases us with
 | nil=>cases h
 | cons a vs=>exact⟨a,vs,rfl,Nat.succ.inj h⟩
def bn1(h:∀kV bg pm an a7 ct a,B kV bg pm an a7 ct [a]=pure [(p,a)])(kV bg pm:AA)(an:Option Addr)(a7 ct:AA)(us:List AA)(hl:us.length=([p]:uU).length):B kV bg pm an a7 ct us=pure (([p]:uU).zip us):=by
 obtain⟨_,sj,rfl,jb⟩:=cons1 (n:=0) hl;obtain rfl:=CO.mp jb;exact h ..
def bn2(h:∀kV bg pm an a7 ct a b,B kV bg pm an a7 ct [a,b]=pure [(p,a),(q,b)])(kV bg pm:AA)(an:Option Addr)(a7 ct:AA)(us:List AA)(hl:us.length=([p,q]:uU).length):B kV bg pm an a7 ct us=pure (([p,q]:uU).zip us):=by
 obtain⟨_,sj,rfl,jb⟩:=cons1 (n:=1) hl;obtain⟨_,us1,rfl,du⟩:=cons1 (n:=0) jb;obtain rfl:=CO.mp du;exact h ..
def bn3(h:∀kV bg pm an a7 ct a b c,B kV bg pm an a7 ct [a,b,c]=pure [(p,a),(q,b),(r,c)])(kV bg pm:AA)(an:Option Addr)(a7 ct:AA)(us:List AA)(hl:us.length=([p,q,r]:uU).length):B kV bg pm an a7 ct us=pure (([p,q,r]:uU).zip us):=by
 obtain⟨_,sj,rfl,jb⟩:=cons1 (n:=2) hl;obtain⟨_,us1,rfl,du⟩:=cons1 (n:=1) jb;obtain⟨_,se,rfl,gz⟩:=cons1 (n:=0) du;obtain rfl:=CO.mp gz;exact h ..
def bn4(h:∀kV bg pm an a7 ct a b c d,B kV bg pm an a7 ct [a,b,c,d]=pure [(p,a),(q,b),(r,c),(s,d)])(kV bg pm:AA)(an:Option Addr)(a7 ct:AA)(us:List AA)(hl:us.length=([p,q,r,s]:uU).length):B kV bg pm an a7 ct us=pure (([p,q,r,s]:uU).zip us):=by
 obtain⟨_,sj,rfl,jb⟩:=cons1 (n:=3) hl;obtain⟨_,us1,rfl,du⟩:=cons1 (n:=2) jb;obtain⟨_,se,rfl,gz⟩:=cons1 (n:=1) du;obtain⟨_,us3,rfl,tm⟩:=cons1 (n:=0) gz;obtain rfl:=CO.mp tm;exact h ..
end
section
variable{st:Stmt}
def bn5{p r s o:Str}(h:∀kV bg pm an a7 ct a b c d e,B kV bg pm an a7 ct [a,b,c,d,e]=pure [(p,a),(q,b),(r,c),(s,d),(o,e)])(kV bg pm:AA)(an:Option Addr)(a7 ct:AA)(us:List AA)(hl:us.length=([p,q,r,s,o]:uU).length):B kV bg pm an a7 ct us=pure (([p,q,r,s,o]:uU).zip us):=by
 obtain⟨_,sj,rfl,jb⟩:=cons1 (n:=4) hl;obtain⟨_,us1,rfl,du⟩:=cons1 (n:=3) jb;obtain⟨_,se,rfl,gz⟩:=cons1 (n:=2) du;obtain⟨_,us3,rfl,tm⟩:=cons1 (n:=1) gz;obtain⟨_,us4,rfl,qS⟩:=cons1 (n:=0) tm;obtain rfl:=CO.mp qS;exact h ..
inductive Df (K:As) (x:Str) (st:Stmt):Prop
 | mk (f:Addr) (od an:Option Addr) (sl:Array (Option AA)) (oc kV dc pm cd ct:AA) (a:G7 K DC x=uA (uA (.ref f))) (l:K.lookup f=uA ⟨oc,od,.func (Fm x x (Ec st) (DY st) (Ae st) .none kV dc pm an cd ct),sl⟩) (c:IH K cd x=true) (k:DI K (.ref f)=true):Df K x st
inductive Md (K:As) (C:Addr) (x q:Str) (st:Stmt):Prop
 | mk (f:Addr) (od an:Option Addr) (sl:Array (Option AA)) (oc kV dc pm cd ct:AA) (a:DL K (.ref C) x=uA (uA (.ref f))) (i:MU K (.ref f)=true) (l:K.lookup f=uA ⟨oc,od,.func (Fm x q (Ec st) (DY st) (Ae st) .none kV dc pm an cd ct),sl⟩) (c:IH K cd q=true) (k:DI K (.ref f)=true):Md K C x q st
inductive DfO (K:As) (mg:Str->Option AA) (x:Str) (st:Stmt) (ps:uU):Prop
 | mk (f:Addr) (fd:Bz) (F:Fun K x x st f fd) (b:Binds K fd ps []) (m:mg x=uA (.ref f)) (k:DI K (.ref f)=true):DfO K mg x st ps
inductive MdO (K:As) (C:Addr) (x q:Str) (st:Stmt) (ps:uU):Prop
 | mk (f:Addr) (fd:Bz) (F:Fun K x q st f fd) (b:Binds K fd ps []) (m:Meth K C x f):MdO K C x q st ps
def Df.get(D:Df K x st)(X:K.In h)(G:h.Ns DC mg)(hb:∀(kV bg pm:AA) (an:Option Addr) (a7 ct:AA) (us:List AA),us.length=ps.length->T7 (Fm x x (Ec st) (DY st) (Ae st) .none kV bg pm an a7 ct) ⟨us,[]⟩=pure (ps.zip us)):DfO K mg x st ps:=by
 cases D with
 | mk f od an sl oc kV dc pm cd ct a l c k=>exact⟨f,_,Ld l c k,(Ld l c k).binds hb,FD X G a,k⟩
def Md.get(D:Md K C x q st)(hb:∀(kV bg pm:AA) (an:Option Addr) (a7 ct:AA) (us:List AA),us.length=ps.length->T7 (Fm x q (Ec st) (DY st) (Ae st) .none kV bg pm an a7 ct) ⟨us,[]⟩=pure (ps.zip us)):MdO K C x q st ps:=by
 cases D with
 | mk f od an sl oc kV dc pm cd ct a i l c k=>exact⟨f,_,Ld l c k,(Ld l c k).binds hb,⟨a,i,k⟩⟩
def Df.of{kV:AA}(a:G7 K DC x=uA (uA (.ref f)))(l:K.lookup f=uA ⟨oc,od,.func (Fm x x (Ec st) (DY st) (Ae st) .none kV dc pm an cd ct),sl⟩)(c:IH K cd x=true)(k:DI K (.ref f)=true):Df K x st:=⟨f,od,an,sl,oc,kV,dc,pm,cd,ct,a,l,c,k⟩
def Md.of{kV:AA}(a:DL K (.ref C) x=uA (uA (.ref f)))(i:MU K (.ref f)=true)(l:K.lookup f=uA ⟨oc,od,.func (Fm x q (Ec st) (DY st) (Ae st) .none kV dc pm an cd ct),sl⟩)(c:IH K cd q=true)(k:DI K (.ref f)=true):Md K C x q st:=⟨f,od,an,sl,oc,kV,dc,pm,cd,ct,a,i,l,c,k⟩
structure Kl(K:As)(n:Str)(D:Addr):Prop where
 y:G7 K DC n=uA (uA (.ref D))
 c:Cls K D
 mk_:MV K D=true
 kp:DI K (.ref D)=true
def Kl.of(y:G7 K DC x=uA (uA (.ref C)))(a:KL K C Str.empty=true)(b:LV K C=true)(c:OE K C=true)(d:DL K (.ref C) "__setattr__" = uA (uA (.builtin "object.__setattr__")))(m:MV K C=true)(k:DI K (.ref C)=true):Kl K x C:=⟨y,⟨a,b,c,d⟩,m,k⟩
def Nn(K:As):uU->Prop
 | []=>True
 | x::l=>G7 K DC x=uA uB/\Nn K l
def Na(K:As)(C:Addr):uU->Prop
 | []=>True
 | x::l=>DL K (.ref C) x=uA uB/\Na K C l
def Nn.one{l:uU}(a:G7 K DC x=uA uB)(b:Nn K l):Nn K (x::l):=⟨a,b⟩
def Na.one{l:uU}(a:DL K (.ref C) x=uA uB)(b:Na K C l):Na K C (x::l):=⟨a,b⟩
end
end L2
namespace PySem.W.Fast
def tw5471719259557447486:=True
def tw12518535230531979970:=True
def tw16911253825853656855:=True
def tw11599802582810386328:=True
def tw3673204682270750491:=True
def tw1649731564402310662:=True
def tw2100646029544435295:=True
def tw3919460518598106202:=True
def tw16233857533115465493:=True
def tw3332452238887234143:=True
def tw1398292542094456274:=True
def tw9257633700807091144:=True
def tw17515621765217262086:=True
def tw17656869753188704047:=True
def tw8621649596233252014:=True
def tw15717539196238554165:=True
def tw11612515545999050479:=True
def tw7239278154672337240:=True
def tw8887899023796023620:=True
def tw8743393039592034415:=True
def tw4484542603254482215:=True
def tw8247486052575915645:=True
def tw2954778684162088374:=True
def tw10171263511686973174:=True
def tw9569992452297775253:=True
def tw8015413519123125094:=True
def tw18130037711289440924:=True
def tw12117750079389890420:=True
def tw11590567695816608755:=True
def tw4597459165559057124:=True
def tw11562001300825991738:=True
def tw4524000503362303337:=True
def tw5793747477960838378:=True
def tw3539211915228303891:=True
def tw9200658924621931265:=True
def tw15776646274145642182:=True
def tw8953236488987193507:=True
def tw18083306830827274432:=True
def tw17872985424114739848:=True
def tw15715139621320263977:=True
def tw3277081791298112515:=True
def tw12499993703891185525:=True
def tw5353022603970126145:=True
def tw6549938922850374303:=True
def tw4924173349734531089:=True
def tw402725022552555385:=True
def tw3972529594533049778:=True
def tw4829143067953155880:=True
def tw11102852305719436395:=True
def tw10979732156189776752:=True
def tw15837731642454997240:=True
def tw7734072032950439757:=True
def tw17546396782373834298:=True
def tw17058494105742611091:=True
def tw148582648359257557:=True
def tw14409619854053685203:=True
def tw14346417044498610448:=True
def tw14217595489390381848:=True
def tw2417765686234020470:=True
def tw11907474043306512982:=True
def tw9596591629427722623:=True
def tw9880202264738659826:=True
def tw983067484426967352:=True
def tw3918306378454448781:=True
def tw11989072488945993415:=True
def tw11594032999436803558:=True
def tw11026186190643299120:=True
def tw6827173586856876178:=True
def tw3105555150429599765:=True
def tw2985842577969024323:=True
def tw7291789145706504568:=True
def tw7787982556793295874:=True
def tw2684969329980403125:=True
def tw220639733791337342:=True
def tw2202439897136193344:=True
def tw17535000268506188923:=True
def tw17406129053011321808:=True
def tw15739805710412880856:=True
def tw8118912542983363393:=True
def tw7952339330112885420:=True
def tw6325231725511677245:=True
def tw623208812122752500:=True
def tw3471127063862074830:=True
def tw2177185366219315396:=True
def tw10032379661503683269:=True
def tw10225410673195890308:=True
def tw10274489437925661423:=True
def tw10337521979120586578:=True
def tw10414213173726829498:=True
def tw10428208985461340186:=True
def tw10436275041386326677:=True
def tw10470641937943333877:=True
def tw10482378281978367476:=True
def tw1048426036753310180:=True
def tw10577961086206209823:=True
def tw10623204233173807447:=True
def tw10642510112546320856:=True
def tw10733179598056765067:=True
def tw10896035408480042868:=True
def tw10936051155605245280:=True
def tw11005278057361525307:=True
def tw11017226203848666829:=True
def tw11072009772670710271:=True
def tw11129488713155773497:=True
def tw11141181076034872157:=True
def tw11176277365249423099:=True
def tw11451845434836913302:=True
def tw11490329855118484854:=True
def tw11559623964694928161:=True
def tw11795428695749698382:=True
def tw1181064046967125202:=True
def tw11850611708572648998:=True
def tw11904528055193050:=True
def tw11956216275371036159:=True
def tw11964972135687440952:=True
def tw11988107687963476295:=True
def tw12081641017123140427:=True
def tw12153077789485524135:=True
def tw12262219445076561284:=True
def tw12270583138328634351:=True
def tw12367803014095758519:=True
def tw1239390174453959073:=True
def tw12461008977710104101:=True
def tw12477016283629746940:=True
def tw12491660572461040651:=True
def tw12610483066049533813:=True
def tw12656405422761454248:=True
def tw12667412302619161748:=True
def tw12683577532442963634:=True
def tw12694287120891423022:=True
def tw12705487621415355117:=True
def tw12711106743763072247:=True
def tw12750716248555548504:=True
def tw12780802085241460668:=True
def tw1280481546018477110:=True
def tw12842417180512294884:=True
def tw12888811766987973244:=True
def tw13023524131698179841:=True
def tw1308516179792990036:=True
def tw13243928233894547218:=True
def tw13296431550933140720:=True
def tw13393065524276103427:=True
def tw13446364439170194939:=True
def tw13636926740750367675:=True
def tw13667974755504067694:=True
def tw13797366027880602134:=True
def tw13924468209543876676:=True
def tw1403708348806876170:=True
def tw14231591589373325131:=True
def tw14283908113879556111:=True
def tw14291292710997022526:=True
def tw14298183502917241133:=True
def tw14299839766412920300:=True
def tw14337157108985808683:=True
def tw1450572923183346266:=True
def tw14522867828082311905:=True
def tw14622461851642977738:=True
def tw14688075494542844089:=True
def tw14695831195964218512:=True
def tw14728513749621665054:=True
def tw14757037858590252641:=True
def tw14808749957008540460:=True
def tw14891580702390568955:=True
def tw14971387533432863130:=True
def tw15004512038435058781:=True
def tw15010197056797458245:=True
def tw1501078343945732440:=True
def tw15057407469844924380:=True
def tw154620466513848478:=True
def tw15608022803783937116:=True
def tw15631121780185778853:=True
def tw15742260709733775660:=True
def tw15744760497868498626:=True
def tw15801369064126296392:=True
def tw15950016566971351846:=True
def tw16000303709011644313:=True
def tw16101169857299766520:=True
def tw16104305640385989727:=True
def tw1611115508519009087:=True
def tw16140243485307763056:=True
def tw16148158109597045725:=True
def tw16228415641814278254:=True
def tw16327252135983130514:=True
def tw16355256130883334008:=True
def tw16370914762858117538:=True
def tw16442512105236044250:=True
def tw16448021275614651421:=True
def tw16462954183322731613:=True
def tw16587118330795503916:=True
def tw16708547074934806675:=True
def tw16735018030018484736:=True
def tw16791041582750515269:=True
def tw16792079118457373227:=True
def tw16834814056928125333:=True
def tw16996094919086173321:=True
def tw17050100895696767929:=True
def tw17134222555905652812:=True
def tw17151600416541883663:=True
def tw1718291080893123427:=True
def tw17266748432099673761:=True
def tw17497813297665513844:=True
def tw17541921407869508215:=True
def tw17711833779930273394:=True
def tw17761311098132420612:=True
def tw17850320823553830248:=True
def tw18004981439963413116:=True
def tw18051920054512611572:=True
def tw1810044907623918424:=True
def tw18175566380819125752:=True
def tw18187592193906292521:=True
def tw18214778492721244889:=True
def tw18331028326984715260:=True
def tw2033381800576019487:=True
def tw2111257539870588694:=True
def tw2188470284657019468:=True
def tw2216540410981682370:=True
def tw2302504878740489572:=True
def tw2465268733983601008:=True
def tw249582832907545746:=True
def tw2519636275377817267:=True
def tw2532576391639803632:=True
def tw260105454938056922:=True
def tw2624235300551521809:=True
def tw2684871042778111923:=True
def tw2704876561505570324:=True
def tw2749927385133139414:=True
def tw2833314870237060733:=True
def tw2911772847785097294:=True
def tw291453443825738076:=True
def tw2949157355505538623:=True
def tw3039836725500426284:=True
def tw3090381483705591313:=True
def tw3152967012036222075:=True
def tw3319002011757509399:=True
def tw3443012888990515316:=True
def tw3493866056092789521:=True
def tw3518579811374054840:=True
def tw3542079533765081548:=True
def tw3585099157794053275:=True
def tw3603596388800307676:=True
def tw3659972914602724805:=True
def tw3703366791251335317:=True
def tw3732136481401849609:=True
def tw3869730525017981989:=True
def tw3904113383226029829:=True
def tw3915806919478572523:=True
def tw4029122777668091423:=True
def tw4048494061676062466:=True
def tw405736194792154299:=True
def tw4075150716038216710:=True
def tw410027703833868613:=True
def tw4129870989660902964:=True
def tw4171642864192971564:=True
def tw417844216722609294:=True
def tw4321653334672443649:=True
def tw4341976146859649506:=True
def tw4352397279320540840:=True
def tw4401240919147956440:=True
def tw4509195577993886792:=True
def tw4528164120714981706:=True
def tw4602836848594342820:=True
def tw4732943056851171820:=True
def tw4734155725080275286:=True
def tw4885628274352920264:=True
def tw4897758719123367156:=True
def tw4974160221006144995:=True
def tw4984823753485528010:=True
def tw5055898740253140278:=True
def tw5057965070067164416:=True
def tw5123633380872808285:=True
def tw5127449336872151785:=True
def tw5155137620949176587:=True
def tw5176627362236790155:=True
def tw5230468138802343227:=True
def tw5445862301942246148:=True
def tw5499733072010408080:=True
def tw5525249530891132124:=True
def tw5641647260386345212:=True
def tw5772673858327442063:=True
def tw5781551294230766381:=True
def tw5815700771299383903:=True
def tw5843047537898903329:=True
def tw5864587623969319141:=True
def tw5898589528113659989:=True
def tw5931295278013392555:=True
def tw5992629086866028864:=True
def tw6022694402152243464:=True
def tw6058304551191028639:=True
def tw6066545598264556216:=True
def tw6074308285403922761:=True
def tw6305047476853407067:=True
def tw6380859147329982748:=True
def tw6453249607981147418:=True
def tw6534131122015314639:=True
def tw6690244269374552630:=True
def tw6743360030441277604:=True
def tw6803629299148285537:=True
def tw6863505997041009057:=True
def tw6908836924158882787:=True
def tw6920398239921684393:=True
def tw7067429441729538146:=True
def tw7074819754964397070:=True
def tw7123022668657901898:=True
def tw7181012901541829285:=True
def tw7224773521342699745:=True
def tw7242041851337188541:=True
def tw7348900442994857482:=True
def tw7539120655143509133:=True
def tw7583473203200895302:=True
def tw7686980167462255024:=True
def tw7693383430344606477:=True
def tw7885568452032597374:=True
def tw8032655508496888855:=True
def tw8090083407341274871:=True
def tw8128825790288014815:=True
def tw8292356184038756285:=True
def tw8443502968340470245:=True
def tw8494737553451811895:=True
def tw8502928869650382693:=True
def tw8542006884950002437:=True
def tw8546103651486974077:=True
def tw8546871182915420181:=True
def tw8687101661578021701:=True
def tw8697264632406430519:=True
def tw886661233936101729:=True
def tw8879695800573786430:=True
def tw8940333836755658736:=True
def tw9003258664248803912:=True
def tw9072036052727603105:=True
def tw9096597666333560731:=True
def tw9167414188289015720:=True
def tw9236202141437558953:=True
def tw9384561678223772875:=True
def tw9390495579471885349:=True
def tw9495476688505695718:=True
def tw9536525638133869947:=True
def tw9578536952047635415:=True
def tw9591057202296941786:=True
def tw9621475940890740776:=True
def tw9741685751676980182:=True
def tw9802763128022420336:=True
def tw9874113307418326927:=True
def tw9913905146288660909:=True
def tw9988663401320767868:=True
end PySem.W.Fast
namespace K31
open PySem L2 G
def bn6{p r s o n:Str}(h:∀kV bg pm an a7 ct a b c d e f,B kV bg pm an a7 ct [a,b,c,d,e,f]=pure [(p,a),(q,b),(r,c),(s,d),(o,e),(n,f)])(kV bg pm:AA)(an:Option Addr)(a7 ct:AA)(us:List AA)(hl:us.length=([p,q,r,s,o,n]:uU).length):B kV bg pm an a7 ct us=pure (([p,q,r,s,o,n]:uU).zip us):=by
 obtain⟨_,sj,rfl,jb⟩:=cons1 (n:=5) hl;obtain⟨_,us1,rfl,du⟩:=cons1 (n:=4) jb;obtain⟨_,se,rfl,gz⟩:=cons1 (n:=3) du;obtain⟨_,us3,rfl,tm⟩:=cons1 (n:=2) gz;obtain⟨_,us4,rfl,qS⟩:=cons1 (n:=1) tm;obtain⟨_,us5,rfl,hl5⟩:=cons1 (n:=0) qS;obtain rfl:=CO.mp hl5;exact h ..
def all_mk{l:Pw}{Wy Sv Gw:Addr}(X:K.In h)(G:h.Ns DC mg)(hfa:mg "law" = uA (.ref fa))
  (U_C:Kl K "Web" C) (U_Wy:Kl K "Ways" Wy) (U_Sv:Kl K "Sieve" Sv) (U_Gw:Kl K "Growth" Gw) (h_init:Md K C "__init__" "Web.__init__" NQ) (h_size:Md K C "size" "Web.size" ADW) (h_ties:Md K C "ties" "Web.ties" ACm) (h_at:Md K C "at" "Web.at" sAt) (h_amt:Df K "refuse_amounts" AGp) (h_chk:Df K "checked_ties" AGA) (h_pts:Df K "refuse_points" AGY) (h_parts:Df K "web_parts" Rf) (h_heads:Df K "part_heads" XF) (h_one:Df K "parts_as_one" AEa) (h_under:Df K "points_under" Qm) (h_counts:Df K "tie_counts" Ka) (h_within:Df K "ties_within" Ks) (h_none2:Df K "none_or_two" Qs) (h_onep:Df K "is_one_piece" YW) (h_cell:Df K "_law_at" AAz) (h_mix:Df K "_law_mixed" AGK) (h_graph:Df K "least_graph" K31s.LR) (h_reach:Df K "reached_knots" K31s.Rp) (h_in:Df K "row_in_places" K31s.sIn) (h_sets:Df K "sets_of" K31s.YM) (h_has:Df K "has_set" K31s.AGJ) (h_grown:Df K "grown" Wf) (h_behp:Df K "points_behind" Kz) (h_tied:Df K "strands_tied" ADS) (h_rows:Df K "_law_rows" RK) (h_webl:Df K "_law_web" ABb) (h_bits:Df K "_law_bits" YT) (h_walked:Df K "_law_walked" QW) (h_isway:Df K "_law_is_way" RM) (h_setl:Df K "_law_set" ACQ) (h_inord:Df K "_law_in_order" Gs) (h_else:Df K "_law_elsewhere" YF) (h_beside:Df K "_law_beside" Rj) (h_law:Df K "law" QL) (h_wtaken:Md K Wy "taken" "Strands.taken" Wb) (h_wpassed:Md K Wy "passed" "Strands.passed" Kf) (h_wful:Md K Wy "fulfilled" "Strands.fulfilled" AGW) (h_wleft:Md K Wy "left" "Rule.left" ABu) (h_wstay:Md K Wy "may_stay" "Strands.may_stay" ABn) (h_wclosed:Md K Wy "closed" "Strands.closed" Jc) (h_wbegun:Md K Wy "begun" "Ways.begun" Qn) (h_wref:Md K Wy "refuse_web" "Ways.refuse_web" Qz) (h_winit:Md K Wy "__init__" "Ways.__init__" Xb) (h_wfits:Md K Wy "fits" "Ways.fits" Rv) (h_sinit:Md K Sv "__init__" "Sieve.__init__" K31s.NQ) (h_knots:Md K Sv "knots" "Sieve.knots" K31s.Vk) (h_stop:Md K Sv "top" "Sieve.top" K31s.AGx) (h_smany:Md K Sv "many" "Sieve.many" K31s.ADJ) (h_ginit:Md K Gw "__init__" "Growth.__init__" QJ) (h_knotat:Md K Gw "knot_at" "Growth.knot_at" Ku) (h_past:Md K Gw "past_points" "Growth.past_points" ADH) (N_C:Na K C ["amount","joints"]) (N_Sv:Na K Sv ["amount","rows","head"]) (N_Wy:Na K Wy ["ends"]) (N_Gw:Na K Gw ["web","rule","amount","behind","rows","known"]) (N_N:Nn K ["len","range","int","max","min","sorted","tuple","list","bool","enumerate","isinstance","all","set","reversed","zip"]) {t0:Tok} (v0:G7 K DC "MOST_POINTS" = uA (uA (.int 10 t0))) {t1:Tok} (v1:G7 K DC "MOST_TIES" = uA (uA (.int 12 t1))) (mH:DL K (.ref Wy) "__class__" = uA (uA (.builtin "object.__class__"))) (mJ:PySem.W.specialIn K (.builtin "object.__class__") "__get__" = uA (uA (.builtin "getset_descriptor.__get__"))) (mO:PySem.W.takesIn K (.builtin "object.__class__")=uA true) (mQ:PySem.W.mroIn K Wy (.type "object")=uA true) (mV:Q5 K (.ref Wy) (.ref Wy)=uA true) (pQ:G7 K DC "Rule" = uA (uA (.ref R))) (pF:Q5 K (.ref Wy) (.ref R)=uA true){odd:Option Addr}{ndd:Nat}{sld:Array (Option AA)} (y_done:G7 K DC "DONE" = uA (uA (.ref da))) (ju:K.lookup da=uA ⟨.type "tuple",odd,.seq #[] ndd,sld⟩) :
  ∃fd:Bz,(∀(s:AC) (v:AA),QE s fd ⟨[v],[]⟩ [("_law_script",v)])/\∀base:Heap,K.In base->base.Ns DC mg->FnOk l.prog w K mg base CX0 20 fa fd ["_law_script"] (Tw K):=by
 obtain⟨_,_,jx,bQ,au⟩:=h_init.get (ps:=["self","many","ties"]) (bn3 (by intros;rfl));obtain⟨_,_,jy,ak,m_size⟩:=h_size.get (ps:=["self"]) (bn1 (by intros;rfl));obtain⟨_,_,jA,aL,aM⟩:=h_ties.get (ps:=["self"]) (bn1 (by intros;rfl));obtain⟨_,_,pG,jB,jC⟩:=h_at.get (ps:=["self","point"]) (bn2 (by intros;rfl));obtain⟨_,_,mW,mX,mY,mZ⟩:=h_amt.get X G (ps:=["points","ties"]) (bn2 (by intros;rfl));obtain⟨_,_,m5,m7,m8,m9⟩:=h_chk.get X G (ps:=["many","ties"]) (bn2 (by intros;rfl));obtain⟨_,_,nu,nF,nG,nO⟩:=h_pts.get X G (ps:=["many","tie"]) (bn2 (by intros;rfl));obtain⟨_,_,fQ,fZ,f9,gj⟩:=h_parts.get X G (ps:=["web","some"]) (bn2 (by intros;rfl));obtain⟨_,_,gk,gn,gq,gw⟩:=h_heads.get X G (ps:=["web","some"]) (bn2 (by intros;rfl));obtain⟨_,_,nQ,nZ,oh,k_one⟩:=h_one.get X G (ps:=["heads","one","other"]) (bn3 (by intros;rfl));obtain⟨_,_,gA,gC,gF,gG⟩:=h_under.get X G (ps:=["heads","head"]) (bn2 (by intros;rfl));obtain⟨_,_,cM,cN,cO,cP⟩:=h_counts.get X G (ps:=["web","some"]) (bn2 (by intros;rfl));obtain⟨_,_,cQ,cR,cT,cU⟩:=h_within.get X G (ps:=["numbers","some"]) (bn2 (by intros;rfl));obtain⟨_,_,gH,gJ,gK,gM⟩:=h_none2.get X G (ps:=["counts"]) (bn1 (by intros;rfl));obtain⟨_,_,jD,jE,jF,jG⟩:=h_onep.get X G (ps:=["web","some"]) (bn2 (by intros;rfl));obtain⟨_,_,jH,jJ,jK,jL⟩:=h_cell.get X G (ps:=["_law_script","_law_k"]) (bn2 (by intros;rfl));obtain⟨_,_,ou,d9,eF,eG⟩:=h_mix.get X G (ps:=["_law_cell"]) (bn1 (by intros;rfl));obtain⟨_,_,gO,gP,gQ,gU⟩:=h_graph.get X G (ps:=["n","rows","top"]) (bn3 (by intros;rfl));obtain⟨_,_,gW,gY,gZ,g8⟩:=h_reach.get X G (ps:=["rows","top"]) (bn2 (by intros;rfl));obtain⟨_,_,pH,pI,pJ,k_in⟩:=h_in.get X G (ps:=["places","row"]) (bn2 (by intros;rfl));obtain⟨_,_,jM,aN,aO,aP⟩:=h_sets.get X G (ps:=["sieve"]) (bn1 (by intros;rfl));obtain⟨_,_,oA,eN,eU,eV⟩:=h_has.get X G (ps:=["sieve","some"]) (bn2 (by intros;rfl));obtain⟨_,_,iu,aB,aC,aD⟩:=h_grown.get X G (ps:=["web","rule"]) (bn2 (by intros;rfl));obtain⟨_,_,jN,jO,jP,jQ⟩:=h_behp.get X G (ps:=["web","number"]) (bn2 (by intros;rfl));obtain⟨_,_,jR,bV,bW,bY⟩:=h_tied.get X G (ps:=["state","tie"]) (bn2 (by intros;rfl));obtain⟨_,_,jT,jU,jV,jW⟩:=h_rows.get X G (ps:=["_law_many","_law_number"]) (bn2 (by intros;rfl));obtain⟨_,_,jX,jY,jZ,j4⟩:=h_webl.get X G (ps:=["_law_cell"]) (bn1 (by intros;rfl));obtain⟨_,_,j5,j6,j7,j8⟩:=h_bits.get X G (ps:=["_law_rows_here","_law_cell"]) (bn2 (by intros;rfl));obtain⟨_,_,cV,cW,cX,cY⟩:=h_walked.get X G (ps:=["_law_rows_here","_law_begin","_law_end","_law_cell"]) (bn4 (by intros;rfl));obtain⟨_,_,iw,aF,aG,aH⟩:=h_isway.get X G (ps:=["_law_rows_here","_law_some","_law_begin","_law_end"]) (bn4 (by intros;rfl));obtain⟨_,_,j9,kj,kE,kI⟩:=h_setl.get X G (ps:=["_law_rows_here","_law_begin","_law_end","_law_told","_law_cell","_law_k"]) (bn6 (by intros;rfl));obtain⟨_,_,iC,iD,iG,iH⟩:=h_inord.get X G (ps:=["_law_told"]) (bn1 (by intros;rfl));obtain⟨_,_,kJ,kO,kW,kY⟩:=h_else.get X G (ps:=["_law_rule","_law_many","_law_rows_here","_law_begin","_law_end"]) (bn5 (by intros;rfl));obtain⟨_,_,cZ,dj,dz,dB⟩:=h_beside.get X G (ps:=["_law_web_here","_law_rows_here","_law_begin","_law_end"]) (bn4 (by intros;rfl));obtain⟨_,_,dD,dF,dG⟩:=h_wtaken.get (ps:=["self","web","state","number"]) (bn4 (by intros;rfl));obtain⟨_,_,bZ,cg,cj⟩:=h_wpassed.get (ps:=["self","web","state","point"]) (bn4 (by intros;rfl));obtain⟨_,_,kZ,lg,lA⟩:=h_wful.get (ps:=["self","web","state"]) (bn3 (by intros;rfl));obtain⟨_,_,iI,iJ,iK⟩:=h_wleft.get (ps:=["self","web","state","number"]) (bn4 (by intros;rfl));obtain⟨_,_,iM,aX,aY⟩:=h_wstay.get (ps:=["self","state","point"]) (bn3 (by intros;rfl));obtain⟨_,_,cu,cA,cB⟩:=h_wclosed.get (ps:=["self","state","tie"]) (bn3 (by intros;rfl));obtain⟨_,_,dH,dI,dJ⟩:=h_wbegun.get (ps:=["self","web"]) (bn2 (by intros;rfl));obtain⟨_,_,lC,cC,cF⟩:=h_wref.get (ps:=["self","web"]) (bn2 (by intros;rfl));obtain⟨_,_,iQ,aZ,ao⟩:=h_winit.get (ps:=["self","a","b"]) (bn3 (by intros;rfl));obtain⟨_,_,iR,bf,bw⟩:=h_wfits.get (ps:=["self","web","some"]) (bn3 (by intros;rfl));obtain⟨_,_,iT,iU,bx⟩:=h_sinit.get (ps:=["self","n","rows","head"]) (bn4 (by intros;rfl));obtain⟨_,_,iV,aJ,aK⟩:=h_knots.get (ps:=["self"]) (bn1 (by intros;rfl));obtain⟨_,_,lD,cG,cH⟩:=h_stop.get (ps:=["self"]) (bn1 (by intros;rfl));obtain⟨_,_,iW,iY,iZ⟩:=h_smany.get (ps:=["self"]) (bn1 (by intros;rfl));obtain⟨_,_,jc,jd,bC⟩:=h_ginit.get (ps:=["self","web","rule"]) (bn3 (by intros;rfl));obtain⟨_,_,dM,aQ,aR⟩:=h_knotat.get (ps:=["self","number","reached"]) (bn3 (by intros;rfl));obtain⟨_,_,lE,lF,lG⟩:=h_past.get (ps:=["self","number","reached"]) (bn3 (by intros;rfl));obtain⟨n0,n1,_⟩:=N_C;obtain⟨dN,lH,lJ,_⟩:=N_Sv;obtain⟨aA,_⟩:=N_Wy;obtain⟨oE,lK,dR,dU,lM,je,_⟩:=N_Gw;obtain⟨z0,z1,z2,z3,z4,z5,z6,z7,z8,z9,z10,bD,oF,bH,oG,_⟩:=N_N;obtain⟨_,_,_,_,_,_,_,_,_,_,oH,oJ,oK,oM⟩:=h_law;have e:=hfa.symm.trans (FD X G oH);cases e;have oN:=Ld (st:=QL) oJ oK oM;have law_all:∀base:Heap,FnOk l.prog w K mg base CX0 20 _ _ ["_law_script"] (Tw K):=λbase=>by
  have T:Txt K mg C:=⟨U_C.c,n0,n1,FD X G U_C.y,⟨_,FD X G v0⟩,⟨_,FD X G v1⟩,BS X G z0,BS X G z1,BS X G z2,BS X G z3,BS X G z4,BS X G z5,BS X G z6,BS X G z7,BS X G z8,BS X G z9,BS X G z10⟩;have oO:=AEM (P:=l.prog) (w:=w) (base:=base) jH T;have lN:=AHP (P:=l.prog) (w:=w) (mg:=mg) (base:=base) ou;have pK:=AHQ (P:=l.prog) (w:=w) (base:=base) mW T;have pN:=AGS (P:=l.prog) (w:=w) (mg:=mg) (base:=base) nu;have pO:=AHJ m5 T ⟨pN,nF,nO,nG⟩;have fj:=JL jx T ⟨pK,mX,mZ,mY⟩ ⟨pO,m7,m9,m8⟩;have aq:=AEI (P:=l.prog) (w:=w) (base:=base) jy T;have bJ:=AEs (P:=l.prog) (w:=w) (base:=base) jA T;have pD:=AHp (P:=l.prog) (w:=w) (base:=base) pG T;have jf:=ZJ (P:=l.prog) (w:=w) (mg:=mg) (base:=base) cQ;have jg:=ZD cM T aq ak m_size pD jB jC ⟨jf,cR,cU,cT⟩;have TS:K31s.Txt K mg Sv:=⟨U_Sv.c,dN,lH,lJ,FD X G U_Sv.y,BS X G z0,BS X G z1,BS X G z2,BS X G z5,BS X G oF,BS X G z6,BS X G z7,BS X G z8,BS X G z9,BS X G bD,BS X G z10,BS X G z4,BS X G bH⟩;have Nd:Dn K mg da:=⟨FD X G y_done,λH=>.inr ⟨_,#[],ndd,ju,rfl,rfl,By _,.nil⟩⟩;have O:Gro K mg Gw:=⟨U_Gw.c,FD X G U_Gw.y,oE,lK,dR,dU,lM,je⟩;have pP:=AGB (P:=l.prog) (w:=w) (base:=base) nQ T;have lQ:=ABJ (P:=l.prog) (w:=w) (base:=base) gA T;have lR:=ABU gk T aq ak m_size bJ aL aM ⟨pP,nZ,k_one,oh⟩;have lU:=ACr fQ T aq ak m_size ⟨lR,gn,gw,gq⟩ ⟨lQ,gC,gG,gF⟩;have GNone2:=ABP (P:=l.prog) (w:=w) (base:=base) gH (BS X G bD);have oR:=AEJ jD T ⟨lU,fZ,gj,f9⟩;have lV:=K31s.JL (P:=l.prog) (w:=w) (base:=base) iT TS;have aU:=K31s.ACf (P:=l.prog) (w:=w) (base:=base) iV TS;have fD:=K31s.AGI (P:=l.prog) (w:=w) (base:=base) lD TS;have lW:=K31s.ADu (P:=l.prog) (w:=w) (base:=base) iW TS;have pR:=K31s.AHl (P:=l.prog) (w:=w) (mg:=mg) (base:=base) pH;have lX:=K31s.ACJ (P:=l.prog) (w:=w) (base:=base) gW TS;have lY:=K31s.ACR gO TS ⟨U_Sv.mk_,bx.at_,bx.fn,U_Sv.kp⟩ ⟨lX,gY,g8,gZ⟩ ⟨pR,pI,k_in,pJ⟩ lV iU;have bO:=K31s.AEw jM TS aU aJ aK fD cG cH;have lZ:=K31s.AHO oA TS aU aJ aK fD cG cH;have oU:=AFg jN T aq ak m_size pD jB jC;have cI:=AFb (P:=l.prog) (w:=w) (base:=base) jR T;have ig:Cls K Wy:=U_Wy.c;have cJ:=AFQ (P:=l.prog) (w:=w) (mg:=mg) (base:=base) iM;have dX:=λκ=>AAw (hf:=noK κ) cu T ig (BS X G bD) Nd cJ aX aY;have jk:=λκ=>ACt (hf:=noK κ) dD T ig Nd (dX κ) cA cB bJ aL aM ⟨cI,bV,bY,bW⟩;have dY:=λκ=>AAj (hf:=noK κ) bZ T ig Nd cJ aX aY;have oW:=λκ=>AGy (hf:=noK κ) (P:=l.prog) (w:=w) (base:=base) kZ Nd;have mj:=AFJ (P:=l.prog) (w:=w) (mg:=mg) (base:=base) iI;have jo:=λκ=>ABM (u:=uK κ) (D:=Wy) jc T O bJ aL aM ⟨oU,jO,jQ,jP⟩;have mq:=λκ=>ADq (C:=C) lE ig O (dY κ) cg cj;have dZ:=λκ=>Ob dM T ig O (mq κ) lF lG mj iJ iK (jk κ) dF dG (oW κ) lg lA aQ aR;have mC:=AFe lC T ig aA aq ak m_size;have jq:=Zx dH T ig aA mC cC cF aq ak m_size ⟨cI,bV,bY,bW⟩;have cL:=ADh (P:=l.prog) (w:=w) (mg:=mg) (base:=base) iQ ig aA;have fJ:=AEh iR T ig aA mC cC cF ⟨jg,cN,cP,cO⟩ ⟨GNone2,gJ,gM,gK⟩ ⟨oR,jE,jG,jF⟩;have aV:=λx=>ADM (κ:=x) iu ig O ⟨U_Gw.mk_,bC.at_,bC.fn,U_Gw.kp⟩ (jo x) jd (dZ x) aQ aR (jq x) dI dJ ⟨lY,gP,gU,gQ⟩;have oX:=ADQ jT T ⟨lN,d9,eG,eF⟩;have oY:=AEo jX ⟨lN,d9,eG,eF⟩ ⟨oX,jU,jW,jV⟩;have oZ:=AAx (P:=l.prog) (w:=w) (base:=base) j5 T;have jr:=AAp (P:=l.prog) (w:=w) (base:=base) cV T;have aW:=ABk (P:=l.prog) (w:=w) (base:=base) iw T;have pA:=ADs j9 T ⟨jr,cW,cY,cX⟩ ⟨oZ,j6,j8,j7⟩;have mD:=ACZ (P:=l.prog) (w:=w) (base:=base) iC T (BS X G oG);have pC:=AFd kJ T ⟨U_C.mk_,au.at_,au.fn,U_C.kp⟩ ig fj bQ aV aB aD aC ⟨bO,aN,aP,aO⟩ fJ bf bw ⟨aW,aF,aH,aG⟩;have jt:=ZR cZ T ⟨U_Wy.mk_,ao.at_,ao.fn,U_Wy.kp⟩ (FD X G U_Wy.y) cL aZ aV aB aD aC ⟨bO,aN,aP,aO⟩ ⟨lZ,eN,eV,eU⟩ ⟨aW,aF,aH,aG⟩;exact AGD oN T TS ⟨U_C.mk_,au.at_,au.fn,U_C.kp⟩ ⟨U_Wy.mk_,ao.at_,ao.fn,U_Wy.kp⟩ (FD X G U_Wy.y) ig ⟨mH,mJ,mO,mQ,mV⟩ pF (FD X G pQ) ⟨oO,jJ,jL,jK⟩ ⟨oY,jY,j4,jZ⟩ fj bQ cL aZ aV aB aD aC ⟨bO,aN,aP,aO⟩ ⟨mD,iD,iH,iG⟩ ⟨aW,aF,aH,aG⟩ ⟨pC,kO,kY,kW⟩ ⟨pA,kj,kI,kE⟩ ⟨lZ,eN,eV,eU⟩ fJ bf bw ⟨jt,dj,dB,dz⟩ lW iY iZ aU aJ aK
 exact⟨_,λs v=>.of_eq rfl,λbase _ _=>law_all base⟩
def walk{l:Pw}{q:AM}{d:DefRec}{K:XW->As}(hn:l.most=uA 63)(tH:d.params.defaults=[])
  (hY:∀(w:AS) (h:Heap),YP w h->(K w.params).In h)
  (F:∀(w:AS) (mg:Str->Option AA) (fa:Addr) (h:Heap),(K w.params).In h->h.Ns DC mg->mg d.name=uA (.ref fa) ->
   ∃fd:Bz,(∀(s:AC) (u:AA),QE s fd ⟨[u],[]⟩ [("_law_script",u)])/\∀base:Heap,(K w.params).In base->base.Ns DC mg->FnOk l.prog w (K w.params) mg base CX0 20 fa fd ["_law_script"] (Tw (K w.params))) :
  WB q dq XP YP l.row.toRowW d [] (λf vs=>UY f vs) :=
 L2.AFG (n:=63) (k:=20) (x:="_law_script") (CX:=λ_=>CX0) (sp:=λw=>Tw (K w.params)) hn (by decide) tH ⟨rfl,by decide,by decide,rfl⟩ hY F (λ_ _ a ns hl _ hS=>⟨a,ns,rfl,hS,hl,λ_=>rfl⟩) λ_ _ _ _ _ z=>z
end K31
open PySem PySem.W PyProof.Rows
set_option maxRecDepth 100000 in
set_option maxHeartbeats 0 in
theorem PySem.Challenge.cw_frontways_k31_whole_ways_holds : PySem.Challenge.rw_frontways_k31_whole_ways.Holds := by
 w_on;o_law;k_head;(case hw=>w_witness2)
 k_fill
 refine K31.walk (l:=PySem.Challenge.rw_frontways_k31_whole_ways) rfl rfl (λw h Y=>PySem.W.kIn_of Y) ?F
 case F =>
  intro w mg fa h KX G hmg;apply K31.all_mk KX G hmg
  all_goals first
   | (refine' L2.Df.of ?a ?l ?c ?k;(case a=>k_is);(case l=>k_is);(case c=>k_is);(case k=>k_is))
   | (refine' L2.Md.of ?a ?i ?l ?c ?k;(case a=>k_is);(case i=>k_is);(case l=>k_is);(case c=>k_is);(case k=>k_is))
   | (refine' L2.Kl.of ?y ?a ?b ?c ?d ?m ?k;(case y=>k_is);(case a=>k_is);(case b=>k_is);(case c=>k_is);(case d=>k_is);(case m=>k_is);(case k=>k_is))
   | ((first| refine L2.Nn.one ?_ ?_| refine L2.Na.one ?_ ?_);(repeat' first| exact True.intro| refine L2.Nn.one ?_ ?_| refine L2.Na.one ?_ ?_);all_goals k_is)
   | k_is| kit_is
